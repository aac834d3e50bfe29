/-
  Walks and plain facts that this claim leans on, put together out of 3 texts: Eio, Eiq, Eir.
-/
import Derived.Test.YtpopljcmkbchcaaGreatDoorProg
import Derived.Test.YtpopljcmkbchcaaGreatDoorQc1
import Derived.Test.YtpopljcmkbchcaaGreatDoorQc2
import Derived.Test.YtpopljcmkbchcaaGreatDoorQc3
import Derived.Test.YtpopljcmkbchcaaGreatDoorQc4
import Derived.Test.YtpopljcmkbchcaaGreatDoorQc6
import Derived.Test.YtpopljcmkbchcaaGreatDoorQc7
import Derived.Test.YtpopljcmkbchcaaGreatDoorQc8
import Derived.Test.YtpopljcmkbchcaaGreatDoorQc10
import Derived.Test.YtpopljcmkbchcaaGreatDoorQc11
import Derived.Test.YtpopljcmkbchcaaGreatDoorQc12
import Derived.Test.YtpopljcmkbchcaaGreatDoorQc16
import Derived.Test.YtpopljcmkbchcaaGreatDoorQc19
import Derived.Test.YtpopljcmkbchcaaGreatDoorQc20
import Derived.Test.YtpopljcmkbchcaaGreatDoorQc22
import Derived.Test.YtpopljcmkbchcaaGreatDoorQc23
import Derived.Test.YtpopljcmkbchcaaGreatDoorQc25
import Derived.Test.YtpopljcmkbchcaaGreatDoorQc26
import Derived.BigRegion
import Derived.Deep.RegionHeld
import Derived.Deep.RegionHeldLaw
import Derived.Lib.IndexAny
import Derived.WalkKit
import Derived.Lib.UnsafeStr
import Derived.Lib.BufferRead
import Derived.Lib.RuneBytes
import Derived.Laws.RangeAny
import Derived.Deep.LoopGhost
import Derived.Maps.OwnSet
import Derived.Maps.OwnOps
import Derived.Maps.AppendAt
import Derived.StringKeys
import Derived.BigQuiet
import Derived.Deep.QuietTactic
import Derived.LoopN
import Derived.RegionTactic
import Derived.Deep.RegionLaw
import Derived.Deep.RegionWith
import Derived.WalkSpells
import Derived.WalkLawsBesides
import Derived.Lib.FieldsP
import Derived.Lib.DecodeN
import Derived.Lib.IndexMore
import Derived.Lib.Join
import Derived.Lib.SmallJoins
import Derived.Laws.CopyOwn
import Derived.Laws.ResultCell
import Derived.Deep.MidRow
import Derived.Laws.OwnMore
import Derived.Below
import Derived.WalkSmall
import Derived.Lib.LaidTab
import Derived.Lib.AppendIntMem
import Derived.Laws.AppendOwn
import Derived.Laws.Runes
import Derived.Lib.OthersKept
import Derived.Lib.FrozenHead2
import Derived.Lib.Builder
import Derived.Lib.AppendStr
import Derived.Lib.Replace
import Derived.Shelf.GgClosure.GivesRunes
import Derived.Laws.BitsAll
import Derived.Laws.Shifts
import Derived.Deep.DeepAppendRoom
import Derived.Laws.IdiomStrings
import Derived.Laws.BytesString
import Derived.Laws.CopyRow
import Derived.Sort.OwnSorted
import Derived.Lib.SlicesCompact
import Derived.Sort.KeysCollected
import Derived.Lib.Case
import Derived.Maps.RangeWalk
import Derived.Lib.SlMapMerge
import Derived.Laws.IdiomRangeMap
import Derived.Deep.Cut
import Derived.Deep.CutRange
import Derived.Lib.LastIndexByte
import Derived.Shelf.SlIter.Nil
import Derived.Shelf.SortM.Plain
import Derived.Shelf.SortM.SortNone
import Derived.Lib.Strings
import Derived.Laws.BitsAllLaws
import Derived.Lib.Bytealg
import Derived.Lib.BufferMore
import Derived.OwnWalk
import Derived.Shelf.Strings.Builder1
import Derived.Shelf.Strings.Builder2
import Derived.Shelf.Strings.OnBuilder
import Derived.Shelf.Strings.Trim
import Derived.Shelf.Small.Utf8
import Derived.Shelf.Small.Bits
import Derived.Shelf.Small.Strs
import Derived.Shelf.Small.Wraps
import Derived.Shelf.Strings.BuilderF
import Derived.Shelf.Strings.BuilderK
import Derived.Shelf.Strings.BuilderRune
import Derived.Shelf.Utf8.AppendRune
import Derived.Shelf.Utf8.AppendRunePlain
import Derived.Shelf.Strings.Builder2Cap
import Derived.Shelf.Strconv.Itoa0
import Derived.Shelf.Strconv.Itoa1
import Derived.Shelf.LaysM
import Derived.Shelf.Strconv.Itoa2
import Derived.Shelf.Strconv.Itoa3
import Derived.Shelf.Strings.Search1
import Derived.Shelf.Strings.Search2
import Derived.Shelf.Strings.Cut
import Derived.Shelf.Strings.Shaped
import Derived.Shelf.Sort.Plain
import Derived.Shelf.Strings.Prefix
import Derived.Shelf.Unicode.Latin
import Derived.Shelf.Strings.Runes
import Derived.Shelf.Strings.IndexAny
import Derived.Shelf.Strings.AsciiSet
import Derived.Shelf.Strings.IndexAnyAll
import Derived.Shelf.Unicode.DecodeSlow
import Derived.Shelf.Unicode.DecodeAny
import Derived.Shelf.Unicode.DecodeLast
import Derived.Shelf.Unicode.CaseLookup
import Derived.Shelf.Unicode.CaseConvert
import Derived.Shelf.Unicode.CaseTo
import Derived.Shelf.Unicode.CaseLaid
import Derived.Shelf.Slices.CompactS
import Derived.Shelf.Slices.In.SortNone
import Derived.Laws.AppendOwnNone
import Derived.Scope
import Derived.ScopeJumps
import Derived.WalkMore
import Derived.Lib.TrimByte
import Derived.Lib.ItoaNum
import Derived.Deep.WholeRow
import Derived.Lib.SlTrimSet
import Derived.Shelf.Strings.SlTrimAscii
import Derived.Laws.Rows
import Derived.Laws.MakeOwn
set_option linter.unusedSimpArgs false
set_option linter.unusedVariables false

namespace Go.Proofs.YtpopljcmkbchcaaGreatDoor
open Go.RowKit

def minC (c : UInt8) : UInt8 := c - 32

def minTo (l : List UInt8) (k : Nat) : List UInt8 := (l.take k).map minC ++ l.drop k

theorem minTo_length (l : List UInt8) (k : Nat) : (minTo l k).length = l.length := by simp [minTo]; omega

theorem minTo_at (l : List UInt8) (k : Nat) (h : k < l.length) (h' : k < (minTo l k).length) : (minTo l k)[k] = l[k] := by
 simp [minTo, List.getElem_append, List.length_take]
 have : min k l.length = k := by omega
 simp [this]

theorem minTo_succ (l : List UInt8) (k : Nat) (h : k < l.length) : minTo l (k + 1) = (minTo l k).set k (minC l[k]) := by
 have e1 : (l.take k).length = k := by simp; omega
 unfold minTo
 rw [List.take_succ_eq_append_getElem h, List.drop_eq_getElem_cons h, List.map_append, List.set_append_right _ _ (by simp; omega)]
 have e2 : k - (List.map minC (List.take k l)).length = 0 := by simp; omega
 rw [e2, List.append_assoc]; rfl

theorem minTo_zero (l : List UInt8) : minTo l 0 = l := by simp [minTo]

theorem minTo_all (l : List UInt8) : minTo l l.length = l.map minC := by simp [minTo]

theorem minC_num (c : UInt8) (h1 : 97 ≤ c.toNat) : ((minC c).toNat : Int) = (c.toNat : Int) - 32 := by
 have h : ∀ n : Fin 256, 97 ≤ n.val → ((minC (UInt8.ofNat n.val)).toNat : Int) = (n.val : Int) - 32 := by decide +kernel
 have := h ⟨c.toNat, c.toNat_lt⟩ h1
 simpa using this

theorem up_min (X : List UInt8) (h : ∀ c ∈ X, 97 ≤ c.toNat ∧ c.toNat ≤ 122) : X.map minC = Lib.toUpperA X := by
 unfold Lib.toUpperA
 refine List.map_congr_left fun c hc => ?_
 have k : ∀ n : Fin 256, 97 ≤ n.val → n.val ≤ 122 → minC (UInt8.ofNat n.val) = Lib.upperB (UInt8.ofNat n.val) := by decide +kernel
 have := k ⟨c.toNat, c.toNat_lt⟩ (h c hc).1 (h c hc).2
 simpa using this

theorem big_low {x : List UInt8} (h : bigM x = true) : ∀ c ∈ x, 97 ≤ c.toNat ∧ c.toNat ≤ 122 := by
 rcases big_cases h with e | e | e | e | e | e <;> (rw [e]; decide)

theorem big_size {x : List UInt8} (h : bigM x = true) : x.length ≤ 7 := by
 rcases big_cases h with e | e | e | e | e | e <;> (rw [e]; decide)

def sixM : List (List UInt8) := [mDelete, mGet, mHead, mOptions, mPost, mPut]

theorem six_big (x : List UInt8) : (sixM.any fun y => isL x y) = bigM x := by
 unfold sixM bigM isL
 simp [Bool.or_assoc]

theorem tx_lit18 (w : World) (cs : List ByteArray) (n : Nat) (hn : cs.length = n) (h : n ≤ 1000) : TxAt (w.alloc (.cells (cs.map Value.string).toArray 9)) (.slice (some ⟨w.heap.size, 0, none⟩) n n) (cs.map (·.data.toList)) := by
 subst hn
 have h1 := World.ownsRow_lit (base := w.heap.size) (e := 9) (size := 1) w (cs.map Value.string).toArray cs.length (Nat.le_refl _) (by unfold maxLen; omega) (by simp)
 rw [List.toList_toArray] at h1
 have e : cs.map Value.string = cellsT (cs.map (·.data.toList)) := by
  unfold cellsT
  rw [List.map_map]
  exact List.map_congr_left fun c _ => by show Value.string c = Value.string ⟨c.data.toList.toArray⟩; rw [Lib.mk_data]
 rw [e, show cs.length = (cs.map (·.data.toList)).length by rw [List.length_map]] at h1
 have := own_txt' h1
 rw [List.length_map] at this
 rw [e]
 exact this

set_option maxHeartbeats 8000000 in
set_option maxRecDepth 100000 in
theorem rmethod18_any (s : ByteArray) (w : World) (hs : s.size ≤ 1000000) :
  Calls Tryz.prog 44 #[.string s] w (MePost s.data.toList w) := by
 obtain ⟨X, hX⟩ : ∃ X : ByteArray, X = ⟨(low s.data.toList).toArray⟩ := ⟨_, rfl⟩
 have hXl : low s.data.toList = X.data.toList := by rw [hX]
 have HL : Hid (∀ w : World, Calls Tryz.prog 79 #[.string s] w fun e w' => e = .returned (.string X) ∧ Below w.heap.size w w') := fun w => by
  have := rlower_any_Ra s w (by omega)
  rw [← hX] at this
  exact this
 clear hX
 cases ht : tokL s.data.toList with
 | false =>
  have hb : methB s.data.toList = false := by unfold methB; rw [ht]; rfl
  have HN := hid hb
  have HT : Hid (∀ w : World, Calls Tryz.prog 95 #[.string s] w fun e w' => e = .returned (.bool false) ∧ w = w') := fun w => by
   have := rtoken_any s w (by omega)
   rw [ht] at this
   exact this
  clear ht hb hXl
  go_enter Tryz.func44, Tryz.ntmps44
  go_wp2_with fail
  refine (HL.out _).mono ?_
  rintro e w1 ⟨rfl, hb1⟩
  have HB := hid hb1
  clear hb1
  go_wp2_with fail
  refine (HT.out _).mono ?_
  rintro e w2 ⟨rfl, rfl⟩
  go_wp2_with fail
  go_ret2
  exact me_end (me_no HN.out) HN.out HB.out
 | true =>
 have HT : Hid (∀ w : World, Calls Tryz.prog 95 #[.string s] w fun e w' => e = .returned (.bool true) ∧ w = w') := fun w => by
  have := rtoken_any s w (by omega)
  rw [ht] at this
  exact this
 cases hn : noM X.data.toList with
 | true =>
  have hb : methB s.data.toList = false := by unfold methB; rw [hXl, hn, ht]; rfl
  have HN := hid hb
  clear ht hb hXl
  rcases no_cases hn with e | e | e
  all_goals
   have e1 := lst_yes e
   first | unfold mConnect at e1 | unfold mTrace at e1 | unfold mTrack at e1
   clear e hn
   subst e1
   go_enter Tryz.func44, Tryz.ntmps44
   go_wp2_with fail
   refine (HL.out _).mono ?_
   rintro e w1 ⟨rfl, hb1⟩
   have HB := hid hb1
   clear hb1
   go_wp2_with fail
   refine (HT.out _).mono ?_
   rintro e w2 ⟨rfl, rfl⟩
   go_wp2_with fail
   go_ret2
   exact me_end (me_no HN.out) HN.out HB.out
 | false =>
 have hb : methB s.data.toList = true := by unfold methB; rw [hXl, hn, ht]; rfl
 have HB0 := hid hb
 obtain ⟨n1, n2, n3⟩ := noM_no hn
 have m1 := lst_ne n1
 have m2 := lst_ne n2
 have m3 := lst_ne n3
 unfold mConnect at m1
 unfold mTrace at m2
 unfold mTrack at m3
 have HH := hid (fun (v : Value) (Z : World) (hZ : TxAt Z v sixM) => rhas_any v sixM X Z hZ (by decide))
 rw [six_big] at HH
 clear hn n1 n2 n3 ht
 cases hg : bigM X.data.toList with
 | true =>
  have hm : methT s.data.toList = X.data.toList.map minC := by
   rw [up_min _ (big_low hg), ← hXl, up_low]
   unfold methT; rw [hb, hXl, hg]; rfl
  rw [hg] at HH
  have HM := hid hm
  have HLw := hid (big_low hg)
  have hXs : X.size ≤ 7 := by rw [Lib.size_eq]; exact big_size hg
  clear hXl hm hb hg
  go_enter Tryz.func44, Tryz.ntmps44
  go_wp2_with fail
  refine (HL.out _).mono ?_
  rintro e w1 ⟨rfl, hb1⟩
  have HB := hid hb1
  clear hb1
  go_wp2_with fail
  refine (HT.out _).mono ?_
  rintro e w2 ⟨rfl, rfl⟩
  go_wp2_with fail
  refine (HH.out _ _ (tx_lit18 w1 [⟨#[100, 101, 108, 101, 116, 101]⟩, ⟨#[103, 101, 116]⟩, ⟨#[104, 101, 97, 100]⟩, ⟨#[111, 112, 116, 105, 111, 110, 115]⟩, ⟨#[112, 111, 115, 116]⟩, ⟨#[112, 117, 116]⟩] 6 rfl (by decide))).mono ?_
  rintro e w3 ⟨rfl, rfl⟩
  obtain ⟨W2, hW2⟩ : ∃ Z, w1.alloc (.cells #[.string ⟨#[100, 101, 108, 101, 116, 101]⟩, .string ⟨#[103, 101, 116]⟩, .string ⟨#[104, 101, 97, 100]⟩, .string ⟨#[111, 112, 116, 105, 111, 110, 115]⟩, .string ⟨#[112, 111, 115, 116]⟩, .string ⟨#[112, 117, 116]⟩] 9) = Z := ⟨_, rfl⟩
  have hb2 : Below w.heap.size w W2 := by rw [← hW2]; exact HB.out.alloc HB.out.size _
  go_upto_region 6 with fail
  try simp only [hW2]
  clear hW2 m1 m2 m3
  have hcv := run_bytes_of_string (P := Tryz.prog) W2 9 28 5 X Tryz.underlying9 Tryz.underlying28 Tryz.underlying5
  have hcap := grownCap_ge W2 X.size 0 5
  have hr0 := rowIs_bytes W2 5 X (grownCap W2 X.size 0 5) hcap
  have hb0 : Below W2.heap.size W2 (W2.drew.alloc (.cells (bytesRow X (grownCap W2 X.size 0 5)) 5 ((bytesRow X (grownCap W2 X.size 0 5)).size, (bytesRow X (grownCap W2 X.size 0 5)).size + 1))) := (Below.refl _ W2).drew.alloc (Nat.le_refl _) _
  generalize (W2.drew.alloc (.cells (bytesRow X (grownCap W2 X.size 0 5)) 5 ((bytesRow X (grownCap W2 X.size 0 5)).size, (bytesRow X (grownCap W2 X.size 0 5)).size + 1))) = w0 at hcv hr0 hb0
  generalize grownCap W2 X.size 0 5 = cap at hcv hcap
  go_wp2
  clear hcv
  have HB2 := hid hb2
  go_loopw [6] (fun i wr => ∃ k : Nat, k ≤ X.size ∧ i = .int .i64 k ∧ rowIs wr W2.heap.size 5 (minTo X.data.toList k) ∧ Below W2.heap.size W2 wr)
   (fun i _ => X.size - (intOf i).toNat)
  case atStart => exact ⟨0, Nat.zero_le _, rfl, by rw [minTo_zero]; exact hr0, hb0⟩
  case round =>
   obtain ⟨k, hk, rfl, hr, hbw⟩ := hrel
   by_cases hlt : k < X.size
   ·have hl : k < X.data.toList.length := by simpa using hlt
    have hl' : k < (minTo X.data.toList k).length := by rw [minTo_length]; exact hl
    have hc := hr.cell k hl'
    rw [minTo_at _ _ hl] at hc
    have hf := hr.frozen k hl'
    have hsucc := minTo_succ X.data.toList k hl
    have hlw := HLw.out _ (List.getElem_mem hl)
    generalize X.data.toList[k] = c at hc hsucc hlw
    have HS := hid hsucc
    clear hsucc
    have hc8 : c.toNat < 256 := c.toNat_lt
    have HC := hid (minC_num c hlw.1)
    have h1 : (97 : Int) ≤ (c.toNat : Int) := by omega
    have h2 : (c.toNat : Int) ≤ 122 := by omega
    clear hlw
    go_wp2
    go_roundw
    case rel =>
     refine ⟨k + 1, by omega, by go_num, ?_, hbw.setCell (p := ⟨W2.heap.size, k, none⟩) (Nat.le_refl _) _⟩
     rw [HS.out, ← HC.out]
     exact hr.set k _
    case measure => simp [intOf]; omega
   ·have hk' : k = X.data.toList.length := by simp; omega
    have hr' : rowIs wr W2.heap.size 5 (X.data.toList.map minC) := by rw [← minTo_all, ← hk']; exact hr
    clear hr hk'
    have hcv := hr'.string (P := Tryz.prog) (src := 28) (dst := 9) (cap := cap) Tryz.underlying28 Tryz.underlying5 Tryz.underlying9
    rw [show (X.data.toList.map minC).length = X.size by simp] at hcv
    go_wp2
    go_ret2
    exact me_end HM.out HB0.out (HB2.out.trans (hbw.mono HB2.out.size))
 | false =>
  have hm : methT s.data.toList = s.data.toList := by unfold methT; rw [hb, hXl, hg]; rfl
  rw [hg] at HH
  have HM := hid hm
  clear hXl hm hb hg
  go_enter Tryz.func44, Tryz.ntmps44
  go_wp2_with fail
  refine (HL.out _).mono ?_
  rintro e w1 ⟨rfl, hb1⟩
  have HB := hid hb1
  clear hb1
  go_wp2_with fail
  refine (HT.out _).mono ?_
  rintro e w2 ⟨rfl, rfl⟩
  go_wp2_with fail
  refine (HH.out _ _ (tx_lit18 w1 [⟨#[100, 101, 108, 101, 116, 101]⟩, ⟨#[103, 101, 116]⟩, ⟨#[104, 101, 97, 100]⟩, ⟨#[111, 112, 116, 105, 111, 110, 115]⟩, ⟨#[112, 111, 115, 116]⟩, ⟨#[112, 117, 116]⟩] 6 rfl (by decide))).mono ?_
  rintro e w3 ⟨rfl, rfl⟩
  go_wp2_with fail
  go_ret2
  have := me_end HM.out HB0.out (HB.out.alloc HB.out.size (.cells #[.string ⟨#[100, 101, 108, 101, 116, 101]⟩, .string ⟨#[103, 101, 116]⟩, .string ⟨#[104, 101, 97, 100]⟩, .string ⟨#[111, 112, 116, 105, 111, 110, 115]⟩, .string ⟨#[112, 111, 115, 116]⟩, .string ⟨#[112, 117, 116]⟩] 9))
  exact this

theorem rsimple18_any (s : ByteArray) (w : World) : Calls Tryz.prog 46 #[.string s] w fun e w' => e = .returned (.bool (simM s.data.toList)) ∧ w = w' := by
 obtain ⟨b, hb⟩ : ∃ b, b = simM s.data.toList := ⟨_, rfl⟩
 rw [← hb]
 by_cases h1 : s.data.toList = [71, 69, 84]
 ·have e1 := lst_yes h1
  subst e1
  obtain rfl : b = true := by rw [hb]; rfl
  clear hb h1
  go_enter Tryz.func46, Tryz.ntmps46
  go_wp2_with fail
  go_ret
  exact ⟨rfl, rfl⟩
 by_cases h2 : s.data.toList = [72, 69, 65, 68]
 ·have e1 := lst_yes h2
  subst e1
  obtain rfl : b = true := by rw [hb]; rfl
  clear hb h1 h2
  go_enter Tryz.func46, Tryz.ntmps46
  go_wp2_with fail
  go_ret
  exact ⟨rfl, rfl⟩
 by_cases h3 : s.data.toList = [80, 79, 83, 84]
 ·have e1 := lst_yes h3
  subst e1
  obtain rfl : b = true := by rw [hb]; rfl
  clear hb h1 h2 h3
  go_enter Tryz.func46, Tryz.ntmps46
  go_wp2_with fail
  go_ret
  exact ⟨rfl, rfl⟩
 have m1 := lst_ne h1
 have m2 := lst_ne h2
 have m3 := lst_ne h3
 obtain rfl : b = false := by rw [hb]; unfold simM; simp [h1, h2, h3]
 clear hb h1 h2 h3
 go_enter Tryz.func46, Tryz.ntmps46
 go_wp2_with fail
 go_ret
 exact ⟨rfl, rfl⟩

end Go.Proofs.YtpopljcmkbchcaaGreatDoor

namespace Go.Proofs.YtpopljcmkbchcaaGreatDoor
open Go.RowKit

theorem hasT_any {L : List (List UInt8)} {x : List UInt8} {i : Nat} (h : i < L.length) (e : L[i] = x) : hasT L x = true := by
 unfold hasT
 rw [List.any_eq_true]
 exact ⟨x, by rw [← e]; exact List.getElem_mem h, by simp⟩

theorem hasT_no {L : List (List UInt8)} {x : List UInt8} (h : ∀ i (hi : i < L.length), ¬ L[i] = x) : hasT L x = false := by
 unfold hasT
 rw [List.any_eq_false]
 intro y hy
 obtain ⟨i, hi, rfl⟩ := List.getElem_of_mem hy
 simpa using fun e => h i hi e.symm

def RxI (P : List (List UInt8)) (w : World) (i : Nat) (v : Value) (wr : World) : Prop :=
 wr.ownsRow w.heap.size 9 1 v (exN (P.take i)).length (cellsT (exN (P.take i))) ∧ Below w.heap.size w wr

def NoStar (P : List (List UInt8)) (c : Bool) (i : Nat) : Prop := c = false → ∀ j (h : j < P.length), j < i → ¬ P[j] = [42]

theorem infoTxE : (Tryz.prog.info? 9).map (fun i => (i.zero, i.size, i.bytes)) = some (some (.string ByteArray.empty), 1, 16) := by kernel_rfl

set_option maxHeartbeats 16000000 in
set_option maxRecDepth 100000 in
theorem rexposed18_any (v : Value) (L : List Hd) (c : Bool) (w : World) (h : HdAt w v L) (hz : Szd 140737488351232 L) (hl : L.length ≤ 1000000) (hb : bulkV L ≤ 90000) (hz2 : ∀ x ∈ exPs L, x.length ≤ 1000000) (hpl : (exPs L).length ≤ 100000) :
  Calls Tryz.prog 45 #[v, .bool c] w (ExP L c w) := by
 obtain ⟨i0, hi, hz0, hz1, hzz2⟩ := info3 infoTxE
 have HSp := hid (rsplit_any_Cb v L ⟨nEH.toArray⟩ w h (by decide) hz hl (by omega))
 simp only [show (⟨nEH.toArray⟩ : ByteArray).data.toList = nEH from rfl] at HSp
 rw [show pcsV L nEH = exPs L from rfl] at HSp
 unfold ExP exT exAll
 generalize getB L nEH = gb at HSp
 obtain ⟨P, hP⟩ : ∃ P, exPs L = P := ⟨_, rfl⟩
 rw [hP] at HSp hz2 hpl ⊢
 obtain ⟨A, hA⟩ : ∃ A, (!c && hasT P [42]) = A := ⟨_, rfl⟩
 rw [hA]
 have HAe := hid hA
 have HZ := hid hz2
 obtain ⟨n, hn⟩ : ∃ n, n = P.length := ⟨_, rfl⟩
 have HN := hid hn
 rw [← hn] at hpl
 have HX := hid (fun i => show (exN (P.take i)).length ≤ 100000 from Nat.le_trans (exN_len _) (by rw [List.length_take]; omega))
 have HXz := hid (fun i => show ∀ x ∈ exN (P.take i), x.length ≤ 1000000 from fun x hx => by
  unfold exN at hx
  obtain ⟨y, hy, rfl⟩ := List.mem_map.1 hx
  rw [show (low y).length = y.length by simp [low]]
  exact hz2 y (List.mem_of_mem_take (List.mem_filter.1 hy).1))
 have HT := hid (fun i (h : i < P.length) => exN_take P i h)
 have HA := hid (show P.take P.length = P from List.take_length)
 unfold RsPost at HSp
 rw [← hn] at HA
 clear h hz hl hb hz2 hP hn hA
 go_enter Tryz.func45, Tryz.ntmps45
 go_wp2_with fail
 refine HSp.out.mono ?_
 rintro e w1 ⟨u, rfl, hown, hb1⟩
 have htx := own_txt' hown
 obtain ⟨a1, c1, hu, hc1, hm1, hv1⟩ := htx.view
 rw [← HN.out] at hu
 subst hu
 have V1 := hid hv1
 have HB1 := hid hb1
 clear hown htx hv1 hb1 HSp hc1 hm1
 go_wp2_with fail
 go_loopw [8, 9] (fun ov iv wr => ∃ (i : Nat), i ≤ n ∧ iv = .int .i64 i ∧ Hid (RxI P w1 i ov wr) ∧ Hid (NoStar P c i)) (fun _ iv _ => n - (intOf iv).toNat)
 case atStart => exact ⟨0, Nat.zero_le _, rfl, ⟨World.ownsRow_nil _ _ _ _, Below.refl _ _⟩, fun _ j _ h => by omega⟩
 case round =>
  obtain ⟨i, hil, rfl, HS, HNs⟩ := hrel
  have HBw := hid HS.out.2
  by_cases hlt : i < n
  ·have hlt' : (i : Int) < (n : Int) := by omega
   have hiP : i < P.length := by have := HN.out; omega
   obtain ⟨b1, o1, rfl, e1⟩ := V1.out i hiP
   obtain ⟨X, hX⟩ : ∃ x : ByteArray, x = ⟨P[i].toArray⟩ := ⟨_, rfl⟩
   have hXl : P[i] = X.data.toList := by rw [hX]
   have hst := HT.out i hiP
   have hxz := HZ.out _ (List.getElem_mem hiP)
   have HPi := hid hXl
   rw [hXl] at hst hxz
   rw [← hX] at e1
   have e2 : wr.cell? ⟨b1, o1 + i, none⟩ = some (.string X) := (HBw.out.cell (World.block_lt_of_cell? w1 _ e1)).trans e1
   have hXs : X.size ≤ 1000000 := by rw [Lib.size_eq]; exact hxz
   have HSt := hid hst
   have HStep : Hid (c = false → ¬ X.data.toList = [42] → NoStar P c (i + 1)) := fun hc hx _ j hj hji => by
    by_cases hje : j = i
    ·subst hje; rw [HPi.out]; exact hx
    ·exact HNs.out hc j hj (by omega)
   have HStar : Hid (c = false → X.data.toList = [42] → hasT P [42] = true) := fun _ hx => hasT_any hiP (by rw [HPi.out, hx])
   clear hX hXl hst hxz e1
   have HTk := hid (fun w => rtoken_any X w (by omega))
   cases c with
   | false =>
    by_cases hx : X.data.toList = [42]
    ·have hs := HStar.out rfl hx
     obtain rfl : A = true := by rw [← HAe.out, hs]; rfl
     have e3 := lst_yes hx
     have HR := hid HS.out.2
     clear HStep HStar HNs HS HSt HPi HTk hs hx
     subst e3
     go_wp2_with fail
     go_ret2
     exact ⟨_, rfl, World.ownsRow_nil _ _ _ _, below2 HB1.out HR.out⟩
    ·have HNx := HStep.out rfl hx
     have e3 := lst_ne hx
     have HNx := hid HNx
     clear HStep HStar HNs HPi hx
     have o1 := HS.out.1
     have HBr := hid HS.out.2
     have hsz := HS.out.2.size
     have HO := hid o1
     have hlen := HX.out i
     go_wp2_with fail
     refine (HTk.out _).mono ?_
     rintro e w3 ⟨rfl, rfl⟩
     cases htk : tokL X.data.toList with
     | false =>
      have HE := hid (show exN (P.take (i + 1)) = exN (P.take i) by rw [HSt.out, htk]; rfl)
      clear htk
      go_wp2_with fail
      go_roundw
      case rel => exact ⟨i + 1, by omega, by go_num, ⟨by rw [HE.out]; exact HO.out, HBr.out⟩, HNx.out⟩
      case measure => simp [intOf]; omega
     | true =>
      have HE := hid (show exN (P.take (i + 1)) = exN (P.take i) ++ [low X.data.toList] by rw [HSt.out, htk]; rfl)
      obtain ⟨Y, hY⟩ : ∃ Y : ByteArray, Y = ⟨(low X.data.toList).toArray⟩ := ⟨_, rfl⟩
      have hYl : low X.data.toList = Y.data.toList := by rw [hY]
      have HLw := hid (fun w => rlower_any_Ra X w (by omega))
      rw [← hY] at HLw
      rw [hYl] at HE
      obtain ⟨ao, no, co, rfl⟩ := ownsRow_slice o1
      clear htk hY hYl o1
      go_wp2_with fail
      refine (HLw.out _).mono ?_
      rintro e w4 ⟨rfl, hb4⟩
      have HO4 := hid (own_same HO.out hb4)
      have HB4 := hid (below2 HBr.out hb4)
      have hs4 := hb4.size
      clear hb4
      go_wp2_with (at_builtin; go_must (refine wpList_append_own _ rfl _ _ 50 rfl w1.heap.size 9 i0 (.string ByteArray.empty) 1 16 Tryz.underlying50 hi hz0 hz1 hzz2 rfl (by decide) _ _ _ rfl (HO4.out.alloc _) ⟨w4.heap.size, 0, none⟩ 1 1 [.string Y] rfl rfl ?a1 ?a2 ?a3 ?a4 ?a5 ?_))
      case a1 =>
       intro q u hq
       match q, hq with
       | 0, hq => simp at hq; subst hq; simp [Addr.add]
      case a2 => intro u hu; simp at hu; subst hu; rfl
      case a3 => unfold maxLen; omega
      case a4 => omega
      case a5 => have := HB4.out.size; simp; omega
      intro v5 w5 hown5 hgrow5 hnil5
      have HO5 := hid hown5
      have HB5 := hid (show Below w1.heap.size w1 w5 from (HB4.out.alloc HB4.out.size _).grown hgrow5 (by simp; have := HB4.out.size; omega) (fun g hg => (HO4.out.lt g hg).1))
      clear hown5 hgrow5 hnil5
      go_wp2_with fail
      go_roundw
      case rel =>
       refine ⟨i + 1, by omega, by go_num, ⟨?_, HB5.out⟩, HNx.out⟩
       rw [HE.out, cellsT_app, cellsT_one, List.length_append]
       exact HO5.out
      case measure => simp [intOf]; omega
   | true =>
    have HNx : Hid (NoStar P true (i + 1)) := fun h => by cases h
    clear HStep HStar HNs HPi
    by_cases hx : X.data.toList = [42]
    ·have e3 : (X.toList == [42]) = true := by rw [Lib.toList_data, hx]; rfl
     clear hx
     have o1 := HS.out.1
     have HBr := hid HS.out.2
     have hsz := HS.out.2.size
     have HO := hid o1
     have hlen := HX.out i
     go_wp2_with fail
     refine (HTk.out _).mono ?_
     rintro e w3 ⟨rfl, rfl⟩
     cases htk : tokL X.data.toList with
     | false =>
      have HE := hid (show exN (P.take (i + 1)) = exN (P.take i) by rw [HSt.out, htk]; rfl)
      clear htk
      go_wp2_with fail
      go_roundw
      case rel => exact ⟨i + 1, by omega, by go_num, ⟨by rw [HE.out]; exact HO.out, HBr.out⟩, HNx.out⟩
      case measure => simp [intOf]; omega
     | true =>
      have HE := hid (show exN (P.take (i + 1)) = exN (P.take i) ++ [low X.data.toList] by rw [HSt.out, htk]; rfl)
      obtain ⟨Y, hY⟩ : ∃ Y : ByteArray, Y = ⟨(low X.data.toList).toArray⟩ := ⟨_, rfl⟩
      have hYl : low X.data.toList = Y.data.toList := by rw [hY]
      have HLw := hid (fun w => rlower_any_Ra X w (by omega))
      rw [← hY] at HLw
      rw [hYl] at HE
      obtain ⟨ao, no, co, rfl⟩ := ownsRow_slice o1
      clear htk hY hYl o1
      go_wp2_with fail
      refine (HLw.out _).mono ?_
      rintro e w4 ⟨rfl, hb4⟩
      have HO4 := hid (own_same HO.out hb4)
      have HB4 := hid (below2 HBr.out hb4)
      have hs4 := hb4.size
      clear hb4
      go_wp2_with (at_builtin; go_must (refine wpList_append_own _ rfl _ _ 50 rfl w1.heap.size 9 i0 (.string ByteArray.empty) 1 16 Tryz.underlying50 hi hz0 hz1 hzz2 rfl (by decide) _ _ _ rfl (HO4.out.alloc _) ⟨w4.heap.size, 0, none⟩ 1 1 [.string Y] rfl rfl ?b1 ?b2 ?b3 ?b4 ?b5 ?_))
      case b1 =>
       intro q u hq
       match q, hq with
       | 0, hq => simp at hq; subst hq; simp [Addr.add]
      case b2 => intro u hu; simp at hu; subst hu; rfl
      case b3 => unfold maxLen; omega
      case b4 => omega
      case b5 => have := HB4.out.size; simp; omega
      intro v5 w5 hown5 hgrow5 hnil5
      have HO5 := hid hown5
      have HB5 := hid (show Below w1.heap.size w1 w5 from (HB4.out.alloc HB4.out.size _).grown hgrow5 (by simp; have := HB4.out.size; omega) (fun g hg => (HO4.out.lt g hg).1))
      clear hown5 hgrow5 hnil5
      go_wp2_with fail
      go_roundw
      case rel =>
       refine ⟨i + 1, by omega, by go_num, ⟨?_, HB5.out⟩, HNx.out⟩
       rw [HE.out, cellsT_app, cellsT_one, List.length_append]
       exact HO5.out
      case measure => simp [intOf]; omega
    ·have e3 := lst_ne hx
     clear hx
     have o1 := HS.out.1
     have HBr := hid HS.out.2
     have hsz := HS.out.2.size
     have HO := hid o1
     have hlen := HX.out i
     go_wp2_with fail
     refine (HTk.out _).mono ?_
     rintro e w3 ⟨rfl, rfl⟩
     cases htk : tokL X.data.toList with
     | false =>
      have HE := hid (show exN (P.take (i + 1)) = exN (P.take i) by rw [HSt.out, htk]; rfl)
      clear htk
      go_wp2_with fail
      go_roundw
      case rel => exact ⟨i + 1, by omega, by go_num, ⟨by rw [HE.out]; exact HO.out, HBr.out⟩, HNx.out⟩
      case measure => simp [intOf]; omega
     | true =>
      have HE := hid (show exN (P.take (i + 1)) = exN (P.take i) ++ [low X.data.toList] by rw [HSt.out, htk]; rfl)
      obtain ⟨Y, hY⟩ : ∃ Y : ByteArray, Y = ⟨(low X.data.toList).toArray⟩ := ⟨_, rfl⟩
      have hYl : low X.data.toList = Y.data.toList := by rw [hY]
      have HLw := hid (fun w => rlower_any_Ra X w (by omega))
      rw [← hY] at HLw
      rw [hYl] at HE
      obtain ⟨ao, no, co, rfl⟩ := ownsRow_slice o1
      clear htk hY hYl o1
      go_wp2_with fail
      refine (HLw.out _).mono ?_
      rintro e w4 ⟨rfl, hb4⟩
      have HO4 := hid (own_same HO.out hb4)
      have HB4 := hid (below2 HBr.out hb4)
      have hs4 := hb4.size
      clear hb4
      go_wp2_with (at_builtin; go_must (refine wpList_append_own _ rfl _ _ 50 rfl w1.heap.size 9 i0 (.string ByteArray.empty) 1 16 Tryz.underlying50 hi hz0 hz1 hzz2 rfl (by decide) _ _ _ rfl (HO4.out.alloc _) ⟨w4.heap.size, 0, none⟩ 1 1 [.string Y] rfl rfl ?d1 ?d2 ?d3 ?d4 ?d5 ?_))
      case d1 =>
       intro q u hq
       match q, hq with
       | 0, hq => simp at hq; subst hq; simp [Addr.add]
      case d2 => intro u hu; simp at hu; subst hu; rfl
      case d3 => unfold maxLen; omega
      case d4 => omega
      case d5 => have := HB4.out.size; simp; omega
      intro v5 w5 hown5 hgrow5 hnil5
      have HO5 := hid hown5
      have HB5 := hid (show Below w1.heap.size w1 w5 from (HB4.out.alloc HB4.out.size _).grown hgrow5 (by simp; have := HB4.out.size; omega) (fun g hg => (HO4.out.lt g hg).1))
      clear hown5 hgrow5 hnil5
      go_wp2_with fail
      go_roundw
      case rel =>
       refine ⟨i + 1, by omega, by go_num, ⟨?_, HB5.out⟩, HNx.out⟩
       rw [HE.out, cellsT_app, cellsT_one, List.length_append]
       exact HO5.out
      case measure => simp [intOf]; omega
  ·obtain rfl : i = n := by omega
   have o1 := HS.out.1
   rw [HA.out] at o1
   have hsz := HS.out.2.size
   have htx := own_txt' o1
   have HB := hid HS.out.2
   have hXl := HX.out i
   have hXz := HXz.out i
   rw [HA.out] at hXl hXz
   obtain rfl : A = false := by
    rw [← HAe.out]
    cases c with
    | true => rfl
    | false =>
     rw [hasT_no fun j hj => HNs.out rfl j hj (by have := HN.out; omega)]
     rfl
   have HSo := hid (rsorted1_any _ (exN P) wr htx hXl hXz)
   obtain ⟨ao, no, co, rfl⟩ := ownsRow_slice o1
   clear o1 htx hXl hXz HNs HS
   go_wp2_with fail
   refine HSo.out.mono ?_
   rintro e w5 ⟨u, rfl, hown5, hb5⟩
   have HO5 := hid (ownsRow_lower hown5 (Nat.le_trans HB1.out.size hsz))
   have HB5 := hid (below2 HB1.out (below2 HB.out hb5))
   clear hown5 hb5
   go_wp2_with fail
   go_ret2
   exact ⟨_, rfl, HO5.out, HB5.out⟩

end Go.Proofs.YtpopljcmkbchcaaGreatDoor

namespace Go.Proofs.YtpopljcmkbchcaaGreatDoor
open Go.RowKit

theorem oth_mem {L : List Hd} {n : Nat} (hz : Szd n L) : ∀ x ∈ othN L, x.length ≤ n := fun x hx => by
 unfold othN at hx
 obtain ⟨y, hy, rfl⟩ := List.mem_map.1 hx
 unfold nm18
 rw [show (low y.name).length = y.name.length by simp [low]]
 exact (hz y (List.mem_filter.1 hy).1).1

theorem saf_mem {L : List Hd} {n : Nat} (hz : Szd n L) : ∀ x ∈ safN L, x.length ≤ n := fun x hx => by
 unfold safN at hx
 obtain ⟨y, hy, rfl⟩ := List.mem_map.1 hx
 unfold nm18
 rw [show (low y.name).length = y.name.length by simp [low]]
 exact (hz y (List.mem_filter.1 hy).1).1

theorem saf_pos {L : List Hd} (h : 1024 < safZ L) : 0 < (safN L).length := by
 unfold safZ at h
 unfold safN
 rw [List.length_map]
 cases hf : L.filter (fun h => safeV h.name h.value) with
 | nil => rw [hf] at h; simp at h
 | cons a t => simp

def RuI (L : List Hd) (w : World) (i : Nat) (ov sv : Value) (wr : World) : Prop :=
 wr.ownsRow w.heap.size 9 1 ov (othN (L.take i)).length (cellsT (othN (L.take i))) ∧ wr.ownsRow w.heap.size 9 1 sv (safN (L.take i)).length (cellsT (safN (L.take i))) ∧ (∀ g, ov.ownBlock = some g → sv.ownBlock ≠ some g) ∧ Below w.heap.size w wr

theorem RuI.below {L : List Hd} {w : World} {i : Nat} {ov sv : Value} {wr w2 : World} (h : RuI L w i ov sv wr) (hb : Below wr.heap.size wr w2) : RuI L w i ov sv w2 :=
 ⟨own_same h.1 hb, own_same h.2.1 hb, h.2.2.1, h.2.2.2.trans (hb.mono h.2.2.2.size)⟩

theorem app_ne18 {w : World} {v v' u : Value} {n : Nat} (hw : AppAt w v v' n) (hne : ∀ g, v.ownBlock = some g → u.ownBlock ≠ some g) (hu : ∀ g, u.ownBlock = some g → g < w.heap.size) : ∀ g, v'.ownBlock = some g → u.ownBlock ≠ some g := by
 obtain ⟨g, cap, rfl, hg⟩ := hw
 intro g' e h
 have e : some g = some g' := e
 injection e with e
 subst e
 rcases hg with hg | hg
 ·exact hne g hg h
 ·have := hu g h; omega

set_option maxHeartbeats 16000000 in
set_option maxRecDepth 100000 in
theorem runsafe18_any (v : Value) (L : List Hd) (w : World) (h : HdAt w v L) (hl : L.length ≤ 1000) (hz : Szd 1000000 L) :
  Calls Tryz.prog 47 #[v] w fun e w' => ∃ u, e = .returned u ∧ w'.ownsRow w.heap.size 9 1 u (unsV L).length (cellsT (unsV L)) ∧ Below w.heap.size w w' := by
 obtain ⟨i0, hi, hz0, hz1, hzz2⟩ := info3 infoTxE
 obtain ⟨a1, c1, rfl, hc1, hm1, hv1⟩ := h.view
 have V1 := hid hv1
 have HZ := hid hz
 have HSl := hid (fun i => show safZ (L.take i) ≤ 1000000 * 1000 from Nat.le_trans (safZ_le (L.take i) 1000000 (fun x hx => hz x (List.mem_of_mem_take hx))) (Nat.mul_le_mul_left _ (by rw [List.length_take]; omega)))
 have HOl := hid (fun i => show (othN (L.take i)).length ≤ 1000 from Nat.le_trans (oth_len _) (by rw [List.length_take]; omega))
 have HNl := hid (fun i => show (safN (L.take i)).length ≤ 1000 from Nat.le_trans (saf_len _) (by rw [List.length_take]; omega))
 have HL := hid (show L.take L.length = L from List.take_length)
 have HOz := hid (show ∀ x ∈ othN L, x.length ≤ 1000000 from oth_mem hz)
 have HNz := hid (show ∀ x ∈ safN L, x.length ≤ 1000000 from saf_mem hz)
 obtain ⟨n, hn⟩ : ∃ n, n = L.length := ⟨_, rfl⟩
 have HN := hid hn
 rw [← hn] at hl HL ⊢
 clear h hv1 hz hn hc1 hm1
 go_enter Tryz.func47, Tryz.ntmps47
 go_wp2
 go_loopw [3, 4, 5, 6] (fun ov sv zv iv wr => ∃ (i : Nat), i ≤ n ∧ iv = .int .i64 i ∧ zv = .int .i64 (safZ (L.take i)) ∧ Hid (RuI L w i ov sv wr)) (fun _ _ _ iv _ => n - (intOf iv).toNat)
 case atStart => exact ⟨0, Nat.zero_le _, rfl, rfl, ⟨World.ownsRow_nil _ _ _ _, World.ownsRow_nil _ _ _ _, (fun g e => nomatch e), Below.refl _ _⟩⟩
 case round =>
  obtain ⟨i, hil, rfl, rfl, HI⟩ := hrel
  by_cases hlt : i < n
  ·have hlt' : (i : Int) < (n : Int) := by omega
   have hiL : i < L.length := by have := HN.out; omega
   obtain ⟨b1, o1, rfl, e1, e2⟩ := V1.out i hiL
   have hB := HI.out.2.2.2
   have hT : L.take (i + 1) = L.take i ++ [L[i]] := by rw [List.take_add_one, List.getElem?_eq_getElem hiL]; rfl
   have hq1 := oth_snoc (L.take i) L[i]
   have hq2 := saf_snoc (L.take i) L[i]
   have hq3 := safz_snoc (L.take i) L[i]
   rw [← hT] at hq1 hq2 hq3
   have hzz := HZ.out _ (List.getElem_mem hiL)
   obtain ⟨nm, hnm⟩ : ∃ x : ByteArray, x = ⟨L[i].name.toArray⟩ := ⟨_, rfl⟩
   obtain ⟨vl, hvl⟩ : ∃ x : ByteArray, x = ⟨L[i].value.toArray⟩ := ⟨_, rfl⟩
   have hnl : L[i].name = nm.data.toList := by rw [hnm]
   have hvv : L[i].value = vl.data.toList := by rw [hvl]
   rw [← hnm] at e1
   rw [← hvl] at e2
   rw [hnl, hvv, ← Lib.size_eq, ← Lib.size_eq] at hzz
   rw [hnl, hvv] at hq1 hq2 hq3
   rw [← Lib.size_eq] at hq3
   have hs1 : nm.size ≤ 1000000 := hzz.1
   have hs2 : vl.size ≤ 1000000 := hzz.2
   have HC := hid (fun (Y : World) (hY : Below w.heap.size w Y) => show Y.cell? ⟨b1, o1 + i * 2, none⟩ = some (.string nm) ∧ Y.cell? ⟨b1, o1 + i * 2 + 1, none⟩ = some (.string vl) from ⟨(hY.cell (World.block_lt_of_cell? w _ e1)).trans e1, (hY.cell (World.block_lt_of_cell? w _ e2)).trans e2⟩)
   obtain ⟨M, hM⟩ : ∃ x : ByteArray, x = ⟨(low nm.data.toList).toArray⟩ := ⟨_, rfl⟩
   have hMl : low nm.data.toList = M.data.toList := by rw [hM]
   have hMs : M.size ≤ 1000000 := by rw [Lib.size_eq, ← hMl]; unfold low; rw [List.length_map, ← Lib.size_eq]; exact hs1
   have HLw := hid (fun w => rlower_any_Ra nm w (by omega))
   rw [← hM] at HLw
   have HSf := hid (fun (Y : World) => rsafe_any M vl Y (by omega) (by omega))
   rw [← hMl, safe_low] at HSf
   rw [hMl] at hq1 hq2
   obtain ⟨sf, hsf⟩ : ∃ b, safeV nm.data.toList vl.data.toList = b := ⟨_, rfl⟩
   rw [hsf] at HSf hq1 hq2 hq3
   obtain ⟨f1, f2⟩ := HC.out wr hB
   have hZl := HSl.out i
   have hOi := HOl.out i
   have hNi := HNl.out i
   have Hq1 := hid hq1
   have Hq2 := hid hq2
   have Hq3 := hid hq3
   have hww := hB.size
   clear hq1 hq2 hq3 hT hnm hvl hnl hvv hzz hsf e1 e2 hiL hB hM hMl
   go_wp2_with fail
   refine (HLw.out _).mono ?_
   rintro e w3 ⟨rfl, hb3⟩
   have HI3 := hid (HI.out.below hb3)
   obtain ⟨f3, f4⟩ := HC.out w3 HI3.out.2.2.2
   clear hb3 f1 f2
   go_wp2_with fail
   refine (HSf.out _).mono ?_
   rintro e w4 ⟨rfl, hb4⟩
   have HI4 := hid (HI3.out.below hb4)
   obtain ⟨f5, f6⟩ := HC.out w4 HI4.out.2.2.2
   have hs4 := HI4.out.2.2.2.size
   clear hb4 f3 f4
   obtain ⟨oa, on, oc, rfl⟩ := ownsRow_slice HI4.out.1
   obtain ⟨sa, sn, sc, rfl⟩ := ownsRow_slice HI4.out.2.1
   cases sf with
   | true =>
    have HOw := hid HI4.out.2.1
    go_wp2_with (at_builtin; go_must (refine wpList_append_where _ rfl _ _ 50 rfl w.heap.size 9 i0 (.string ByteArray.empty) 1 16 Tryz.underlying50 hi hz0 hz1 hzz2 rfl (by decide) _ _ _ rfl (HOw.out.alloc _) ⟨w4.heap.size, 0, none⟩ 1 1 [.string M] rfl rfl ?a1 ?a2 ?a3 ?a4 ?a5 ?a6 ?_))
    case a1 =>
     intro q u hq
     match q, hq with
     | 0, hq => simp at hq; subst hq; simp [Addr.add]
    case a2 => intro u hu; simp at hu; subst hu; rfl
    case a3 => unfold maxLen; omega
    case a4 => omega
    case a5 => simp; omega
    case a6 => decide
    intro v5 w5 hown5 hgrow5 hat5
    have HI5 := hid (show RuI L w (i + 1) (.slice oa on oc) v5 w5 from by
     refine ⟨?_, ?_, ?_, ?_⟩
     ·rw [Hq1.out, if_pos trivial]
      exact ownsRow_same (HI4.out.1.alloc _) (fun g hg => hgrow5.block g (by have := (HI4.out.1.lt g hg).2; simp; omega) (fun e => HI4.out.2.2.1 g hg e.symm))
     ·rw [Hq2.out, if_pos trivial, cellsT_app, cellsT_one, List.length_append]
      exact hown5
     ·have h := app_ne18 hat5 (u := .slice oa on oc) (fun g h1 h2 => HI4.out.2.2.1 g h2 h1) (fun g hg => by have := (HI4.out.1.lt g hg).2; simp; omega)
      exact fun g h1 h2 => h g h2 h1
     ·exact (HI4.out.2.2.2.alloc hs4 _).grown hgrow5 (by simp; omega) (fun g hg => (HOw.out.lt g hg).1))
    obtain ⟨f7, f8⟩ := HC.out w5 HI5.out.2.2.2
    have HZ5 := hid (show safZ (L.take (i + 1)) = safZ (L.take i) + vl.size from by rw [Hq3.out, if_pos trivial])
    clear hown5 hgrow5 hat5 f5 f6
    go_wp2_with fail
    go_roundw
    case rel => exact ⟨i + 1, by omega, by go_num, by rw [HZ5.out]; go_num, HI5⟩
    case measure => simp [intOf]; omega
   | false =>
    have HOw := hid HI4.out.1
    go_wp2_with (at_builtin; go_must (refine wpList_append_where _ rfl _ _ 50 rfl w.heap.size 9 i0 (.string ByteArray.empty) 1 16 Tryz.underlying50 hi hz0 hz1 hzz2 rfl (by decide) _ _ _ rfl (HOw.out.alloc _) ⟨w4.heap.size, 0, none⟩ 1 1 [.string M] rfl rfl ?b1 ?b2 ?b3 ?b4 ?b5 ?b6 ?_))
    case b1 =>
     intro q u hq
     match q, hq with
     | 0, hq => simp at hq; subst hq; simp [Addr.add]
    case b2 => intro u hu; simp at hu; subst hu; rfl
    case b3 => unfold maxLen; omega
    case b4 => omega
    case b5 => simp; omega
    case b6 => decide
    intro v5 w5 hown5 hgrow5 hat5
    have HI5 := hid (show RuI L w (i + 1) v5 (.slice sa sn sc) w5 from by
     refine ⟨?_, ?_, ?_, ?_⟩
     ·rw [Hq1.out, if_neg (by decide), cellsT_app, cellsT_one, List.length_append]
      exact hown5
     ·rw [Hq2.out, if_neg (by decide)]
      exact ownsRow_same (HI4.out.2.1.alloc _) (fun g hg => hgrow5.block g (by have := (HI4.out.2.1.lt g hg).2; simp; omega) (fun e => HI4.out.2.2.1 g e.symm hg))
     ·exact app_ne18 hat5 (u := .slice sa sn sc) HI4.out.2.2.1 (fun g hg => by have := (HI4.out.2.1.lt g hg).2; simp; omega)
     ·exact (HI4.out.2.2.2.alloc hs4 _).grown hgrow5 (by simp; omega) (fun g hg => (HOw.out.lt g hg).1))
    have HZ5 := hid (show safZ (L.take (i + 1)) = safZ (L.take i) from by rw [Hq3.out, if_neg (by decide)])
    clear hown5 hgrow5 hat5 f5 f6
    go_wp2_with fail
    go_roundw
    case rel => exact ⟨i + 1, by omega, by go_num, by rw [HZ5.out], HI5⟩
    case measure => simp [intOf]; omega
  ·obtain rfl : i = n := by omega
   have hI := HI.out
   have hZl := HSl.out i
   unfold RuI at hI
   rw [HL.out] at hI hZl
   rw [HL.out]
   obtain ⟨h1, h2, h3, h4⟩ := hI
   have hol := HOl.out i
   have hnl := HNl.out i
   rw [HL.out] at hol hnl
   obtain ⟨oa, on, oc, rfl⟩ := ownsRow_slice h1
   obtain ⟨sa, sn, sc, rfl⟩ := ownsRow_slice h2
   have hs4 := h4.size
   by_cases hbig : 1024 < safZ L
   ·have HU := hid (show unsV L = srtN (othN L ++ safN L) by unfold unsV; rw [if_pos hbig])
    have hbig' : (1024 : Int) < (safZ L : Int) := by omega
    have hpos := saf_pos hbig
    have HB := hid h4
    have HO := hid h1
    obtain ⟨ns, hns⟩ : ∃ m, m = (safN L).length := ⟨_, rfl⟩
    obtain ⟨g, rfl, rfl⟩ : ∃ g, sa = some ⟨g, 0, none⟩ ∧ sn = ns := by
     rcases h2.2 with ⟨_, h0⟩ | ⟨g, cap, cur, e, _⟩
     ·omega
     ·simp only [Value.slice.injEq] at e
      exact ⟨g, e.1, by rw [e.2.1, hns]⟩
    have HC2 := hid (fun j u (hj : (cellsT (safN L))[j]? = some u) => show wr.cell? ((⟨g, 0, none⟩ : Addr).add j) = some u from by
     rw [Addr.add_mid, Nat.zero_add]
     have hjl := (List.getElem?_eq_some_iff.1 hj).1
     have h2' : wr.ownsRow w.heap.size 9 1 (.slice (some ⟨g, 0, none⟩) sn sc) sn (cellsT (safN L)) := by
      have := h2
      rw [← hns] at this
      exact this
     rw [h2'.cellAt j (by rw [cellsT_len] at hjl; omega)]
     exact hj)
    have HNs := hid hns
    have hnsl : sn ≤ 1000 := by omega
    have hnsp : 0 < sn := by omega
    have HSz := hid (show ∀ x ∈ othN L ++ safN L, x.length ≤ 1000000 from fun x hx => by
     rcases List.mem_append.1 hx with hx | hx
     ·exact HOz.out x hx
     ·exact HNz.out x hx)
    clear h1 h2 h3 h4 HI hns hnl hpos
    go_wp2_with (at_builtin; go_must (refine wpList_append_where _ rfl _ _ 50 rfl w.heap.size 9 i0 (.string ByteArray.empty) 1 16 Tryz.underlying50 hi hz0 hz1 hzz2 rfl (by decide) _ _ _ rfl HO.out ⟨g, 0, none⟩ sn sc (cellsT (safN L)) rfl ?d0 ?d1 ?d2 ?d3 ?d4 ?d5 ?d6 ?_))
    case d0 => rw [cellsT_len, Nat.mul_one]; exact HNs.out.symm
    case d1 => exact HC2.out
    case d2 => intro u hu; obtain ⟨x, _, rfl⟩ := List.mem_map.1 hu; rfl
    case d3 => unfold maxLen; omega
    case d4 => omega
    case d5 => exact hs4
    case d6 => exact hnsp
    intro v5 w5 hown5 hgrow5 hat5
    have hown6 : w5.ownsRow w.heap.size 9 1 v5 (othN L ++ safN L).length (cellsT (othN L ++ safN L)) := by
     rw [cellsT_app, List.length_append, ← HNs.out]
     exact hown5
    have hb5 : Below w.heap.size w w5 := HB.out.grown hgrow5 hs4 (fun g hg => (HO.out.lt g hg).1)
    have HB5 := hid hb5
    have HS := hid (rsorted1_any _ (othN L ++ safN L) w5 (own_txt' hown6) (by rw [List.length_append]; have := HNs.out; omega) HSz.out)
    obtain ⟨ya, yn, yc, rfl⟩ := ownsRow_slice hown6
    clear hown5 hown6 hgrow5 hat5 hb5
    go_wp2_with fail
    refine HS.out.mono ?_
    rintro e w6 ⟨u, rfl, hown, hb6⟩
    have HO6 := hid (ownsRow_lower18 hown HB5.out.size)
    have HB6 := hid (below2 HB5.out hb6)
    clear hown hb6
    go_wp2_with fail
    go_ret
    refine ⟨_, rfl, ?_, HB6.out⟩
    rw [HU.out]
    exact HO6.out
   ·have HU := hid (show unsV L = srtN (othN L) by unfold unsV; rw [if_neg hbig, List.append_nil])
    have hbig' : ¬ (1024 : Int) < (safZ L : Int) := by omega
    have HB := hid h4
    have HS := hid (rsorted1_any _ (othN L) wr (own_txt' h1) (by omega) HOz.out)
    clear h1 h2 h3 h4 HI
    go_wp2_with fail
    refine HS.out.mono ?_
    rintro e w6 ⟨u, rfl, hown, hb6⟩
    have HO6 := hid (ownsRow_lower18 hown HB.out.size)
    have HB6 := hid (below2 HB.out hb6)
    clear hown hb6
    go_wp2_with fail
    go_ret
    refine ⟨_, rfl, ?_, HB6.out⟩
    rw [HU.out]
    exact HO6.out

end Go.Proofs.YtpopljcmkbchcaaGreatDoor
