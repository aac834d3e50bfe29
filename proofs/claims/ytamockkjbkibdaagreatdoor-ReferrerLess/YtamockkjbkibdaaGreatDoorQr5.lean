/-
  Walks and plain facts that this claim leans on, put together out of 2 texts: Exq, Exl.
-/
import Derived.Test.YtamockkjbkibdaaGreatDoorProg
import Derived.Test.YtamockkjbkibdaaGreatDoorQa1
import Derived.Test.YtamockkjbkibdaaGreatDoorQa2
import Derived.Test.YtamockkjbkibdaaGreatDoorQa3
import Derived.Test.YtamockkjbkibdaaGreatDoorQa4
import Derived.Test.YtamockkjbkibdaaGreatDoorQa5
import Derived.Test.YtamockkjbkibdaaGreatDoorQa6
import Derived.Test.YtamockkjbkibdaaGreatDoorQa7
import Derived.Test.YtamockkjbkibdaaGreatDoorQa8
import Derived.Test.YtamockkjbkibdaaGreatDoorQa9
import Derived.Test.YtamockkjbkibdaaGreatDoorQa10
import Derived.Test.YtamockkjbkibdaaGreatDoorQa11
import Derived.Test.YtamockkjbkibdaaGreatDoorQa12
import Derived.Test.YtamockkjbkibdaaGreatDoorQa13
import Derived.Test.YtamockkjbkibdaaGreatDoorQa14
import Derived.Test.YtamockkjbkibdaaGreatDoorQa15
import Derived.Test.YtamockkjbkibdaaGreatDoorQa16
import Derived.Test.YtamockkjbkibdaaGreatDoorQa17
import Derived.Test.YtamockkjbkibdaaGreatDoorQa18
import Derived.Test.YtamockkjbkibdaaGreatDoorQa19
import Derived.Test.YtamockkjbkibdaaGreatDoorQa20
import Derived.Test.YtamockkjbkibdaaGreatDoorQa21
import Derived.Test.YtamockkjbkibdaaGreatDoorQa22
import Derived.Test.YtamockkjbkibdaaGreatDoorQa23
import Derived.Test.YtamockkjbkibdaaGreatDoorQa24
import Derived.Test.YtamockkjbkibdaaGreatDoorQa25
import Derived.Test.YtamockkjbkibdaaGreatDoorQa26
import Derived.Test.YtamockkjbkibdaaGreatDoorQa27
import Derived.Test.YtamockkjbkibdaaGreatDoorQa28
import Derived.Test.YtamockkjbkibdaaGreatDoorQa29
import Derived.Test.YtamockkjbkibdaaGreatDoorQa30
import Derived.Test.YtamockkjbkibdaaGreatDoorQa31
import Derived.Test.YtamockkjbkibdaaGreatDoorQa32
import Derived.Test.YtamockkjbkibdaaGreatDoorQr1
import Derived.Test.YtamockkjbkibdaaGreatDoorQr2
import Derived.Test.YtamockkjbkibdaaGreatDoorQr3
import Derived.Test.YtamockkjbkibdaaGreatDoorQr4
import Derived.Deep.Cut
import Derived.Deep.QuietTactic
import Derived.BigQuiet
import Derived.BigRegion
import Derived.Deep.RegionHeld
import Derived.Deep.CutRange
import Derived.Lib.IndexMore
import Derived.Lib.Join
import Derived.Lib.LastIndexByte
import Derived.WalkKit
import Derived.Lib.Strings
import Derived.Lib.UnsafeStr
import Derived.Laws.IdiomStrings
import Derived.Laws.AppendOwn
import Derived.Laws.BitsAllLaws
import Derived.Lib.Bytealg
import Derived.Lib.BufferMore
import Derived.Lib.BufferRead
import Derived.Lib.RuneBytes
import Derived.Laws.RangeAny
import Derived.LoopN
import Derived.RegionTactic
import Derived.Deep.RegionWith
import Derived.OwnWalk
import Derived.Deep.RegionLaw
import Derived.Laws.OwnMore
import Derived.Deep.LoopGhost
import Derived.Shelf.Strings.Builder1
import Derived.Shelf.Strings.Builder2
import Derived.Shelf.Strings.OnBuilder
import Derived.Shelf.Strings.Trim
import Derived.Shelf.Small.Utf8
import Derived.Shelf.Small.Strs
import Derived.Shelf.Small.Wraps
import Derived.Shelf.Strings.BuilderF
import Derived.Shelf.Strings.BuilderK
import Derived.Shelf.Strings.BuilderRune
import Derived.Shelf.Utf8.AppendRune
import Derived.Shelf.Utf8.AppendRunePlain
import Derived.Shelf.Strings.Builder2Cap
import Derived.Shelf.Strconv.Itoa0
import Derived.Shelf.Strconv.Itoa1
import Derived.Shelf.LaysM
import Derived.Shelf.Strconv.Itoa2
import Derived.Shelf.Strconv.Itoa3
import Derived.Shelf.Strings.Search1
import Derived.Shelf.Strings.Search2
import Derived.Shelf.Strings.Search3
import Derived.Shelf.Strings.Cut
import Derived.Shelf.Strings.Count
import Derived.Shelf.Strings.Shaped
import Derived.Shelf.Strings.LastIndex
import Derived.Shelf.Strings.Prefix
import Derived.Shelf.Strings.Split
import Derived.Shelf.Strings.Replace
import Derived.Shelf.Strings.Runes
import Derived.Shelf.Strings.IndexAny
import Derived.Shelf.Strings.AsciiSet
import Derived.Shelf.Strings.IndexAnyAll
import Derived.Shelf.Unicode.DecodeSlow
import Derived.Ground.Names2Prog
import Derived.Shelf.Slices.Clone
import Derived.Ground.SlgnProg
import Derived.Shelf.SlicesE.Clone
import Derived.Laws.AppendOwnNone
import Derived.Scope
import Derived.ScopeJumps
import Derived.WalkMore
import Derived.Lib.IndexAny
import Derived.Lib.Replace
import Derived.Lib.TrimByte
import Derived.Lib.ItoaNum
import Derived.Lib.DecodeN
import Derived.Lib.OthersKept
import Derived.Laws.BytesString
import Derived.Deep.WholeRow
import Derived.Lib.AppendStr
import Derived.WalkSpells
import Derived.WalkLawsBesides
import Derived.Lib.AppendIntMem
import Derived.Lib.SmallJoins
import Derived.WalkSmall
import Derived.Laws.CopyOwn
import Derived.Laws.ResultCell
import Derived.Deep.MidRow
import Derived.Lib.FrozenHead2
import Derived.Lib.Builder
import Derived.Lib.SlTrimSet
import Derived.Below
import Derived.Shelf.Strings.SlTrimAscii
import Derived.Laws.Runes
set_option linter.unusedSimpArgs false
set_option linter.unusedVariables false

namespace Go.Proofs.YtamockkjbkibdaaGreatDoor
theorem page_wu (s : List UInt8) : WebU (pageV s) := ⟨(page_web s).2.1, read_str (page_web s).1, read_good (page_web s).1⟩

theorem page_st (s : List UInt8) : StOk (pageV s) := slim_st (parse_slim (page_web s).1)

theorem strip_le {u : Adr} (h : StOk u) (b : Bool) : (stripV u b).length ≤ 3000001 := by
 unfold stripV
 split
 ·rename_i hw
  split
  ·rename_i hc
   rw [Bool.and_eq_true, decide_eq_true_eq] at hc
   omega
  ·rw [List.length_append]
   have := textO_short (o := orgV (clearU u)) (by rw [org_web (u := clearU u) hw]; exact h.1.2.1.1) (by rw [org_web (u := clearU u) hw]; exact h.1.2.1.2.2.2)
   simp
   omega
 ·simp

theorem of_one (p : List UInt8) (u v : Adr) : ofR p u v = [] ∨ ofR p u v = stripV u false ∨ ofR p u v = stripV u true := tell_one _ _ _ _

theorem of_le {u : Adr} (h : StOk u) (p : List UInt8) (v : Adr) : (ofR p u v).length ≤ 3000001 := by
 rcases of_one p u v with e | e | e
 ·rw [e]; simp
 ·rw [e]; exact strip_le h _
 ·rw [e]; exact strip_le h _

theorem of_read {u : Adr} (h : WebU u) (p : List UInt8) (v : Adr) (hne : ofR p u v ≠ []) (hl : (ofR p u v).length < 300) : ∃ x, urlV (ofR p u v) = .ok x ∧ x.user = [] ∧ x.pass = [] ∧ x.hasFragment = false := by
 unfold urlV
 rw [List.take_of_length_le (by omega)]
 rcases of_one p u v with e | e | e
 ·exact absurd e hne
 ·rw [e] at hl ⊢; exact strip_read h _ (by omega)
 ·rw [e] at hl ⊢; exact strip_read h _ (by omega)

def strictB (p : List UInt8) : Bool := (p == pStrict) || ((p == pSCross) || ((p == pDown) || (p == pNo)))

theorem strict_known {p : List UInt8} (h : strictB p = true) : knownR p = true := by
 unfold strictB at h
 simp only [Bool.or_eq_true, beq_iff_eq] at h
 rcases h with rfl | rfl | rfl | rfl <;> decide

theorem of_strict {u v : Adr} {p : List UInt8} {T : List UInt8} (hr : readV T none = .ok v) (hs : strictB p = true) (hu : u.scheme = sHttps) (hv : v.scheme = sHttp) (h0 : v.host ≠ []) (hl : localV v.host = false) : ofR p u v = [] := by
 have hsp : specV v.scheme = true := by rw [hv]; decide
 have hstr := read_str hr
 have hhh : v.hasHost = true := by
  cases e : v.hasHost with
  | true => rfl
  | false => exact absurd (hstr.pre.noh e).2.2.1 h0
 have hpv : parseV v.host true = some v.host := by have := (hstr.pre.hst hhh).1; rw [hsp] at this; exact this
 have hne : nearV v.host = false := by
  cases e : nearV v.host with
  | false => rfl
  | true => rw [near_local e hpv] at hl; cases hl
 have htr : trustV v = false := by
  rw [trust_plain (by rw [hv]; decide), hne, hv]
  decide
 have hdn : downR u v = true := by unfold downR; rw [htr, hu]; decide
 have hsm : sameO (orgV u) (orgV v) = false := by
  rw [org_spec hsp, org_spec (u := u) (by rw [hu]; decide)]
  unfold sameO
  simp only [Bool.not_false, Bool.true_and, decide_eq_false_iff_not, Org.mk.injEq]
  rintro ⟨e, -⟩
  rw [hu, hv] at e
  exact absurd e (by decide)
 unfold ofR
 rw [hdn, hsm, name_yes (strict_known hs)]
 unfold strictB at hs
 simp only [Bool.or_eq_true, beq_iff_eq] at hs
 rcases hs with rfl | rfl | rfl | rfl <;> rfl



theorem of_cross {u v : Adr} {p : List UInt8} (hu : WebU u) (hsm : sameO (orgV u) (orgV v) = false) (he : ofR p u v = stripV u false) (hne : stripV u false ≠ stripV u true) : p = pUns ∨ p = pDown := by
 have h0 := strip_ne hu.web false
 unfold ofR at he
 rw [hsm] at he
 cases hk : knownR p with
 | false =>
  rw [name_no hk] at he
  cases hd : downR u v with
  | true => rw [hd] at he; exact absurd (show ([] : List UInt8) = stripV u false from he).symm h0
  | false => rw [hd] at he; exact absurd (show stripV u true = stripV u false from he).symm hne
 | true =>
  rw [name_yes hk] at he
  have h8 := hk
  unfold knownR at h8
  simp only [Bool.or_eq_true, beq_iff_eq] at h8
  rcases h8 with rfl | rfl | rfl | rfl | rfl | rfl | rfl | rfl
  ·exact absurd (show ([] : List UInt8) = stripV u false from he).symm h0
  ·exact .inr rfl
  ·exact absurd (show ([] : List UInt8) = stripV u false from he).symm h0
  ·exact absurd (show stripV u true = stripV u false from he).symm hne
  ·cases hd : downR u v with
   | true => rw [hd] at he; exact absurd (show ([] : List UInt8) = stripV u false from he).symm h0
   | false => rw [hd] at he; exact absurd (show stripV u true = stripV u false from he).symm hne
  ·exact absurd (show stripV u true = stripV u false from he).symm hne
  ·cases hd : downR u v with
   | true => rw [hd] at he; exact absurd (show ([] : List UInt8) = stripV u false from he).symm h0
   | false => rw [hd] at he; exact absurd (show stripV u true = stripV u false from he).symm hne
  ·exact .inl rfl

theorem of_same {u v : Adr} {p : List UInt8} (hsm : sameO (orgV u) (orgV v) = true) (hp : p = pSame ∨ p = [] ∨ p = pCross) : ofR p u v = stripV u false := by
 unfold ofR
 rw [hsm]
 rcases hp with rfl | rfl | rfl
 ·rfl
 ·rfl
 ·rfl

theorem of_orig (u v : Adr) : ofR pOrig u v = stripV u true := rfl

theorem of_none (u v : Adr) : ofR pNo u v = [] := rfl

end Go.Proofs.YtamockkjbkibdaaGreatDoor

namespace Go.Proofs.YtamockkjbkibdaaGreatDoor
open Go.RowKit

theorem ext_list (s : ByteArray) (a c : Nat) : (s.extract a c).data.toList = (s.data.toList.take c).drop a := by
 simp [ByteArray.data_extract, Array.toList_extract, List.extract, List.drop_take]

set_option maxHeartbeats 4000000 in
set_option maxRecDepth 100000 in
theorem local13_any (s : ByteArray) (w : World) (hs : s.size ≤ 9223372036854775807) :
  Calls Tryz.prog 43 #[.string s] w fun e w' => e = .returned (.bool (localV s.data.toList)) ∧ w = w' := by
 obtain ⟨q3, e3⟩ : ∃ q, (s.toList == [91, 58, 58, 49, 93]) = q := ⟨_, rfl⟩
 by_cases h4 : 4 < s.size
 ·have h4' : (4 : Int) < (s.size : Int) := by omega
  obtain ⟨E4, hE4⟩ : ∃ E, s.extract 0 4 = E := ⟨_, rfl⟩
  obtain ⟨q2, e2⟩ : ∃ q, (E4.toList == [49, 50, 55, 46]) = q := ⟨_, rfl⟩
  have h2 : (s.data.toList.take 4 == [49, 50, 55, 46]) = q2 := by rw [← e2, Lib.toList_data, ← hE4, ext_list]; rfl
  by_cases h9 : 9 ≤ s.size
  ·obtain ⟨m, hm⟩ : ∃ m, s.size = m + 9 := ⟨s.size - 9, by omega⟩
   obtain ⟨E9, hE9⟩ : ∃ E, s.extract m (m + 9) = E := ⟨_, rfl⟩
   obtain ⟨q1, e1⟩ : ∃ q, (E9.toList == [108, 111, 99, 97, 108, 104, 111, 115, 116]) = q := ⟨_, rfl⟩
   have h1 : (s.data.toList.drop (s.data.toList.length - 9) == [108, 111, 99, 97, 108, 104, 111, 115, 116]) = q1 := by
    rw [← e1, Lib.toList_data, ← hE9, ext_list, ← Lib.size_eq, hm, List.take_of_length_le (by rw [← Lib.size_eq, hm]; exact Nat.le_refl _)]
    rw [Nat.add_sub_cancel]
   have HV := hid (show localV s.data.toList = (q1 || (q2 || q3)) by
    unfold localV
    rw [h1, h2, ← e3, Lib.toList_data]
    rw [← Lib.size_eq]
    simp [h9, h4])
   have h9' : (9 : Int) ≤ (s.size : Int) := by omega
   have h9m : (9 : Int) ≤ (m : Int) + 9 := by omega
   have h4m : (4 : Int) < (m : Int) + 9 := by omega
   have hsub : (m : Int) + 9 - 9 = (m : Int) := by omega
   clear h1 h2
   cases q1 with
   | true =>
    go_enter Tryz.func43, Tryz.ntmps43
    go_wp2
    go_ret
    exact ⟨ret_bool (by rw [HV.out]; rfl), rfl⟩
   | false =>
    cases q2 with
    | true =>
     go_enter Tryz.func43, Tryz.ntmps43
     go_wp2
     go_ret
     exact ⟨ret_bool (by rw [HV.out]; rfl), rfl⟩
    | false =>
     go_enter Tryz.func43, Tryz.ntmps43
     go_wp2
     go_ret
     exact ⟨ret_bool (by rw [HV.out]; rfl), rfl⟩
  ·have h9' : ¬ (9 : Int) ≤ (s.size : Int) := by omega
   have HV := hid (show localV s.data.toList = (q2 || q3) by
    unfold localV
    rw [h2, ← e3, Lib.toList_data]
    rw [← Lib.size_eq]
    simp [h9, h4])
   clear h2
   cases q2 with
   | true =>
    go_enter Tryz.func43, Tryz.ntmps43
    go_wp2
    go_ret
    exact ⟨ret_bool (by rw [HV.out]; rfl), rfl⟩
   | false =>
    go_enter Tryz.func43, Tryz.ntmps43
    go_wp2
    go_ret
    exact ⟨ret_bool (by rw [HV.out]; rfl), rfl⟩
 ·have h4' : ¬ (4 : Int) < (s.size : Int) := by omega
  have h9' : ¬ (9 : Int) ≤ (s.size : Int) := by omega
  have HV := hid (show localV s.data.toList = q3 by
   unfold localV
   rw [← e3, Lib.toList_data]
   rw [← Lib.size_eq]
   simp [show ¬ 9 ≤ s.size by omega, h4])
  go_enter Tryz.func43, Tryz.ntmps43
  go_wp2
  go_ret
  exact ⟨ret_bool (by rw [HV.out]), rfl⟩

end Go.Proofs.YtamockkjbkibdaaGreatDoor
