/-
  Walks and plain facts that this claim leans on, put together out of 3 texts: Efc, Efe, Eha.
-/
import Derived.Test.YtpopljcmkbchcaaGreatDoorProg
import Derived.Test.YtpopljcmkbchcaaGreatDoorQt1
import Derived.Test.YtpopljcmkbchcaaGreatDoorQt2
import Derived.Test.YtpopljcmkbchcaaGreatDoorQt3
import Derived.Test.YtpopljcmkbchcaaGreatDoorQt4
import Derived.Test.YtpopljcmkbchcaaGreatDoorQt5
import Derived.BigRegion
import Derived.Deep.RegionHeld
import Derived.Deep.RegionHeldLaw
import Derived.Lib.IndexAny
import Derived.WalkKit
import Derived.Lib.UnsafeStr
import Derived.Lib.BufferRead
import Derived.Lib.RuneBytes
import Derived.Laws.RangeAny
import Derived.Deep.LoopGhost
import Derived.Maps.OwnSet
import Derived.Maps.OwnOps
import Derived.Maps.AppendAt
import Derived.StringKeys
import Derived.BigQuiet
import Derived.Deep.QuietTactic
import Derived.LoopN
import Derived.RegionTactic
import Derived.Deep.RegionLaw
import Derived.Deep.RegionWith
import Derived.WalkSpells
import Derived.WalkLawsBesides
import Derived.Lib.FieldsP
import Derived.Lib.DecodeN
import Derived.Lib.IndexMore
import Derived.Lib.Join
import Derived.Lib.SmallJoins
import Derived.Laws.CopyOwn
import Derived.Laws.ResultCell
import Derived.Deep.MidRow
import Derived.Laws.OwnMore
import Derived.Below
import Derived.WalkSmall
import Derived.Lib.LaidTab
import Derived.Lib.AppendIntMem
import Derived.Laws.AppendOwn
import Derived.Laws.Runes
import Derived.Lib.OthersKept
import Derived.Lib.FrozenHead2
import Derived.Lib.Builder
import Derived.Lib.AppendStr
import Derived.Lib.Replace
import Derived.Shelf.GgClosure.GivesRunes
import Derived.Laws.BitsAll
import Derived.Laws.Shifts
import Derived.Deep.DeepAppendRoom
import Derived.Laws.IdiomStrings
import Derived.Laws.BytesString
import Derived.Laws.CopyRow
import Derived.Sort.OwnSorted
import Derived.Lib.SlicesCompact
import Derived.Lib.Strings
import Derived.Laws.BitsAllLaws
import Derived.Lib.Bytealg
import Derived.Lib.BufferMore
import Derived.Shelf.Strings.Builder1
import Derived.Shelf.Strings.Builder2
import Derived.Shelf.Strings.OnBuilder
import Derived.Shelf.Strings.Trim
import Derived.Shelf.Small.Utf8
import Derived.Shelf.Small.Bits
import Derived.Shelf.Small.Strs
import Derived.Shelf.Small.Wraps
import Derived.Shelf.Strings.BuilderF
import Derived.Shelf.Strings.BuilderK
import Derived.Shelf.Strings.BuilderRune
import Derived.Shelf.Utf8.AppendRune
import Derived.Shelf.Utf8.AppendRunePlain
import Derived.Shelf.Strings.Builder2Cap
import Derived.Shelf.Strconv.Itoa0
import Derived.Shelf.Strconv.Itoa1
import Derived.Shelf.LaysM
import Derived.Shelf.Strconv.Itoa2
import Derived.Shelf.Strconv.Itoa3
import Derived.Shelf.Strings.Search1
import Derived.Shelf.Strings.Search2
import Derived.Shelf.Strings.Cut
import Derived.Shelf.Strings.Shaped
import Derived.Shelf.Sort.Plain
import Derived.Shelf.Strings.Prefix
import Derived.Shelf.Unicode.Latin
import Derived.Shelf.Strings.Runes
import Derived.Shelf.Strings.IndexAny
import Derived.Shelf.Strings.AsciiSet
import Derived.Shelf.Strings.IndexAnyAll
import Derived.Shelf.Unicode.DecodeSlow
import Derived.Shelf.Unicode.DecodeAny
import Derived.Shelf.Unicode.DecodeLast
import Derived.Shelf.Unicode.CaseLookup
import Derived.Shelf.Unicode.CaseConvert
import Derived.Shelf.Unicode.CaseTo
import Derived.Shelf.Unicode.CaseLaid
import Derived.Shelf.Slices.CompactS
import Derived.Shelf.Slices.In.SortNone
import Derived.Lib.SlTrimSet
import Derived.Shelf.Strings.SlTrimAscii
import Derived.Deep.CutRange
import Derived.Laws.Rows
import Derived.Laws.MakeOwn
import Derived.Deep.WholeRow
import Derived.Laws.AppendOwnNone
set_option linter.unusedSimpArgs false
set_option linter.unusedVariables false

namespace Go.Proofs.YtpopljcmkbchcaaGreatDoor
open Go.RowKit

set_option maxHeartbeats 2000000 in
theorem unq16_any (s:ByteArray) (w:World) (hs:s.size≤9223372036854775807):
 Calls Tryz.prog 157 #[.string s] w fun e w'=>e = .returned (.string ⟨(unqV s.data.toList).toArray⟩)∧w'=w:=by
 obtain ⟨B,hB⟩: ∃ B:ByteArray,⟨(Lib.trimPrefix s.data.toList [34]).toArray⟩=B:=⟨_,rfl⟩
 have hBl:B.data.toList=Lib.trimPrefix s.data.toList [34]:=by rw [← hB]
 have hBs:B.size≤9223372036854775807:=by
  rw [Lib.size_eq,hBl]
  rw [Lib.size_eq] at hs;unfold Lib.trimPrefix;split
  ·rw [List.length_drop];omega
  ·exact hs
 obtain ⟨I,hI⟩: ∃ B':ByteArray,⟨(Lib.trimSuffix B.data.toList [34]).toArray⟩=B':=⟨_,rfl⟩
 obtain ⟨o,ho⟩: ∃ o,Lib.hasPrefix s.data.toList [34]=o:=⟨_,rfl⟩
 obtain ⟨c,hc⟩: ∃ o,Lib.hasSuffix B.data.toList [34]=o:=⟨_,rfl⟩
 have HP:Hid (∀ w:World,Calls Tryz.prog 192 #[.string s,.string ⟨#[34]⟩] w fun e w'=>e = .returned (.tuple #[.string B,.bool o])∧w'=w):=fun w=>by
  rw [← hB,← ho];exact Tryz.strings_CutPrefix s ⟨#[34]⟩ w
 have HS:Hid (∀ w:World,Calls Tryz.prog 214 #[.string B,.string ⟨#[34]⟩] w fun e w'=>e = .returned (.tuple #[.string I,.bool c])∧w'=w):=fun w=>by
  rw [← hI,← hc];exact Tryz.strings_CutSuffix B ⟨#[34]⟩ w hBs
 have HE:=hid (show (⟨(unqV s.data.toList).toArray⟩:ByteArray)=if o&&c then I else s by
  unfold unqV;rw [← hBl,ho,hc,← hI];split
  ·rfl
  ·exact Lib.mk_data s)
 clear hB hBl hI ho hc hBs hs
 cases o with
 | false=>
   go_enter Tryz.func157,Tryz.ntmps157
   go_wp2_with fail
   refine (HP.out _).mono ?_;rintro e w1 ⟨rfl,hw1⟩
   rw [hw1];clear hw1
   go_wp2_with fail
   refine (HS.out _).mono ?_;rintro e w1 ⟨rfl,hw1⟩
   rw [hw1];clear hw1
   go_wp2
   go_ret
   exact ⟨by rw [HE.out];rfl,rfl⟩
 | true=>
   cases c with
   | false=>
     go_enter Tryz.func157,Tryz.ntmps157
     go_wp2_with fail
     refine (HP.out _).mono ?_;rintro e w1 ⟨rfl,hw1⟩
     rw [hw1];clear hw1
     go_wp2_with fail
     refine (HS.out _).mono ?_;rintro e w1 ⟨rfl,hw1⟩
     rw [hw1];clear hw1
     go_wp2
     go_ret
     exact ⟨by rw [HE.out];rfl,rfl⟩
   | true=>
     go_enter Tryz.func157,Tryz.ntmps157
     go_wp2_with fail
     refine (HP.out _).mono ?_;rintro e w1 ⟨rfl,hw1⟩
     rw [hw1];clear hw1
     go_wp2_with fail
     refine (HS.out _).mono ?_;rintro e w1 ⟨rfl,hw1⟩
     rw [hw1];clear hw1
     go_wp2
     go_ret
     exact ⟨by rw [HE.out];rfl,rfl⟩

theorem below2_Efc {a b c:World} (h1:Below a.heap.size a b) (h2:Below b.heap.size b c):Below a.heap.size a c:=h1.trans (h2.mono h1.size)

theorem part_le16 (c:UInt8) (l:List UInt8):(part_Cb c l).1.length≤l.length∧(part_Cb c l).2.1.length≤l.length:=by
 rw [← cut_part_Cb];unfold Lib.cut;split
 ·simp
  omega
 ·simp

theorem strip_le16 (l:List UInt8):(strip l).length≤l.length:=by
 unfold strip;rw [List.length_reverse];refine Nat.le_trans (List.dropWhile_suffix _).length_le ?_;rw [List.length_reverse];exact (List.dropWhile_suffix _).length_le

set_option maxHeartbeats 2000000 in
theorem apart16_any (s:ByteArray) (w:World) (hg:G5 w) (hs:s.size≤4000000000):
 Calls Tryz.prog 102 #[.string s] w fun e w'=>e = .returned (.tuple #[.string ⟨(apN s.data.toList).toArray⟩,.string ⟨(apV s.data.toList).toArray⟩])∧Below w.heap.size w w':=by
 have hpl:=part_le16 61 s.data.toList;obtain ⟨A,hA⟩: ∃ B:ByteArray,⟨(part_Cb 61 s.data.toList).1.toArray⟩=B:=⟨_,rfl⟩
 obtain ⟨B,hB⟩: ∃ B:ByteArray,⟨(part_Cb 61 s.data.toList).2.1.toArray⟩=B:=⟨_,rfl⟩
 obtain ⟨q,hq⟩: ∃ q,(part_Cb 61 s.data.toList).2.2=q:=⟨_,rfl⟩
 have hAl:A.data.toList=(part_Cb 61 s.data.toList).1:=by rw [← hA]
 have hBl:B.data.toList=(part_Cb 61 s.data.toList).2.1:=by rw [← hB]
 have hAs:A.size≤4000000000:=by rw [Lib.size_eq,hAl];rw [Lib.size_eq] at hs;omega
 have hBs:B.size≤4000000000:=by rw [Lib.size_eq,hBl];rw [Lib.size_eq] at hs;omega
 obtain ⟨C,hC⟩: ∃ B':ByteArray,⟨(strip A.data.toList).toArray⟩=B':=⟨_,rfl⟩
 obtain ⟨D,hD⟩: ∃ B':ByteArray,⟨(strip B.data.toList).toArray⟩=B':=⟨_,rfl⟩
 have hCl:C.data.toList=strip A.data.toList:=by rw [← hC]
 have hDl:D.data.toList=strip B.data.toList:=by rw [← hD]
 have hCs:C.size≤4000000000:=by rw [Lib.size_eq,hCl];rw [Lib.size_eq] at hAs;have:=strip_le16 A.data.toList;omega
 have hDs:D.size≤4000000000:=by rw [Lib.size_eq,hDl];rw [Lib.size_eq] at hBs;have:=strip_le16 B.data.toList;omega
 obtain ⟨N,hN⟩: ∃ B':ByteArray,⟨(low C.data.toList).toArray⟩=B':=⟨_,rfl⟩
 obtain ⟨V,hV⟩: ∃ B':ByteArray,⟨(unqV D.data.toList).toArray⟩=B':=⟨_,rfl⟩
 have HCut:Hid (Calls Tryz.prog 156 #[.string s,.string ⟨#[61]⟩] w fun e w'=>e = .returned (.tuple #[.string A,.string B,.bool q])∧Below w.heap.size w w'):=by
  have h:=cut5_any s ⟨#[61]⟩ w hg hs;rw [show (⟨#[61]⟩:ByteArray).data.toList=[61] from rfl,cut_part_Cb,hA,hB,hq] at h;exact h
 have HS1:Hid (∀ w:World,Calls Tryz.prog 115 #[.string A] w fun e w'=>e = .returned (.string C)∧w=w'):=fun w=>by rw [← hC];exact strip_any A w (by omega)
 have HS2:Hid (∀ w:World,Calls Tryz.prog 115 #[.string B] w fun e w'=>e = .returned (.string D)∧w=w'):=fun w=>by rw [← hD];exact strip_any B w (by omega)
 have HL:Hid (∀ w:World,Calls Tryz.prog 83 #[.string C] w fun e w'=>e = .returned (.string N)∧Below w.heap.size w w'):=fun w=>by rw [← hN];exact lower_any C w (by omega)
 have HU:Hid (∀ w:World,Calls Tryz.prog 157 #[.string D] w fun e w'=>e = .returned (.string V)∧w'=w):=fun w=>by rw [← hV];exact unq16_any D w (by omega)
 have HE:=hid (show (⟨(apN s.data.toList).toArray⟩:ByteArray)=N∧(⟨(apV s.data.toList).toArray⟩:ByteArray)=V by
  unfold apN apV;rw [← hAl,← hBl,← hCl,← hDl];exact ⟨hN,hV⟩)
 clear hpl hA hB hq hAl hBl hAs hBs hC hD hCl hDl hCs hDs hN hV hg hs
 go_enter Tryz.func102,Tryz.ntmps102
 go_wp2_with fail
 refine HCut.out.mono ?_;rintro e w1 ⟨rfl,hb1⟩
 go_wp2_with fail
 refine (HS1.out _).mono ?_;rintro e w2 ⟨rfl,rfl⟩
 go_wp2_with fail
 refine (HL.out _).mono ?_;rintro e w2 ⟨rfl,hb2⟩
 go_wp2_with fail
 refine (HS2.out _).mono ?_;rintro e w3 ⟨rfl,rfl⟩
 go_wp2_with fail
 refine (HU.out _).mono ?_;rintro e w3 ⟨rfl,hw3⟩
 rw [hw3];clear hw3
 go_wp2
 go_ret2
 refine ⟨?_,below2_Efc hb1 hb2⟩
 rw [HE.out.1,HE.out.2]
 rfl

theorem ret_i16 {a b:Int} (h:a=b):Ending.returned (.int .i64 a) = .returned (.int .i64 b):=by rw [h]

set_option maxHeartbeats 4000000 in
theorem add16_any (a b:Int) (w:World) (ha: -9223372036854775808≤a∧a≤9223372036854775807) (hb: -9223372036854775808≤b∧b≤9223372036854775807):
 Calls Tryz.prog 116 #[.int .i64 a,.int .i64 b] w fun e w'=>e = .returned (.int .i64 (addV_Efa a b))∧w'=w:=by
 obtain ⟨s,hs⟩: ∃ s,wrap64 (a+b)=s:=⟨_,rfl⟩
 have HV:=hid (show addV_Efa a b=if a<0∧b<0 then 0 else if 0<a∧0<b∧s<0 then 9223372036854775807 else max s 0 by
  rw [← hs];unfold addV_Efa wrap64;repeat' split
  all_goals omega)
 have hsr: -9223372036854775808≤s∧s≤9223372036854775807:=by rw [← hs];unfold wrap64;omega
 by_cases h1:a<0
 ·by_cases h2:b<0
  ·have HE:=hid (show addV_Efa a b=0 by rw [HV.out,if_pos ⟨h1,h2⟩])
   clear HV hsr
   go_enter Tryz.func116,Tryz.ntmps116
   go_wp2
   go_ret
   exact ⟨ret_i16 HE.out.symm,rfl⟩
  ·have h3: ¬ 0<a:=by omega
   have HE:=hid (show addV_Efa a b=max (a+b) 0 by unfold addV_Efa;repeat' split
                                                  all_goals omega)
   clear HV hsr
   go_enter Tryz.func116,Tryz.ntmps116
   go_wp2
   go_ret
   exact ⟨ret_i16 HE.out.symm,rfl⟩
 ·by_cases h3:0<a
  ·by_cases h4:0<b
   ·by_cases h5:s<0
    ·have HE:=hid (show addV_Efa a b=9223372036854775807 by rw [HV.out,if_neg (fun h=>h1 h.1),if_pos ⟨h3,h4,h5⟩])
     clear HV hsr
     go_enter Tryz.func116,Tryz.ntmps116
     go_wp2
     go_ret
     exact ⟨ret_i16 HE.out.symm,rfl⟩
    ·have HE:=hid (show addV_Efa a b=max s 0 by rw [HV.out,if_neg (fun h=>h1 h.1),if_neg (fun h=>h5 h.2.2)])
     clear HV hsr
     go_enter Tryz.func116,Tryz.ntmps116
     go_wp2
     go_ret
     exact ⟨ret_i16 HE.out.symm,rfl⟩
   ·have HE:=hid (show addV_Efa a b=max (a+b) 0 by unfold addV_Efa;repeat' split
                                                   all_goals omega)
    clear HV hsr
    go_enter Tryz.func116,Tryz.ntmps116
    go_wp2
    go_ret
    exact ⟨ret_i16 HE.out.symm,rfl⟩
  ·have HE:=hid (show addV_Efa a b=max (a+b) 0 by unfold addV_Efa;repeat' split
                                                  all_goals omega)
   clear HV hsr
   go_enter Tryz.func116,Tryz.ntmps116
   go_wp2
   go_ret
   exact ⟨ret_i16 HE.out.symm,rfl⟩

set_option maxHeartbeats 4000000 in
theorem since16_any (a b:Int) (w:World) (ha: -9223372036854775808≤a∧a≤9223372036854775807) (hb: -9223372036854775808≤b∧b≤9223372036854775807):
 Calls Tryz.prog 117 #[.int .i64 a,.int .i64 b] w fun e w'=>e = .returned (.int .i64 (sinV a b))∧w'=w:=by
 obtain ⟨s,hs⟩: ∃ s,wrap64 (b - a)=s:=⟨_,rfl⟩
 by_cases h1:b≤a
 ·have HE:=hid (show sinV a b=0 by unfold sinV;rw [if_pos h1])
  clear hs
  go_enter Tryz.func117,Tryz.ntmps117
  go_wp2
  go_ret
  exact ⟨ret_i16 HE.out.symm,rfl⟩
 ·have HV:=hid (show sinV a b=if 0<s then s else 9223372036854775807 by
   rw [← hs];unfold sinV wrap64;repeat' split
   all_goals omega)
  by_cases h2:0<s
  ·have HE:=hid (show sinV a b=s by rw [HV.out,if_pos h2])
   clear HV
   go_enter Tryz.func117,Tryz.ntmps117
   go_wp2
   go_ret
   exact ⟨ret_i16 HE.out.symm,rfl⟩
  ·have HE:=hid (show sinV a b=9223372036854775807 by rw [HV.out,if_neg h2])
   clear HV
   go_enter Tryz.func117,Tryz.ntmps117
   go_wp2
   go_ret
   exact ⟨ret_i16 HE.out.symm,rfl⟩

def CtC (T:TypeId) (w:World) (b:Nat) (c:Ctl):Prop:=w.heap[b]? = some (.cells #[.bool c.ns,.bool c.nc,.int .i64 c.mx] T (0,0))

theorem CtC.lt {T:TypeId} {w:World} {b:Nat} {c:Ctl} (h:CtC T w b c):b<w.heap.size:=(Array.getElem?_eq_some_iff.1 h).1

theorem CtC.kept {T:TypeId} {w w':World} {b:Nat} {c:Ctl} (h:CtC T w b c) (hb:Below w.heap.size w w'):CtC T w' b c:=(hb.block b h.lt).trans h

theorem CtC.range {T:TypeId} {w:World} {b:Nat} {c:Ctl} (h:CtC T w b c):w.rangeAt b 0 [.bool c.ns,.bool c.nc,.int .i64 c.mx]:=fun j u hu=>by
 rw [Nat.zero_add,Lib.cell_of_heap h]
 match j,hu with
 | 0,hu=>simpa using hu
 | 1,hu=>simpa using hu
 | 2,hu=>simpa using hu
 | j+3,hu=>simp at hu

theorem CtC.cells {T:TypeId} {w:World} {b:Nat} {c:Ctl} (h:CtC T w b c):w.cell? ⟨b,0,none⟩=some (.bool c.ns)∧w.cell? ⟨b,1,none⟩=some (.bool c.nc)∧w.cell? ⟨b,2,none⟩=some (.int .i64 c.mx)∧w.frozen? ⟨b,0,none⟩=false∧w.frozen? ⟨b,1,none⟩=false∧w.frozen? ⟨b,2,none⟩=false:=
 ⟨by rw [Lib.cell_of_heap h];rfl,by rw [Lib.cell_of_heap h];rfl,by rw [Lib.cell_of_heap h];rfl,Lib.frozen_of_heap h 0,Lib.frozen_of_heap h 1,Lib.frozen_of_heap h 2⟩

theorem CtC.set {T:TypeId} {w:World} {b:Nat} {c:Ctl} (h:CtC T w b c) (j:Nat) (x:Value) (d:Ctl) (he:(#[.bool c.ns,.bool c.nc,.int .i64 c.mx]:Array Value).setIfInBounds j x = #[.bool d.ns,.bool d.nc,.int .i64 d.mx]):CtC T (w.setCell ⟨b,j,none⟩ x) b d:=by
 have:=Lib.heap_setCell_same h (i:=j) x;rw [he] at this;exact this

theorem CtC.far {T:TypeId} {w:World} {b b2:Nat} {c:Ctl} (h:CtC T w b c) (hne:b≠b2) (j:Nat) (x:Value):CtC T (w.setCell ⟨b2,j,none⟩ x) b c:=(heap_setCell_other _ ⟨b2,j,none⟩ b _ hne).trans h

def CtP (T:TypeId) (w wr:World) (v:Value) (P:List (List UInt8)) (c:Ctl):Prop:=
 CtC T wr w.heap.size ⟨false,false,0⟩∧CtC T wr (w.heap.size+1) c∧wr.ownsRow (w.heap.size+2) 9 1 v P.length (cellsT P)∧Below w.heap.size w wr

theorem CtP.kept {T:TypeId} {w wr w':World} {v:Value} {P:List (List UInt8)} {c:Ctl} (h:CtP T w wr v P c) (hb:Below wr.heap.size wr w'):CtP T w w' v P c:=
 ⟨h.1.kept hb,h.2.1.kept hb,own_same h.2.2.1 hb,h.2.2.2.trans (hb.mono h.2.2.2.size)⟩

theorem CtP.set {T:TypeId} {w wr:World} {v:Value} {P:List (List UInt8)} {c:Ctl} (h:CtP T w wr v P c) (j:Nat) (x:Value) (d:Ctl) (he:(#[.bool c.ns,.bool c.nc,.int .i64 c.mx]:Array Value).setIfInBounds j x = #[.bool d.ns,.bool d.nc,.int .i64 d.mx]):CtP T w (wr.setCell ⟨w.heap.size+1,j,none⟩ x) v P d:=by
 obtain ⟨h1,h2,h3,h4⟩:=h
 refine ⟨h1.far (by omega) j x,h2.set j x d he,ownsRow_same h3 fun g hg=> ?_,h4.setCell (p:=⟨w.heap.size+1,j,none⟩) (by simp) x⟩;have:=(h3.lt g hg).1;exact heap_setCell_other _ ⟨w.heap.size+1,j,none⟩ g _ (by show g≠w.heap.size+1;omega)

theorem CtP.at {T:TypeId} {w wr:World} {v:Value} {P:List (List UInt8)} {c:Ctl} (h:CtP T w wr v P c) {a:Option Addr} {n cp:Nat} (hv:v = .slice a n cp) (k:Nat) (hk:k<P.length): ∃ b off,a=some ⟨b,off,none⟩∧wr.cell? ⟨b,off+k,none⟩=some (.string ⟨P[k].toArray⟩):=by
 obtain ⟨a',c',e,_,_,h2⟩:=(own_txt' h.2.2.1).view
 rw [hv] at e;injection e with e1 _ _
 subst e1;exact h2 k hk

def CtPost (T:TypeId) (c:Ctl) (w:World) (e:Ending) (w':World):Prop:=e = .returned (.agg #[.bool c.ns,.bool c.nc,.int .i64 c.mx])∧Below w.heap.size w w'

theorem CtP.out {T:TypeId} {w wr:World} {v:Value} {P:List (List UInt8)} {c:Ctl} (h:CtP T w wr v P c):
 (((wr.setCell ⟨w.heap.size,0,none⟩ (.bool c.ns)).setCell ⟨w.heap.size,1,none⟩ (.bool c.nc)).setCell ⟨w.heap.size,2,none⟩ (.int .i64 c.mx)).rangeAt w.heap.size 0 [.bool c.ns,.bool c.nc,.int .i64 c.mx] ∧
 CtPost T c w (.returned (.agg #[.bool c.ns,.bool c.nc,.int .i64 c.mx])) (((wr.setCell ⟨w.heap.size,0,none⟩ (.bool c.ns)).setCell ⟨w.heap.size,1,none⟩ (.bool c.nc)).setCell ⟨w.heap.size,2,none⟩ (.int .i64 c.mx)):=by
 obtain ⟨h1,h2,h3,h4⟩:=h
 have k1:CtC T (wr.setCell ⟨w.heap.size,0,none⟩ (.bool c.ns)) w.heap.size ⟨c.ns,false,0⟩:=h1.set 0 _ _ rfl
 have k2:CtC T ((wr.setCell ⟨w.heap.size,0,none⟩ (.bool c.ns)).setCell ⟨w.heap.size,1,none⟩ (.bool c.nc)) w.heap.size ⟨c.ns,c.nc,0⟩:=k1.set 1 _ _ rfl
 have k3:CtC T (((wr.setCell ⟨w.heap.size,0,none⟩ (.bool c.ns)).setCell ⟨w.heap.size,1,none⟩ (.bool c.nc)).setCell ⟨w.heap.size,2,none⟩ (.int .i64 c.mx)) w.heap.size c:=k2.set 2 _ _ rfl;refine ⟨k3.range,rfl,?_⟩
 exact ((h4.setCell (p:=⟨w.heap.size,0,none⟩) (Nat.le_refl _) _).setCell (p:=⟨w.heap.size,1,none⟩) (Nat.le_refl _) _).setCell (p:=⟨w.heap.size,2,none⟩) (Nat.le_refl _) _

theorem results_ct {fn:Func} {p:Tmp} (h:fn.results = #[.cell p 87]) (tmps:Array Value) (w:World) (b:Nat) (ns nc:Bool) (mx:Int) (hp:tmps.getD p undef = .pointer (some ⟨b,0,none⟩)) (hc:w.rangeAt b 0 [.bool ns,.bool nc,.int .i64 mx]):(results fn tmps).run Tryz.prog w = .ok (.agg #[.bool ns,.bool nc,.int .i64 mx]) w:=by
 rw [Array.getD_eq_getD_getElem?] at hp;simp only [results,h]
 simp [Sem.run_bind,Result.andThen,hp,asAddr,run_loadVar_mid w b 0 87 [.bool ns,.bool nc,.int .i64 mx] _ hc Tryz.underlying87 rfl (by kernel_rfl)]

def SpPost (P:List (List UInt8)) (w:World) (e:Ending) (w':World):Prop:=
 ∃ v b,e = .returned (.tuple #[v,.bool b])∧w'.ownsRow w.heap.size 9 1 v P.length (cellsT P)∧Below w.heap.size w w'

set_option maxHeartbeats 2000000 in
theorem split_none16 (v:Value) (L:List Hd) (n:ByteArray) (w:World) (h:HdAt w v L) (hs:n.size≤140737488351232) (hz:Szd 140737488351232 L) (hl:L.length≤1000000) (hb:bulkV L≤1000000000) (hh:getB L n.data.toList=false):
 Calls Tryz.prog 85 #[v,.string n] w fun e w'=>e = .returned (.tuple #[.slice none 0 0,.bool false])∧Below w.heap.size w w':=by
 have HG:=hid (get_any v L n w h hs hz hl (by omega));obtain ⟨T,hT⟩: ∃ T:ByteArray,T=⟨(getT L n.data.toList).toArray⟩:=⟨_,rfl⟩
 rw [← hT,hh] at HG;clear hT h hz hb hh
 go_enter Tryz.func85,Tryz.ntmps85
 go_wp2_with fail
 refine HG.out.mono ?_;rintro e w0 ⟨rfl,hb0⟩
 go_wp2
 go_ret2
 exact ⟨rfl,hb0⟩

theorem split16_any (v:Value) (L:List Hd) (n:ByteArray) (w:World) (h:HdAt w v L) (hs:n.size≤140737488351232) (hz:Szd 140737488351232 L) (hl:L.length≤1000000) (hb:bulkV L≤1000000000):
 Calls Tryz.prog 85 #[v,.string n] w (SpPost (pcsV L n.data.toList) w):=by
 cases hh:getB L n.data.toList with
 | true=>
   refine (hsplit_any v L n w h hs hz hl hb hh).mono ?_;rintro e w' ⟨u,rfl,ho,hb'⟩
   have e:pcsV L n.data.toList=splitV L n.data.toList:=by unfold pcsV;rw [hh];rfl
   unfold SpPost;rw [e];exact ⟨u,true,rfl,ho,hb'⟩
 | false=>
   refine (split_none16 v L n w h hs hz hl hb hh).mono ?_;rintro e w' ⟨rfl,hb'⟩
   have e:pcsV L n.data.toList=[]:=by unfold pcsV;rw [hh];rfl
   unfold SpPost;rw [e];exact ⟨_,false,rfl,World.ownsRow_nil _ _ _ _,hb'⟩

theorem pcs_len16: ∀ (f:Nat) (l:List UInt8),(pcsN f l).length≤f+1 ∧ ∀ p ∈ pcsN f l,p.length≤l.length
 | 0,l=>by unfold pcsN;simp
 | f+1,l=>by
   unfold pcsN
   cases h:cutQ false l with
   | none=>simp
   | some k=>
     obtain ⟨h1,h2⟩:=pcs_len16 f (l.drop (k+1))
     refine ⟨by simp;omega,fun p hp=> ?_⟩
     rcases List.mem_cons.1 hp with rfl | hp
     ·simp;omega
     ·have:=h2 p hp
      rw [List.length_drop] at this;omega

theorem trimB_le16 (l:List UInt8):(trimB l).length≤l.length:=by
 rw [trimB_strip];rw [List.length_reverse];refine Nat.le_trans (List.dropWhile_suffix _).length_le ?_;rw [List.length_reverse];exact (List.dropWhile_suffix _).length_le

theorem pcsV_len16 (L:List Hd) (n:List UInt8):(pcsV L n).length≤bulkV L+1 ∧ ∀ p ∈ pcsV L n,p.length≤bulkV L:=by
 unfold pcsV;split
 ·unfold splitV
  have h1:=pcs_len16 (getT L n).length (getT L n);have h2:=getT_len L n;refine ⟨by rw [List.length_map];unfold pcs;omega,fun p hp=> ?_⟩
  obtain ⟨q,hq,rfl⟩:=List.mem_map.1 hp
  have:=h1.2 q hq;have:=trimB_le16 q;omega
 ·exact ⟨by simp,fun p hp=>by simp at hp⟩

theorem own_sl16 {w:World} {B:Nat} {e:TypeId} {k:Nat} {v:Value} {n:Nat} {xs:List Value} (h:w.ownsRow B e k v n xs): ∃ a cap,v = .slice a n cap:=by
 rcases h.2 with ⟨hv,hn⟩ | ⟨g,cap,cur,rfl,_,_,hnc,hcm,_⟩
 ·subst hn;exact ⟨none,0,hv⟩
 ·exact ⟨_,cap,rfl⟩

theorem beq_no16 (a:ByteArray) (l:List UInt8) (h:a.data.toList≠l):(a.toList==l)=false:=by
 rw [Lib.toList_data,beq_eq_false_iff_ne];exact h

theorem apV_le (p:List UInt8):(apV p).length≤p.length:=by
 unfold apV;have h1:=(part_le16 61 p).2;have h2:=strip_le16 (part_Cb 61 p).2.1;have h3:=unq_le (strip (part_Cb 61 p).2.1);omega

theorem eq_lit16 {N:ByteArray} {l:List UInt8} (h:N.data.toList=l):N=⟨l.toArray⟩:=by
 rw [← h]
 first | done | exact xself N

set_option maxHeartbeats 8000000 in
set_option maxRecDepth 100000 in
theorem parse16_any (v:Value) (L:List Hd) (w:World) (hg:G5 w) (h:HdAt w v L) (hz:Szd 140737488351232 L) (hl:L.length≤1000000) (hb:bulkV L≤1000000000):
 Calls Tryz.prog 51 #[v] w (CtPost 87 (ctlV L) w):=by
 obtain ⟨va,vcc,rfl,_,_,_⟩:=h.view
 obtain ⟨P,hP⟩: ∃ P,P=pcsV L nCC:=⟨_,rfl⟩
 have hPl:=pcsV_len16 L nCC;rw [← hP] at hPl;have HPS:=hid hPl.2;have HBK:=hid hb;have hPn:=hPl.1;have hCV:ctlV L=ctlP P:=by unfold ctlV;rw [hP]
 obtain ⟨W1,hW1⟩: ∃ X,(w.alloc (.cells #[.bool false,.bool false,.int .i64 0] 87)).alloc (.cells #[.bool false,.bool false,.int .i64 (-1)] 87)=X:=⟨_,rfl⟩
 have hb1:Below w.heap.size w W1:=by rw [← hW1];exact ((Below.refl _ w).alloc (Nat.le_refl _) _).alloc (by simp) _
 have hs1:W1.heap.size=w.heap.size+2:=by rw [← hW1];simp
 have hr0:CtC 87 W1 w.heap.size ⟨false,false,0⟩:=by rw [← hW1];exact (Lib.alloc_old _ _ _ (by simp)).trans (heap_alloc_new w _)
 have hr1:CtC 87 W1 (w.heap.size+1) ⟨false,false,-1⟩:=by
  rw [← hW1];have:=heap_alloc_new (w.alloc (.cells #[.bool false,.bool false,.int .i64 0] 87)) (.cells #[.bool false,.bool false,.int .i64 (-1)] 87);unfold CtC;simpa using this
 have HS:=hid (split16_any _ L ⟨#[99,97,99,104,101,45,99,111,110,116,114,111,108]⟩ W1 (h.kept hb1) (by decide) hz hl hb);rw [show (⟨#[99,97,99,104,101,45,99,111,110,116,114,111,108]⟩:ByteArray).data.toList=nCC from rfl,← hP] at HS;have HB1:=hid hb1;have HS1:=hid hs1;have HR0:=hid hr0;have HR1:=hid hr1;have HG:=hid hg;rw [hCV];obtain ⟨n,hn⟩: ∃ n,n=P.length:=⟨_,rfl⟩
 have HN:=hid hn;have hn9:n≤1000000001:=by omega
 unfold SpPost at HS;rw [← hn] at HS;clear hP hPl hPn hCV hb1 hs1 hr0 hr1 hg h hz hl hn
 go_enter Tryz.func51,Tryz.ntmps51
 go_wp2_with fail
 refine HS.out.mono ?_;rintro e w2 ⟨v2,q2,rfl,hown2,hb2⟩
 obtain ⟨a2,c2,rfl⟩:=own_sl16 hown2
 have HJ:=hid (show CtP 87 w w2 (.slice a2 n c2) P (ctlP (P.take 0)) from ⟨HR0.out.kept hb2,HR1.out.kept hb2,by rw [← HN.out,← HS1.out];exact hown2,below2_Efc HB1.out hb2⟩);clear hown2 hb2 HS HR0 HR1
 go_wp2_with fail
 go_loopw [20] (fun vi wr=> ∃ k:Nat,k≤n∧vi = .int .i64 k∧Hid (CtP 87 w wr (.slice a2 n c2) P (ctlP (P.take k)))) (fun vi _=>n - (intOf vi).toNat)
 case atStart=>exact ⟨0,Nat.zero_le _,rfl,HJ.out⟩
 case round=>
  clear HJ;obtain ⟨k,hk,rfl,HR⟩:=hrel
  by_cases hlt:k<n
  ·have hkP:k<P.length:=by have:=HN.out;omega
   have hlt':(k:Int)<(n:Int):=by omega
   obtain ⟨pb,po,rfl,hpc⟩:=HR.out.at rfl k hkP
   obtain ⟨X,hX⟩: ∃ X:ByteArray,X=⟨P[k].toArray⟩:=⟨_,rfl⟩
   rw [← hX] at hpc;have hXl:X.data.toList=P[k]:=by rw [hX]
   have hXs:X.size≤1000000000:=by
    rw [Lib.size_eq,hXl]
    exact Nat.le_trans (HPS.out _ (List.getElem_mem hkP)) HBK.out
   obtain ⟨c,hc⟩: ∃ c,c=ctlP (P.take k):=⟨_,rfl⟩
   rw [← hc] at HR;have HST:=hid (show ctlP (P.take (k+1))=ctlS c X.data.toList by rw [hc,hXl];exact ctlP_take P k hkP);have hmx: -1≤c.mx:=by rw [hc];exact (ctlP_mx _).1
   clear hX hXl hc hkP;obtain ⟨N,hN⟩: ∃ B':ByteArray,⟨(apN X.data.toList).toArray⟩=B':=⟨_,rfl⟩
   obtain ⟨V,hV⟩: ∃ B':ByteArray,⟨(apV X.data.toList).toArray⟩=B':=⟨_,rfl⟩
   have hNl:N.data.toList=apN X.data.toList:=by rw [← hN]
   have hVl:V.data.toList=apV X.data.toList:=by rw [← hV]
   have hVs:V.size≤1000000000:=by
    rw [Lib.size_eq,hVl]
    rw [Lib.size_eq] at hXs;exact Nat.le_trans (apV_le _) hXs
   have HA:=hid (show ∀ Y,Below w.heap.size w Y→Calls Tryz.prog 102 #[.string X] Y fun e w'=>e = .returned (.tuple #[.string N,.string V])∧Below Y.heap.size Y w' from fun Y hY=>by rw [← hN,← hV];exact apart16_any X Y (HG.out.kept hY) (by omega));obtain ⟨m,hm⟩: ∃ m,intV V.data.toList=m:=⟨_,rfl⟩
   obtain ⟨ok,hok⟩: ∃ m,intOk V.data.toList=m:=⟨_,rfl⟩
   have HI:Hid (∀ Y:World,Calls Tryz.prog 103 #[.string V] Y fun e w'=>e = .returned (.tuple #[.int .i64 m,.bool ok])∧Y=w'):=fun Y=>by rw [← hm,← hok];exact int_any V Y (by omega)
   have HC:=hid (show ctlP (P.take (k+1))=(if N.data.toList=tNS then (⟨true,c.nc,c.mx⟩:Ctl) else if N.data.toList=tNC then ⟨c.ns,true,c.mx⟩ else if N.data.toList=tMA then ⟨c.ns,c.nc,if ok&&decide (c.mx = -1) then m else c.mx⟩ else c) by
    rw [HST.out,hNl,← hm,← hok,hVl]
    rfl)
   clear hN hV hNl hVl hVs hm hok HST hXs;obtain ⟨cs,cc,cm⟩:=c
   by_cases h1:N.data.toList=tNS
   ·have HD:=hid (show ctlP (P.take (k+1))=⟨true,cc,cm⟩ by rw [HC.out,if_pos h1])
    have hNe:N=⟨#[110,111,45,115,116,111,114,101]⟩:=eq_lit16 h1
    clear h1 HC;subst hNe
    go_wp2_with fail
    refine (HA.out _ HR.out.2.2.2).mono ?_;rintro e w3 ⟨rfl,hb3⟩
    have HP3:=hid (HR.out.kept hb3);clear hb3;obtain ⟨d0,d1,d2,z0,z1,z2⟩:=HP3.out.2.1.cells
    go_wp2_with fail
    go_roundw
    case rel=>
     first
      | exact ⟨k+1,by omega,by go_num,by rw [HD.out];exact HP3.out.set 0 _ _ rfl⟩
      | ((repeat apply Exists.intro);refine ⟨?_,rfl⟩;exact ⟨k+1,by omega,by go_num,by rw [HD.out];exact HP3.out.set 0 _ _ rfl⟩)
      | ((repeat apply Exists.intro);exact ⟨⟨k+1,by omega,by go_num,by rw [HD.out];exact HP3.out.set 0 _ _ rfl⟩,rfl⟩)
    case measure=>simp [intOf];omega
   ·have e1:(N.toList==[110,111,45,115,116,111,114,101])=false:=beq_no16 N _ h1
    by_cases h2:N.data.toList=tNC
    ·have HD:=hid (show ctlP (P.take (k+1))=⟨cs,true,cm⟩ by rw [HC.out,if_neg h1,if_pos h2])
     have hNe:N=⟨#[110,111,45,99,97,99,104,101]⟩:=eq_lit16 h2
     clear h1 h2 HC e1;subst hNe
     go_wp2_with fail
     refine (HA.out _ HR.out.2.2.2).mono ?_;rintro e w3 ⟨rfl,hb3⟩
     have HP3:=hid (HR.out.kept hb3);clear hb3;obtain ⟨d0,d1,d2,z0,z1,z2⟩:=HP3.out.2.1.cells
     go_wp2_with fail
     go_roundw
     case rel=>
      first
       | exact ⟨k+1,by omega,by go_num,by rw [HD.out];exact HP3.out.set 1 _ _ rfl⟩
       | ((repeat apply Exists.intro);refine ⟨?_,rfl⟩;exact ⟨k+1,by omega,by go_num,by rw [HD.out];exact HP3.out.set 1 _ _ rfl⟩)
       | ((repeat apply Exists.intro);exact ⟨⟨k+1,by omega,by go_num,by rw [HD.out];exact HP3.out.set 1 _ _ rfl⟩,rfl⟩)
     case measure=>simp [intOf];omega
    ·have e2:(N.toList==[110,111,45,99,97,99,104,101])=false:=beq_no16 N _ h2
     by_cases h3:N.data.toList=tMA
     ·have HD:=hid (show ctlP (P.take (k+1))=⟨cs,cc,if ok&&decide (cm = -1) then m else cm⟩ by rw [HC.out,if_neg h1,if_neg h2,if_pos h3])
      have hNe:N=⟨#[109,97,120,45,97,103,101]⟩:=eq_lit16 h3
      clear h1 h2 h3 HC e1 e2;subst hNe
      cases ok with
      | true=>
        by_cases h4:cm = -1
        ·subst h4
         have HD2:=hid (show ctlP (P.take (k+1))=⟨cs,cc,m⟩ by rw [HD.out];rfl);clear HD;have HD:=HD2;clear HD2
         go_wp2_with fail
         refine (HA.out _ HR.out.2.2.2).mono ?_;rintro e w3 ⟨rfl,hb3⟩
         have HP3:=hid (HR.out.kept hb3);clear hb3;obtain ⟨d0,d1,d2,z0,z1,z2⟩:=HP3.out.2.1.cells
         go_wp2_with fail
         refine (HI.out _).mono ?_;rintro e w4 ⟨rfl,rfl⟩
         go_wp2_with fail
         go_roundw
         case rel=>
          first
           | exact ⟨k+1,by omega,by go_num,by rw [HD.out];exact HP3.out.set 2 _ _ rfl⟩
           | ((repeat apply Exists.intro);refine ⟨?_,rfl⟩;exact ⟨k+1,by omega,by go_num,by rw [HD.out];exact HP3.out.set 2 _ _ rfl⟩)
           | ((repeat apply Exists.intro);exact ⟨⟨k+1,by omega,by go_num,by rw [HD.out];exact HP3.out.set 2 _ _ rfl⟩,rfl⟩)
         case measure=>simp [intOf];omega
        ·have HD2:=hid (show ctlP (P.take (k+1))=⟨cs,cc,cm⟩ by rw [HD.out,decide_eq_false h4];rfl)
         clear HD;have HD:=HD2;clear HD2;have e4:(cm == -1)=false:=by rw [beq_eq_false_iff_ne];exact h4
         go_wp2_with fail
         refine (HA.out _ HR.out.2.2.2).mono ?_;rintro e w3 ⟨rfl,hb3⟩
         have HP3:=hid (HR.out.kept hb3);clear hb3;obtain ⟨d0,d1,d2,z0,z1,z2⟩:=HP3.out.2.1.cells
         go_wp2_with fail
         refine (HI.out _).mono ?_;rintro e w4 ⟨rfl,rfl⟩
         go_wp2_with fail
         go_roundw
         case rel=>
          first
           | exact ⟨k+1,by omega,by go_num,by rw [HD.out];exact HP3.out⟩
           | ((repeat apply Exists.intro);refine ⟨?_,rfl⟩;exact ⟨k+1,by omega,by go_num,by rw [HD.out];exact HP3.out⟩)
           | ((repeat apply Exists.intro);exact ⟨⟨k+1,by omega,by go_num,by rw [HD.out];exact HP3.out⟩,rfl⟩)
         case measure=>simp [intOf];omega
      | false=>
        have HD2:=hid (show ctlP (P.take (k+1))=⟨cs,cc,cm⟩ by rw [HD.out];rfl);clear HD;have HD:=HD2;clear HD2
        go_wp2_with fail
        refine (HA.out _ HR.out.2.2.2).mono ?_;rintro e w3 ⟨rfl,hb3⟩
        have HP3:=hid (HR.out.kept hb3);clear hb3;obtain ⟨d0,d1,d2,z0,z1,z2⟩:=HP3.out.2.1.cells
        go_wp2_with fail
        refine (HI.out _).mono ?_;rintro e w4 ⟨rfl,rfl⟩
        go_wp2_with fail
        go_roundw
        case rel=>
         first
          | exact ⟨k+1,by omega,by go_num,by rw [HD.out];exact HP3.out⟩
          | ((repeat apply Exists.intro);refine ⟨?_,rfl⟩;exact ⟨k+1,by omega,by go_num,by rw [HD.out];exact HP3.out⟩)
          | ((repeat apply Exists.intro);exact ⟨⟨k+1,by omega,by go_num,by rw [HD.out];exact HP3.out⟩,rfl⟩)
        case measure=>simp [intOf];omega
     ·have HD:=hid (show ctlP (P.take (k+1))=⟨cs,cc,cm⟩ by rw [HC.out,if_neg h1,if_neg h2,if_neg h3])
      have e3:(N.toList==[109,97,120,45,97,103,101])=false:=beq_no16 N _ h3;clear h1 h2 h3 HC
      go_wp2_with fail
      refine (HA.out _ HR.out.2.2.2).mono ?_;rintro e w3 ⟨rfl,hb3⟩
      have HP3:=hid (HR.out.kept hb3);clear hb3;obtain ⟨d0,d1,d2,z0,z1,z2⟩:=HP3.out.2.1.cells
      go_wp2_with fail
      go_roundw
      case rel=>
       first
        | exact ⟨k+1,by omega,by go_num,by rw [HD.out];exact HP3.out⟩
        | ((repeat apply Exists.intro);refine ⟨?_,rfl⟩;exact ⟨k+1,by omega,by go_num,by rw [HD.out];exact HP3.out⟩)
        | ((repeat apply Exists.intro);exact ⟨⟨k+1,by omega,by go_num,by rw [HD.out];exact HP3.out⟩,rfl⟩)
      case measure=>simp [intOf];omega
  ·obtain rfl:k=n:=by omega
   have hall:P.take k=P:=List.take_of_length_le (by have:=HN.out;omega)
   rw [hall] at HR;obtain ⟨c,hc⟩: ∃ c,ctlP P=c:=⟨_,rfl⟩
   rw [hc] at HR;have HO:=hid HR.out.out;have HCt:=hid hc;obtain ⟨d0,d1,d2,z0,z1,z2⟩:=HR.out.2.1.cells
   obtain ⟨f0,f1,f2,y0,y1,y2⟩:=HR.out.1.cells
   clear hc hall;obtain ⟨cs,cc,cm⟩:=c
   go_wp2_with fail
   exact bodyPost_ret (results_ct rfl _ _ w.heap.size cs cc cm rfl HO.out.1) rfl (by rw [HCt.out];exact HO.out.2)

end Go.Proofs.YtpopljcmkbchcaaGreatDoor

namespace Go.Proofs.YtpopljcmkbchcaaGreatDoor
open Go.RowKit

theorem TxAt.take16 {w:World} {a:Option Addr} {n c:Nat} {L:List (List UInt8)} (h:TxAt w (.slice a n c) L) (k:Nat) (hk:k≤L.length):TxAt w (.slice a k c) (L.take k):=by
 obtain ⟨a',c',e,h1,h2,h3⟩:=h.view
 injection e with e1 e2 e3
 subst e1 e3;refine ⟨a,c,by rw [List.length_take,Nat.min_eq_left hk],by rw [List.length_take];omega,h2,fun j hj=> ?_⟩
 have hj2:j<L.length:=by rw [List.length_take] at hj;omega
 obtain ⟨b,off,e4,e5⟩:=h3 j hj2
 exact ⟨b,off,e4,by rw [List.getElem_take];exact e5⟩

theorem cells_enc (X:List (List UInt8)):X.map encStr=cellsT X:=rfl

theorem grow_none16 (w:World):Sort.grow w #[]=w:=by
 cases w
 simp [Sort.grow]

def varV (P:List (List UInt8)):List (List UInt8):=if vrOk P then srtN (vrS P) else []

theorem varV_yes {P X:List (List UInt8)} (h:vrOk P=true) (hX:vrS P=X):varV P=srtN X:=by unfold varV;rw [h,hX];rfl

theorem varV_no {P:List (List UInt8)} (h:vrOk P=false):varV P=[]:=by unfold varV;rw [h];rfl

theorem srtN_len16 (X:List (List UInt8)):(srtN X).length≤X.length:=(srtN_facts X).2.2

end Go.Proofs.YtpopljcmkbchcaaGreatDoor

namespace Go.Proofs.YtpopljcmkbchcaaGreatDoor
open Go.RowKit

structure Cho where
 name:List UInt8
 value:List UInt8
 there:Bool
deriving DecidableEq

def choV (A:List Hd) (n:List UInt8):Cho:=⟨n,getT A n,getB A n⟩

structure Rep where
 st:Int
 hd:List Hd
 bd:List UInt8
deriving DecidableEq

structure RowC where
 url:List UInt8
 ch:List Cho
 rp:Rep
 sto:Int
 tn:Int
deriving DecidableEq

structure CaS where
 rows:List RowC
 tn:Int
deriving DecidableEq

def meantV (u:List UInt8) (A:List Hd) (r:RowC):Bool:=decide (r.url=u) && !(r.ch.any fun c=>decide (choV A c.name≠c))

def bestV (q:RowC→Bool) (R:List RowC):Nat→Option Nat
 | 0=>none
 | k+1=>match R[k]? with
   | none=>bestV q R k
   | some r=>match bestV q R k with
     | none=>if q r then some k else none
     | some a=>if q r&&decide ((R.getD a r).tn<r.tn) then some k else some a

theorem bestV_lt (q:RowC→Bool) (R:List RowC): ∀ k a,bestV q R k=some a→a<k∧a<R.length
 | 0,a,h=>by simp [bestV] at h
 | k+1,a,h=>by
   have ih:=bestV_lt q R k;unfold bestV at h
   cases hr:R[k]? with
   | none=>rw [hr] at h;have:=ih a h;omega
   | some r=>
     have hk:k<R.length:=(List.getElem?_eq_some_iff.1 hr).1;rw [hr] at h;dsimp only at h
     cases hb:bestV q R k with
     | none=>
       rw [hb] at h;dsimp only at h;split at h
       ·injection h with h;omega
       ·cases h
     | some b=>
       rw [hb] at h;dsimp only at h;have:=ih b hb;split at h
       ·injection h with h;omega
       ·injection h with h;omega

def takeV (C:CaS) (u:List UInt8) (A:List Hd):Option (RowC×List RowC):=
 if (ctlV A).ns then none else match bestV (meantV u A) C.rows C.rows.length with
  | none=>none
  | some a=>(C.rows[a]?).map fun r=>(r,C.rows.eraseIdx a)

def tAge:List UInt8:=[97,103,101]

def setH (L:List Hd) (n v:List UInt8):List Hd:=if setE L n v=0 then setV L n v else L

def tCl:List UInt8:=[99,111,110,116,101,110,116,45,108,101,110,103,116,104]

def tCe:List UInt8:=[99,111,110,116,101,110,116,45,101,110,99,111,100,105,110,103]

def tCt:List UInt8:=[99,111,110,116,101,110,116,45,116,121,112,101]

def tCr:List UInt8:=[99,111,110,116,101,110,116,45,114,97,110,103,101]

def ofB (n:List UInt8):Bool:=[tCl,tCe,tCt,tCr].contains (low n)

def renS (L:List Hd) (h:Hd):List Hd:=if ofB h.name then L else setH L h.name h.value

def renV (K B:List Hd):List Hd:=B.foldl renS (dropV K tAge)

theorem renV_take (K B:List Hd) (k:Nat) (h:k<B.length):(B.take (k+1)).foldl renS (dropV K tAge)=renS ((B.take k).foldl renS (dropV K tAge)) B[k]:=by
 rw [List.take_add_one,List.getElem?_eq_getElem h,List.foldl_append]
 rfl

def tEt:List UInt8:=[101,116,97,103]

def tLm:List UInt8:=[108,97,115,116,45,109,111,100,105,102,105,101,100]

def tInm:List UInt8:=[105,102,45,110,111,110,101,45,109,97,116,99,104]

def tIms:List UInt8:=[105,102,45,109,111,100,105,102,105,101,100,45,115,105,110,99,101]

def condV (L:List Hd):List Hd:=(if getB L tEt then [⟨tInm,getT L tEt⟩] else [])++(if getB L tLm then [⟨tIms,getT L tLm⟩] else [])

def putOk (A:List Hd) (r:Rep):Bool:=vrOk (pcsV r.hd nVy)&&decide (r.st=200) && !(ctlV r.hd).ns && !(ctlV A).ns

def roomV (R:List RowC):List RowC:=if 16≤R.length then R.drop 1 else R

def putV (C:CaS) (u:List UInt8) (A:List Hd) (r:Rep) (now:Int):CaS:=
 if putOk A r then ⟨roomV (C.rows.filter fun x=> !meantV u A x)++[⟨u,(varV (pcsV r.hd nVy)).map (choV A),r,now,C.tn+1⟩],C.tn+1⟩ else C

def useV (C:CaS) (u:List UInt8) (A:List Hd):CaS:=match takeV C u A with
 | none=>C
 | some (r,R)=>⟨R++[r],C.tn⟩

structure FoR where
 state:Int
 rp:Rep
 ask:List Hd
deriving DecidableEq

def foundV (num:Int→List UInt8) (r:RowC) (A:List Hd) (now:Int):FoR:=
 if (ctlV A).nc || !freV r.rp.hd r.sto now then ⟨1,⟨r.rp.st,setH r.rp.hd tAge (num (ageV r.rp.hd r.sto now)),r.rp.bd⟩,condV r.rp.hd⟩
 else ⟨2,⟨r.rp.st,setH r.rp.hd tAge (num (ageV r.rp.hd r.sto now)),r.rp.bd⟩,[]⟩

def findV (num:Int→List UInt8) (C:CaS) (u:List UInt8) (A:List Hd) (now:Int):FoR:=match takeV C u A with
 | none=>⟨0,⟨0,[],[]⟩,[]⟩
 | some (r,_)=>foundV num r A now

def reRow (r:RowC) (B:List Hd) (now t:Int):RowC:=⟨r.url,r.ch,⟨r.rp.st,renV r.rp.hd B,r.rp.bd⟩,now,t⟩

def reV (C:CaS) (u:List UInt8) (A:List Hd) (B:List Hd) (now:Int):CaS:=match takeV C u A with
 | none=>C
 | some (r,R)=>⟨R++[reRow r B now (C.tn+1)],C.tn+1⟩

def reRep (C:CaS) (u:List UInt8) (A:List Hd) (B:List Hd):Rep×Bool:=match takeV C u A with
 | none=>(⟨0,[],[]⟩,false)
 | some (r,_)=>(⟨r.rp.st,renV r.rp.hd B,r.rp.bd⟩,true)

def drpV (C:CaS) (u:List UInt8):CaS:=⟨C.rows.filter fun r=> !decide (r.url=u),C.tn⟩

def Hk (L:List Hd):Prop:=L.length≤64∧Szd 4096 L

theorem Hk.szd {L:List Hd} (h:Hk L):Szd 140737488351232 L∧L.length≤1000000∧bulkV L≤1000000:=by
 refine ⟨h.2.mono (by decide),by have:=h.1;omega,?_⟩;have h2:=h.2.bulk;have h3:(4096+2)*L.length≤4098*64:=Nat.mul_le_mul_left _ h.1;omega

theorem hk_nil:Hk []:=⟨by decide,fun x hx=>by simp at hx⟩

theorem Hk.drop {L:List Hd} (h:Hk L) (n:List UInt8):Hk (dropV L n):=
 ⟨Nat.le_trans (dropV_len L n) h.1,fun x hx=>h.2 x (List.mem_filter.1 hx).1⟩

theorem hdE_ok {n v:List UInt8} (h:hdE n v=0):n.length≤4096∧(valT v).length≤4096:=by
 unfold hdE at h;split at h
 ·cases h
 ·split at h
  ·cases h
  ·omega

theorem Hk.set {L:List Hd} (h:Hk L) (n v:List UInt8):Hk (setH L n v):=by
 unfold setH;split
 ·rename_i he
  unfold setE at he;unfold setV
  cases hf:firstV L n with
  | none=>
    rw [hf] at he;dsimp only at he ⊢;unfold addE at he;split at he
    ·rename_i hn;exact absurd he hn
    ·rename_i hn
     split at he
     ·cases he
     ·have:=hdE_ok (Decidable.not_not.1 hn)
      refine ⟨by simp;omega,fun x hx=> ?_⟩
      rcases List.mem_append.1 hx with hx | hx
      ·exact h.2 x hx
      ·rw [List.mem_singleton.1 hx];exact this
  | some k=>
    rw [hf] at he;dsimp only at he ⊢;have hz:=hdE_ok he;have hk:k<L.length:=by
     unfold firstV at hf;exact (List.findIdx?_eq_some_iff_getElem.1 hf).1
    have hd:=dropV_len (L.drop (k+1)) n;rw [List.length_drop] at hd;refine ⟨by simp;have:=h.1;omega,fun x hx=> ?_⟩
    rcases List.mem_append.1 hx with hx | hx
    ·rcases List.mem_append.1 hx with hx | hx
     ·exact h.2 x (List.mem_of_mem_take hx)
     ·rw [List.mem_singleton.1 hx]
      have:L.getD k ⟨[],[]⟩=L[k]:=by simp [List.getD,hk]
      refine ⟨?_,hz.2⟩
      show (L.getD k ⟨[],[]⟩).name.length≤4096;rw [this];exact (h.2 _ (List.getElem_mem hk)).1
    ·exact h.2 x (List.mem_of_mem_drop (List.mem_filter.1 hx).1)
 ·exact h

theorem Hk.ren {K B:List Hd} (h:Hk K):Hk (renV K B):=by
 unfold renV
 suffices H: ∀ (B:List Hd) (L:List Hd),Hk L→Hk (B.foldl renS L) from H B _ (h.drop _)
 intro B
 induction B with
 | nil=>intro L hL;exact hL
 | cons x B ih=>
   intro L hL;refine ih _ ?_;unfold renS;split
   ·exact hL
   ·exact hL.set _ _

theorem takeV_mem {C:CaS} {u:List UInt8} {A:List Hd} {r:RowC} {R:List RowC} (h:takeV C u A=some (r,R)):(ctlV A).ns=false ∧ ∃ a,bestV (meantV u A) C.rows C.rows.length=some a∧a<C.rows.length∧C.rows[a]? = some r∧R=C.rows.eraseIdx a:=by
 unfold takeV at h;split at h
 ·cases h
 ·rename_i hn
  refine ⟨by simpa using hn,?_⟩
  split at h
  ·cases h
  ·rename_i a ha
   have:=(bestV_lt _ _ _ _ ha).2;rw [Option.map_eq_some_iff] at h;obtain ⟨x,hx,e⟩:=h
   injection e with e1 e2
   subst e1;exact ⟨a,ha,this,hx,e2.symm⟩

end Go.Proofs.YtpopljcmkbchcaaGreatDoor
