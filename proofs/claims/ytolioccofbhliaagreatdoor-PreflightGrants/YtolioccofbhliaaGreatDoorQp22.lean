/-
  Walks and plain facts that this claim leans on, put together out of 1 texts: Ejl.
-/
import Derived.Test.YtolioccofbhliaaGreatDoorProg
import Derived.Test.YtolioccofbhliaaGreatDoorQp1
import Derived.Test.YtolioccofbhliaaGreatDoorQp2
import Derived.Test.YtolioccofbhliaaGreatDoorQp13
import Derived.Test.YtolioccofbhliaaGreatDoorQp14
import Derived.Test.YtolioccofbhliaaGreatDoorQp16
import Derived.Test.YtolioccofbhliaaGreatDoorQp17
import Derived.Test.YtolioccofbhliaaGreatDoorQp18
import Derived.Test.YtolioccofbhliaaGreatDoorQp19
import Derived.Test.YtolioccofbhliaaGreatDoorQp21
import Derived.BigRegion
import Derived.Deep.RegionHeld
import Derived.Deep.RegionHeldLaw
import Derived.Lib.IndexAny
import Derived.WalkKit
import Derived.Lib.UnsafeStr
import Derived.Lib.BufferRead
import Derived.Lib.RuneBytes
import Derived.Laws.RangeAny
import Derived.Deep.LoopGhost
import Derived.Maps.OwnSet
import Derived.Maps.OwnOps
import Derived.Maps.AppendAt
import Derived.StringKeys
import Derived.BigQuiet
import Derived.Deep.QuietTactic
import Derived.LoopN
import Derived.RegionTactic
import Derived.Deep.RegionLaw
import Derived.Deep.RegionWith
import Derived.WalkSpells
import Derived.WalkLawsBesides
import Derived.Lib.FieldsP
import Derived.Lib.DecodeN
import Derived.Lib.IndexMore
import Derived.Lib.Join
import Derived.Lib.SmallJoins
import Derived.Laws.CopyOwn
import Derived.Laws.ResultCell
import Derived.Deep.MidRow
import Derived.Laws.OwnMore
import Derived.Below
import Derived.WalkSmall
import Derived.Lib.LaidTab
import Derived.Lib.AppendIntMem
import Derived.Laws.AppendOwn
import Derived.Laws.Runes
import Derived.Lib.OthersKept
import Derived.Lib.FrozenHead2
import Derived.Lib.Builder
import Derived.Lib.AppendStr
import Derived.Lib.Replace
import Derived.Shelf.GgClosure.GivesRunes
import Derived.Laws.BitsAll
import Derived.Laws.Shifts
import Derived.Deep.DeepAppendRoom
import Derived.Laws.IdiomStrings
import Derived.Laws.BytesString
import Derived.Laws.CopyRow
import Derived.Sort.OwnSorted
import Derived.Lib.SlicesCompact
import Derived.Sort.KeysCollected
import Derived.Lib.Case
import Derived.Lib.LastIndexByte
import Derived.Lib.Strings
import Derived.Laws.BitsAllLaws
import Derived.Lib.Bytealg
import Derived.Lib.BufferMore
import Derived.Shelf.Strings.Builder1
import Derived.Shelf.Strings.Builder2
import Derived.Shelf.Strings.OnBuilder
import Derived.Shelf.Strings.Trim
import Derived.Shelf.Small.Utf8
import Derived.Shelf.Small.Bits
import Derived.Shelf.Small.Strs
import Derived.Shelf.Small.Wraps
import Derived.Shelf.Strings.BuilderF
import Derived.Shelf.Strings.BuilderK
import Derived.Shelf.Strings.Builder2Cap
import Derived.Shelf.Strconv.Itoa0
import Derived.Shelf.Strconv.Itoa1
import Derived.Shelf.LaysM
import Derived.Shelf.Strconv.Itoa2
import Derived.Shelf.Strconv.Itoa3
import Derived.Shelf.Strings.Search1
import Derived.Shelf.Strings.Search2
import Derived.Shelf.Strings.Cut
import Derived.Shelf.Strings.Shaped
import Derived.Shelf.Sort.Plain
import Derived.Shelf.Strings.Prefix
import Derived.Shelf.Strings.Runes
import Derived.Shelf.Strings.IndexAny
import Derived.Shelf.Strings.AsciiSet
import Derived.Shelf.Strings.IndexAnyAll
import Derived.Shelf.Unicode.DecodeSlow
import Derived.Shelf.Unicode.DecodeAny
import Derived.Shelf.Unicode.DecodeLast
import Derived.Shelf.Slices.CompactS
import Derived.Shelf.Slices.In.SortNone
import Derived.Ground.SlgnProg
import Derived.Shelf.SlicesE.Compact
import Derived.Ground.SlgfProg
import Derived.Shelf.SlicesE.IndexFunc
import Derived.Shelf.SlicesE.DeleteFunc
import Derived.Scope
import Derived.ScopeJumps
import Derived.WalkMore
import Derived.Lib.TrimByte
import Derived.Lib.ItoaNum
import Derived.OwnWalk
import Derived.Lib.SlTrimSet
import Derived.Shelf.Strings.SlTrimAscii
import Derived.Deep.CutRange
import Derived.Laws.Rows
import Derived.Laws.MakeOwn
import Derived.Deep.WholeRow
import Derived.Laws.AppendOwnNone
set_option linter.unusedSimpArgs false
set_option linter.unusedVariables false

namespace Go.Proofs.YtolioccofbhliaaGreatDoor
open Go.RowKit

def SayAt (w:World) (f:Nat) (lb:Array Value) (q:List UInt8→Bool):Prop:= ∀ (Y:World) (X:ByteArray),Below w.heap.size w Y→X.size≤140737488351232→Calls Tryz.prog f (#[.string X]++lb) Y fun e w'=>e = .returned (.bool (q X.data.toList))∧Below Y.heap.size Y w'

theorem okV_p {c:Bool} {m:List UInt8} {Q:List (List UInt8)} {a b:List UInt8→Bool} {p:Bool} (h:(simM m||(a m||(!c&&a [42])))=p):okV c m Q a b=(p&&Q.all (oneN c b)):=by unfold okV;rw [h]

theorem okV_no {c:Bool} {m:List UInt8} {Q:List (List UInt8)} {a b:List UInt8→Bool} (k:Nat) (hk:k<Q.length) (h:oneN c b Q[k]=false):okV c m Q a b=false:=by
 unfold okV;rw [show Q.all (oneN c b)=false from List.all_eq_false.2 ⟨Q[k],List.getElem_mem hk,by rw [h];decide⟩,Bool.and_false]

theorem all_take19 {q:List UInt8→Bool} {Q:List (List UInt8)} {k:Nat} (hk:k<Q.length) (h:(Q.take k).all q=true) (h2:q Q[k]=true):(Q.take (k+1)).all q=true:=by
 rw [List.take_succ_eq_append_getElem hk,List.all_append,h];simp [h2]

set_option maxHeartbeats 16000000 in
set_option maxRecDepth 100000 in
theorem allowed19_any (fm fn:Nat) (lm ln:Array Value) (em: ∀ args w,(callFunc fm args).run Tryz.prog w = .ok (.enter fm args) w) (en: ∀ args w,(callFunc fn args).run Tryz.prog w = .ok (.enter fn args) w) (isM isN:List UInt8→Bool) (c:Bool) (m:ByteArray) (v:Value) (Q:List (List UInt8)) (w:World) (hM:SayAt w fm lm isM) (hN:SayAt w fn ln isN) (hm:m.size≤140737488351232) (hv:TxAt w v Q) (hl:Q.length≤9223372036854775807) (hs: ∀ x ∈ Q,x.length≤140737488351232):
 Calls Tryz.prog 85 #[.bool c,.string m,v,.func (.func fm) #[] lm,.func (.func fn) #[] ln] w fun e w'=>e = .returned (.bool (okV c m.data.toList Q isM isN))∧Below w.heap.size w w':=by
 obtain ⟨qa,qc,rfl,_,_,hq⟩:=hv.view
 have HQ:=hid hq;have HZ:=hid hs;have HM:=hid hM;have HN:=hid hN;have HSm:=hid (fun w=>simple18_any m w);obtain ⟨n,hn⟩: ∃ n,n=Q.length:=⟨_,rfl⟩
 have HL:=hid hn;rw [← hn] at hl ⊢;have HMm:=hid (fun (Y:World) (hY:Below w.heap.size w Y)=>hM Y m hY hm);have HM2:=hid (fun (Y:World) (hY:Below w.heap.size w Y)=>hM Y ⟨#[42]⟩ hY (by decide));have HN2:=hid (fun (Y:World) (hY:Below w.heap.size w Y)=>hN Y ⟨#[42]⟩ hY (by decide));rw [show (⟨#[42]⟩:ByteArray).data.toList=[42] from rfl] at HM2 HN2;obtain ⟨R,hR⟩: ∃ R,R=okV c m.data.toList Q isM isN:=⟨_,rfl⟩
 rw [← hR];have HP:=hid (fun p h=>hR.trans (okV_p (Q:=Q) (b:=isN) (c:=c) (a:=isM) (m:=m.data.toList) (p:=p) h));have HNo:=hid (fun k hk h=>hR.trans (okV_no (c:=c) (m:=m.data.toList) (a:=isM) (b:=isN) (Q:=Q) k hk h));obtain ⟨sm,hsm⟩: ∃ b,b=simM m.data.toList:=⟨_,rfl⟩
 obtain ⟨ma,hma⟩: ∃ b,b=isM m.data.toList:=⟨_,rfl⟩
 obtain ⟨ms,hms⟩: ∃ b,b=isM [42]:=⟨_,rfl⟩
 obtain ⟨ns,hns⟩: ∃ b,b=isN [42]:=⟨_,rfl⟩
 rw [← hsm] at HSm;rw [← hsm,← hma,← hms] at HP;rw [← hma] at HMm;rw [← hms] at HM2;rw [← hns] at HN2;have HNs:=hid hns;have hb0:=Below.refl w.heap.size w;clear hM hN hv hq hs hn hR hsm hma hms hns hm
 cases sm with
 | true=>
   go_enter Tryz.func85,Tryz.ntmps85
   go_wp2_with fail
   refine (HSm.out _).mono ?_;rintro e w0 ⟨rfl,rfl⟩
   go_wp2_with fail
   obtain ⟨WL,hWL⟩: ∃ Y,Y=w:=⟨_,rfl⟩
   have HBL:=hid (show Below w.heap.size w WL by rw [hWL];exact hb0)
   try rw [← hWL]
   clear hWL
   go_loopw [12,32] (fun _ v32 wr=> ∃ k:Nat,k≤n∧v32 = .int .i64 k∧Hid ((Q.take k).all (oneN c isN)=true∧Below w.heap.size w wr)) (fun _ v32 _=>n - (intOf v32).toNat)
   case atStart=>exact ⟨0,Nat.zero_le _,rfl,rfl,HBL.out⟩
   case round=>
    obtain ⟨k,hk,rfl,HR⟩:=hrel
    by_cases hlt:k<n
    ·have hkQ:k<Q.length:=by have:=HL.out;omega
     have hin:(k:Int)<(n:Int):=by omega
     obtain ⟨b1,o1,e1,hc1⟩:=HQ.out k hkQ
     try subst e1
     have hc2:=(HR.out.2.cell (World.block_lt_of_cell? w _ hc1)).trans hc1;obtain ⟨X,hX⟩: ∃ X:ByteArray,X=⟨Q[k].toArray⟩:=⟨_,rfl⟩
     rw [← hX] at hc2;have hXl:X.data.toList=Q[k]:=by rw [hX]
     have hXs:X.size≤140737488351232:=by rw [Lib.size_eq,hXl];exact HZ.out _ (List.getElem_mem hkQ)
     obtain ⟨L,hL⟩: ∃ L:ByteArray,L=⟨(low X.data.toList).toArray⟩:=⟨_,rfl⟩
     have hLs:L.size≤140737488351232:=by rw [Lib.size_eq,hL];show (low X.data.toList).length≤_;unfold low;rw [List.length_map,← Lib.size_eq];exact hXs
     have HLo:=hid (fun Y:World=>lower_any X Y hXs);rw [← hL] at HLo;have hLl:L.data.toList=low X.data.toList:=by rw [hL]
     have HNx:=hid (fun (Y:World) (hY:Below w.heap.size w Y)=>HN.out Y L hY hLs);obtain ⟨y,hy⟩: ∃ y,y=isN L.data.toList:=⟨_,rfl⟩
     rw [← hy] at HNx;have HOne:=hid (show oneN c isN Q[k]=(y||(!c&&(!decide (L.data.toList=nAuth)&&ns))) by
      unfold oneN;rw [hy,hLl,hXl,HNs.out])
     have HYes:=hid (fun h=>all_take19 (q:=oneN c isN) hkQ HR.out.1 (HOne.out.trans h));have HNn:=hid (fun h=>HNo.out k hkQ (HOne.out.trans h));have HBr:=hid HR.out.2;clear hc1 hX hXl hXs hL hLl hLs hy hkQ HR HOne
     cases y with
     | true=>
       go_wp2_with fail
       refine (HLo.out _).mono ?_;rintro e v1 ⟨rfl,hv1⟩
       have HV1:=hid (below2_Efc HBr.out hv1);clear hv1
       go_wp2_with fail
       refine (HNx.out _ HV1.out).mono ?_;rintro e v2 ⟨rfl,hv2⟩
       have HV2:=hid (below2_Efc HV1.out hv2);clear hv2
       go_wp2_with fail
       go_roundw
       case rel=>
        have e4:(Q.take (k+1)).all (oneN _ isN)=true∧Below w.heap.size w v2:=⟨HYes.out (by (first | rfl | simp_all)),HV2.out⟩
        first
         | exact ⟨k+1,by omega,by go_num,e4⟩
         | ((repeat apply Exists.intro);refine ⟨?_,rfl⟩;exact ⟨k+1,by omega,by go_num,e4⟩)
         | ((repeat apply Exists.intro);exact ⟨⟨k+1,by omega,by go_num,e4⟩,rfl⟩)
       case measure=>simp [intOf];omega
     | false=>
       cases c with
       | true=>
         go_wp2_with fail
         refine (HLo.out _).mono ?_;rintro e v1 ⟨rfl,hv1⟩
         have HV1:=hid (below2_Efc HBr.out hv1);clear hv1
         go_wp2_with fail
         refine (HNx.out _ HV1.out).mono ?_;rintro e v2 ⟨rfl,hv2⟩
         have HV2:=hid (below2_Efc HV1.out hv2);clear hv2
         go_wp2_with fail
         go_ret
         exact ⟨ret_bool (HNn.out (by (first | rfl | simp_all))).symm,HV2.out⟩
       | false=>
         by_cases hA:L.data.toList=nAuth
         ·have e2:=lst_yes hA
          unfold nAuth at e2;have HAu:=hid hA;have hDA:decide (L.data.toList=nAuth)=true:=decide_eq_true hA;have HNn2:=hid (HNn.out (by rw [hDA];rfl));clear hA hDA;subst e2
          go_wp2_with fail
          refine (HLo.out _).mono ?_;rintro e v1 ⟨rfl,hv1⟩
          have HV1:=hid (below2_Efc HBr.out hv1);clear hv1
          go_wp2_with fail
          refine (HNx.out _ HV1.out).mono ?_;rintro e v2 ⟨rfl,hv2⟩
          have HV2:=hid (below2_Efc HV1.out hv2);clear hv2
          go_wp2_with fail
          go_ret
          exact ⟨ret_bool HNn2.out.symm,HV2.out⟩
         ·have e2:=lst_ne hA
          unfold nAuth at e2;have hDA:decide (L.data.toList=nAuth)=false:=decide_eq_false hA;rw [hDA] at HYes HNn;clear hA hDA
          cases ns with
          | true=>
            go_wp2_with fail
            refine (HLo.out _).mono ?_;rintro e v1 ⟨rfl,hv1⟩
            have HV1:=hid (below2_Efc HBr.out hv1);clear hv1
            go_wp2_with fail
            refine (HNx.out _ HV1.out).mono ?_;rintro e v2 ⟨rfl,hv2⟩
            have HV2:=hid (below2_Efc HV1.out hv2);clear hv2
            go_wp2_with fail
            refine (HN2.out _ HV2.out).mono ?_;rintro e v3 ⟨rfl,hv3⟩
            have HV3:=hid (below2_Efc HV2.out hv3);clear hv3
            go_wp2_with fail
            go_roundw
            case rel=>
             have e4:(Q.take (k+1)).all (oneN _ isN)=true∧Below w.heap.size w v3:=⟨HYes.out (by (first | rfl | simp_all)),HV3.out⟩
             first
              | exact ⟨k+1,by omega,by go_num,e4⟩
              | ((repeat apply Exists.intro);refine ⟨?_,rfl⟩;exact ⟨k+1,by omega,by go_num,e4⟩)
              | ((repeat apply Exists.intro);exact ⟨⟨k+1,by omega,by go_num,e4⟩,rfl⟩)
            case measure=>simp [intOf];omega
          | false=>
            go_wp2_with fail
            refine (HLo.out _).mono ?_;rintro e v1 ⟨rfl,hv1⟩
            have HV1:=hid (below2_Efc HBr.out hv1);clear hv1
            go_wp2_with fail
            refine (HNx.out _ HV1.out).mono ?_;rintro e v2 ⟨rfl,hv2⟩
            have HV2:=hid (below2_Efc HV1.out hv2);clear hv2
            go_wp2_with fail
            refine (HN2.out _ HV2.out).mono ?_;rintro e v3 ⟨rfl,hv3⟩
            have HV3:=hid (below2_Efc HV2.out hv3);clear hv3
            go_wp2_with fail
            go_ret
            exact ⟨ret_bool (HNn.out (by (first | rfl | simp_all))).symm,HV3.out⟩
    ·obtain rfl:k=n:=by omega
     have HA:=hid (show Q.all (oneN c isN)=true by
      have h:=HR.out.1
      rwa [List.take_of_length_le (by have:=HL.out;omega)] at h)
     have HB:=hid HR.out.2;have HRt:=hid (HP.out true (by (first | rfl | simp)));clear HR hk hlt
     go_wp2_with fail
     go_ret
     exact ⟨ret_bool (by rw [HRt.out,HA.out];rfl),HB.out⟩
 | false=>
   cases ma with
   | true=>
     go_enter Tryz.func85,Tryz.ntmps85
     go_wp2_with fail
     refine (HSm.out _).mono ?_;rintro e w0 ⟨rfl,rfl⟩
     go_wp2_with fail
     refine (HMm.out _ hb0).mono ?_;rintro e w1 ⟨rfl,hbw1⟩
     have HBw1:=hid (below2_Efc (hb0) hbw1);clear hbw1
     go_wp2_with fail
     obtain ⟨WL,hWL⟩: ∃ Y,Y=w1:=⟨_,rfl⟩
     have HBL:=hid (show Below w.heap.size w WL by rw [hWL];exact HBw1.out)
     try rw [← hWL]
     clear hWL
     go_loopw [12,32] (fun _ v32 wr=> ∃ k:Nat,k≤n∧v32 = .int .i64 k∧Hid ((Q.take k).all (oneN c isN)=true∧Below w.heap.size w wr)) (fun _ v32 _=>n - (intOf v32).toNat)
     case atStart=>exact ⟨0,Nat.zero_le _,rfl,rfl,HBL.out⟩
     case round=>
      obtain ⟨k,hk,rfl,HR⟩:=hrel
      by_cases hlt:k<n
      ·have hkQ:k<Q.length:=by have:=HL.out;omega
       have hin:(k:Int)<(n:Int):=by omega
       obtain ⟨b1,o1,e1,hc1⟩:=HQ.out k hkQ
       try subst e1
       have hc2:=(HR.out.2.cell (World.block_lt_of_cell? w _ hc1)).trans hc1;obtain ⟨X,hX⟩: ∃ X:ByteArray,X=⟨Q[k].toArray⟩:=⟨_,rfl⟩
       rw [← hX] at hc2;have hXl:X.data.toList=Q[k]:=by rw [hX]
       have hXs:X.size≤140737488351232:=by rw [Lib.size_eq,hXl];exact HZ.out _ (List.getElem_mem hkQ)
       obtain ⟨L,hL⟩: ∃ L:ByteArray,L=⟨(low X.data.toList).toArray⟩:=⟨_,rfl⟩
       have hLs:L.size≤140737488351232:=by rw [Lib.size_eq,hL];show (low X.data.toList).length≤_;unfold low;rw [List.length_map,← Lib.size_eq];exact hXs
       have HLo:=hid (fun Y:World=>lower_any X Y hXs);rw [← hL] at HLo;have hLl:L.data.toList=low X.data.toList:=by rw [hL]
       have HNx:=hid (fun (Y:World) (hY:Below w.heap.size w Y)=>HN.out Y L hY hLs);obtain ⟨y,hy⟩: ∃ y,y=isN L.data.toList:=⟨_,rfl⟩
       rw [← hy] at HNx;have HOne:=hid (show oneN c isN Q[k]=(y||(!c&&(!decide (L.data.toList=nAuth)&&ns))) by
        unfold oneN;rw [hy,hLl,hXl,HNs.out])
       have HYes:=hid (fun h=>all_take19 (q:=oneN c isN) hkQ HR.out.1 (HOne.out.trans h));have HNn:=hid (fun h=>HNo.out k hkQ (HOne.out.trans h));have HBr:=hid HR.out.2;clear hc1 hX hXl hXs hL hLl hLs hy hkQ HR HOne
       cases y with
       | true=>
         go_wp2_with fail
         refine (HLo.out _).mono ?_;rintro e v1 ⟨rfl,hv1⟩
         have HV1:=hid (below2_Efc HBr.out hv1);clear hv1
         go_wp2_with fail
         refine (HNx.out _ HV1.out).mono ?_;rintro e v2 ⟨rfl,hv2⟩
         have HV2:=hid (below2_Efc HV1.out hv2);clear hv2
         go_wp2_with fail
         go_roundw
         case rel=>
          have e4:(Q.take (k+1)).all (oneN _ isN)=true∧Below w.heap.size w v2:=⟨HYes.out (by (first | rfl | simp_all)),HV2.out⟩
          first
           | exact ⟨k+1,by omega,by go_num,e4⟩
           | ((repeat apply Exists.intro);refine ⟨?_,rfl⟩;exact ⟨k+1,by omega,by go_num,e4⟩)
           | ((repeat apply Exists.intro);exact ⟨⟨k+1,by omega,by go_num,e4⟩,rfl⟩)
         case measure=>simp [intOf];omega
       | false=>
         cases c with
         | true=>
           go_wp2_with fail
           refine (HLo.out _).mono ?_;rintro e v1 ⟨rfl,hv1⟩
           have HV1:=hid (below2_Efc HBr.out hv1);clear hv1
           go_wp2_with fail
           refine (HNx.out _ HV1.out).mono ?_;rintro e v2 ⟨rfl,hv2⟩
           have HV2:=hid (below2_Efc HV1.out hv2);clear hv2
           go_wp2_with fail
           go_ret
           exact ⟨ret_bool (HNn.out (by (first | rfl | simp_all))).symm,HV2.out⟩
         | false=>
           by_cases hA:L.data.toList=nAuth
           ·have e2:=lst_yes hA
            unfold nAuth at e2;have HAu:=hid hA;have hDA:decide (L.data.toList=nAuth)=true:=decide_eq_true hA;have HNn2:=hid (HNn.out (by rw [hDA];rfl));clear hA hDA;subst e2
            go_wp2_with fail
            refine (HLo.out _).mono ?_;rintro e v1 ⟨rfl,hv1⟩
            have HV1:=hid (below2_Efc HBr.out hv1);clear hv1
            go_wp2_with fail
            refine (HNx.out _ HV1.out).mono ?_;rintro e v2 ⟨rfl,hv2⟩
            have HV2:=hid (below2_Efc HV1.out hv2);clear hv2
            go_wp2_with fail
            go_ret
            exact ⟨ret_bool HNn2.out.symm,HV2.out⟩
           ·have e2:=lst_ne hA
            unfold nAuth at e2;have hDA:decide (L.data.toList=nAuth)=false:=decide_eq_false hA;rw [hDA] at HYes HNn;clear hA hDA
            cases ns with
            | true=>
              go_wp2_with fail
              refine (HLo.out _).mono ?_;rintro e v1 ⟨rfl,hv1⟩
              have HV1:=hid (below2_Efc HBr.out hv1);clear hv1
              go_wp2_with fail
              refine (HNx.out _ HV1.out).mono ?_;rintro e v2 ⟨rfl,hv2⟩
              have HV2:=hid (below2_Efc HV1.out hv2);clear hv2
              go_wp2_with fail
              refine (HN2.out _ HV2.out).mono ?_;rintro e v3 ⟨rfl,hv3⟩
              have HV3:=hid (below2_Efc HV2.out hv3);clear hv3
              go_wp2_with fail
              go_roundw
              case rel=>
               have e4:(Q.take (k+1)).all (oneN _ isN)=true∧Below w.heap.size w v3:=⟨HYes.out (by (first | rfl | simp_all)),HV3.out⟩
               first
                | exact ⟨k+1,by omega,by go_num,e4⟩
                | ((repeat apply Exists.intro);refine ⟨?_,rfl⟩;exact ⟨k+1,by omega,by go_num,e4⟩)
                | ((repeat apply Exists.intro);exact ⟨⟨k+1,by omega,by go_num,e4⟩,rfl⟩)
              case measure=>simp [intOf];omega
            | false=>
              go_wp2_with fail
              refine (HLo.out _).mono ?_;rintro e v1 ⟨rfl,hv1⟩
              have HV1:=hid (below2_Efc HBr.out hv1);clear hv1
              go_wp2_with fail
              refine (HNx.out _ HV1.out).mono ?_;rintro e v2 ⟨rfl,hv2⟩
              have HV2:=hid (below2_Efc HV1.out hv2);clear hv2
              go_wp2_with fail
              refine (HN2.out _ HV2.out).mono ?_;rintro e v3 ⟨rfl,hv3⟩
              have HV3:=hid (below2_Efc HV2.out hv3);clear hv3
              go_wp2_with fail
              go_ret
              exact ⟨ret_bool (HNn.out (by (first | rfl | simp_all))).symm,HV3.out⟩
      ·obtain rfl:k=n:=by omega
       have HA:=hid (show Q.all (oneN c isN)=true by
        have h:=HR.out.1
        rwa [List.take_of_length_le (by have:=HL.out;omega)] at h)
       have HB:=hid HR.out.2;have HRt:=hid (HP.out true (by (first | rfl | simp)));clear HR hk hlt
       go_wp2_with fail
       go_ret
       exact ⟨ret_bool (by rw [HRt.out,HA.out];rfl),HB.out⟩
   | false=>
     cases c with
     | true=>
       go_enter Tryz.func85,Tryz.ntmps85
       go_wp2_with fail
       refine (HSm.out _).mono ?_;rintro e w0 ⟨rfl,rfl⟩
       go_wp2_with fail
       refine (HMm.out _ hb0).mono ?_;rintro e w1 ⟨rfl,hbw1⟩
       have HBw1:=hid (below2_Efc (hb0) hbw1);clear hbw1
       go_wp2_with fail
       go_ret
       exact ⟨ret_bool (HP.out false rfl).symm,HBw1.out⟩
     | false=>
       cases ms with
       | true=>
         go_enter Tryz.func85,Tryz.ntmps85
         go_wp2_with fail
         refine (HSm.out _).mono ?_;rintro e w0 ⟨rfl,rfl⟩
         go_wp2_with fail
         refine (HMm.out _ hb0).mono ?_;rintro e w1 ⟨rfl,hbw1⟩
         have HBw1:=hid (below2_Efc (hb0) hbw1);clear hbw1
         go_wp2_with fail
         refine (HM2.out _ HBw1.out).mono ?_;rintro e w2 ⟨rfl,hbw2⟩
         have HBw2:=hid (below2_Efc (HBw1.out) hbw2);clear hbw2
         go_wp2_with fail
         obtain ⟨WL,hWL⟩: ∃ Y,Y=w2:=⟨_,rfl⟩
         have HBL:=hid (show Below w.heap.size w WL by rw [hWL];exact HBw2.out)
         try rw [← hWL]
         clear hWL
         go_loopw [12,32] (fun _ v32 wr=> ∃ k:Nat,k≤n∧v32 = .int .i64 k∧Hid ((Q.take k).all (oneN false isN)=true∧Below w.heap.size w wr)) (fun _ v32 _=>n - (intOf v32).toNat)
         case atStart=>exact ⟨0,Nat.zero_le _,rfl,rfl,HBL.out⟩
         case round=>
          obtain ⟨k,hk,rfl,HR⟩:=hrel
          by_cases hlt:k<n
          ·have hkQ:k<Q.length:=by have:=HL.out;omega
           have hin:(k:Int)<(n:Int):=by omega
           obtain ⟨b1,o1,e1,hc1⟩:=HQ.out k hkQ
           try subst e1
           have hc2:=(HR.out.2.cell (World.block_lt_of_cell? w _ hc1)).trans hc1;obtain ⟨X,hX⟩: ∃ X:ByteArray,X=⟨Q[k].toArray⟩:=⟨_,rfl⟩
           rw [← hX] at hc2;have hXl:X.data.toList=Q[k]:=by rw [hX]
           have hXs:X.size≤140737488351232:=by rw [Lib.size_eq,hXl];exact HZ.out _ (List.getElem_mem hkQ)
           obtain ⟨L,hL⟩: ∃ L:ByteArray,L=⟨(low X.data.toList).toArray⟩:=⟨_,rfl⟩
           have hLs:L.size≤140737488351232:=by rw [Lib.size_eq,hL];show (low X.data.toList).length≤_;unfold low;rw [List.length_map,← Lib.size_eq];exact hXs
           have HLo:=hid (fun Y:World=>lower_any X Y hXs);rw [← hL] at HLo;have hLl:L.data.toList=low X.data.toList:=by rw [hL]
           have HNx:=hid (fun (Y:World) (hY:Below w.heap.size w Y)=>HN.out Y L hY hLs);obtain ⟨y,hy⟩: ∃ y,y=isN L.data.toList:=⟨_,rfl⟩
           rw [← hy] at HNx;have HOne:=hid (show oneN false isN Q[k]=(y||(!false&&(!decide (L.data.toList=nAuth)&&ns))) by
            unfold oneN;rw [hy,hLl,hXl,HNs.out])
           have HYes:=hid (fun h=>all_take19 (q:=oneN false isN) hkQ HR.out.1 (HOne.out.trans h));have HNn:=hid (fun h=>HNo.out k hkQ (HOne.out.trans h));have HBr:=hid HR.out.2;clear hc1 hX hXl hXs hL hLl hLs hy hkQ HR HOne
           cases y with
           | true=>
             go_wp2_with fail
             refine (HLo.out _).mono ?_;rintro e v1 ⟨rfl,hv1⟩
             have HV1:=hid (below2_Efc HBr.out hv1);clear hv1
             go_wp2_with fail
             refine (HNx.out _ HV1.out).mono ?_;rintro e v2 ⟨rfl,hv2⟩
             have HV2:=hid (below2_Efc HV1.out hv2);clear hv2
             go_wp2_with fail
             go_roundw
             case rel=>
              have e4:(Q.take (k+1)).all (oneN _ isN)=true∧Below w.heap.size w v2:=⟨HYes.out (by (first | rfl | simp_all)),HV2.out⟩
              first
               | exact ⟨k+1,by omega,by go_num,e4⟩
               | ((repeat apply Exists.intro);refine ⟨?_,rfl⟩;exact ⟨k+1,by omega,by go_num,e4⟩)
               | ((repeat apply Exists.intro);exact ⟨⟨k+1,by omega,by go_num,e4⟩,rfl⟩)
             case measure=>simp [intOf];omega
           | false=>
             by_cases hA:L.data.toList=nAuth
             ·have e2:=lst_yes hA
              unfold nAuth at e2;have HAu:=hid hA;have hDA:decide (L.data.toList=nAuth)=true:=decide_eq_true hA;have HNn2:=hid (HNn.out (by rw [hDA];rfl));clear hA hDA;subst e2
              go_wp2_with fail
              refine (HLo.out _).mono ?_;rintro e v1 ⟨rfl,hv1⟩
              have HV1:=hid (below2_Efc HBr.out hv1);clear hv1
              go_wp2_with fail
              refine (HNx.out _ HV1.out).mono ?_;rintro e v2 ⟨rfl,hv2⟩
              have HV2:=hid (below2_Efc HV1.out hv2);clear hv2
              go_wp2_with fail
              go_ret
              exact ⟨ret_bool HNn2.out.symm,HV2.out⟩
             ·have e2:=lst_ne hA
              unfold nAuth at e2;have hDA:decide (L.data.toList=nAuth)=false:=decide_eq_false hA;rw [hDA] at HYes HNn;clear hA hDA
              cases ns with
              | true=>
                go_wp2_with fail
                refine (HLo.out _).mono ?_;rintro e v1 ⟨rfl,hv1⟩
                have HV1:=hid (below2_Efc HBr.out hv1);clear hv1
                go_wp2_with fail
                refine (HNx.out _ HV1.out).mono ?_;rintro e v2 ⟨rfl,hv2⟩
                have HV2:=hid (below2_Efc HV1.out hv2);clear hv2
                go_wp2_with fail
                refine (HN2.out _ HV2.out).mono ?_;rintro e v3 ⟨rfl,hv3⟩
                have HV3:=hid (below2_Efc HV2.out hv3);clear hv3
                go_wp2_with fail
                go_roundw
                case rel=>
                 have e4:(Q.take (k+1)).all (oneN _ isN)=true∧Below w.heap.size w v3:=⟨HYes.out (by (first | rfl | simp_all)),HV3.out⟩
                 first
                  | exact ⟨k+1,by omega,by go_num,e4⟩
                  | ((repeat apply Exists.intro);refine ⟨?_,rfl⟩;exact ⟨k+1,by omega,by go_num,e4⟩)
                  | ((repeat apply Exists.intro);exact ⟨⟨k+1,by omega,by go_num,e4⟩,rfl⟩)
                case measure=>simp [intOf];omega
              | false=>
                go_wp2_with fail
                refine (HLo.out _).mono ?_;rintro e v1 ⟨rfl,hv1⟩
                have HV1:=hid (below2_Efc HBr.out hv1);clear hv1
                go_wp2_with fail
                refine (HNx.out _ HV1.out).mono ?_;rintro e v2 ⟨rfl,hv2⟩
                have HV2:=hid (below2_Efc HV1.out hv2);clear hv2
                go_wp2_with fail
                refine (HN2.out _ HV2.out).mono ?_;rintro e v3 ⟨rfl,hv3⟩
                have HV3:=hid (below2_Efc HV2.out hv3);clear hv3
                go_wp2_with fail
                go_ret
                exact ⟨ret_bool (HNn.out (by (first | rfl | simp_all))).symm,HV3.out⟩
          ·obtain rfl:k=n:=by omega
           have HA:=hid (show Q.all (oneN false isN)=true by
            have h:=HR.out.1
            rwa [List.take_of_length_le (by have:=HL.out;omega)] at h)
           have HB:=hid HR.out.2;have HRt:=hid (HP.out true (by (first | rfl | simp)));clear HR hk hlt
           go_wp2_with fail
           go_ret
           exact ⟨ret_bool (by rw [HRt.out,HA.out];rfl),HB.out⟩
       | false=>
         go_enter Tryz.func85,Tryz.ntmps85
         go_wp2_with fail
         refine (HSm.out _).mono ?_;rintro e w0 ⟨rfl,rfl⟩
         go_wp2_with fail
         refine (HMm.out _ hb0).mono ?_;rintro e w1 ⟨rfl,hbw1⟩
         have HBw1:=hid (below2_Efc (hb0) hbw1);clear hbw1
         go_wp2_with fail
         refine (HM2.out _ HBw1.out).mono ?_;rintro e w2 ⟨rfl,hbw2⟩
         have HBw2:=hid (below2_Efc (HBw1.out) hbw2);clear hbw2
         go_wp2_with fail
         go_ret
         exact ⟨ret_bool (HP.out false rfl).symm,HBw2.out⟩

end Go.Proofs.YtolioccofbhliaaGreatDoor
