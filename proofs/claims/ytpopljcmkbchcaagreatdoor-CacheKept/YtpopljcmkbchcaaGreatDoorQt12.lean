/-
  Walks and plain facts that this claim leans on, put together out of 1 texts: Ehv.
-/
import Derived.Test.YtpopljcmkbchcaaGreatDoorProg
import Derived.Test.YtpopljcmkbchcaaGreatDoorQt1
import Derived.Test.YtpopljcmkbchcaaGreatDoorQt2
import Derived.Test.YtpopljcmkbchcaaGreatDoorQt4
import Derived.Test.YtpopljcmkbchcaaGreatDoorQt5
import Derived.Test.YtpopljcmkbchcaaGreatDoorQt6
import Derived.BigRegion
import Derived.Deep.RegionHeld
import Derived.Deep.RegionHeldLaw
import Derived.Lib.IndexAny
import Derived.WalkKit
import Derived.Lib.UnsafeStr
import Derived.Lib.BufferRead
import Derived.Lib.RuneBytes
import Derived.Laws.RangeAny
import Derived.Deep.LoopGhost
import Derived.Maps.OwnSet
import Derived.Maps.OwnOps
import Derived.Maps.AppendAt
import Derived.StringKeys
import Derived.BigQuiet
import Derived.Deep.QuietTactic
import Derived.LoopN
import Derived.RegionTactic
import Derived.Deep.RegionLaw
import Derived.Deep.RegionWith
import Derived.WalkSpells
import Derived.WalkLawsBesides
import Derived.Lib.FieldsP
import Derived.Lib.DecodeN
import Derived.Lib.IndexMore
import Derived.Lib.Join
import Derived.Lib.SmallJoins
import Derived.Laws.CopyOwn
import Derived.Laws.ResultCell
import Derived.Deep.MidRow
import Derived.Laws.OwnMore
import Derived.Below
import Derived.WalkSmall
import Derived.Lib.LaidTab
import Derived.Lib.AppendIntMem
import Derived.Laws.AppendOwn
import Derived.Laws.Runes
import Derived.Lib.OthersKept
import Derived.Lib.FrozenHead2
import Derived.Lib.Builder
import Derived.Lib.AppendStr
import Derived.Lib.Replace
import Derived.Shelf.GgClosure.GivesRunes
import Derived.Laws.BitsAll
import Derived.Laws.Shifts
import Derived.Deep.DeepAppendRoom
import Derived.Laws.IdiomStrings
import Derived.Laws.BytesString
import Derived.Laws.CopyRow
import Derived.Sort.OwnSorted
import Derived.Lib.SlicesCompact
import Derived.Shelf.Slices.In.SortNone
import Derived.Shelf.Slices.CompactS
import Derived.Lib.Strings
import Derived.Laws.BitsAllLaws
import Derived.Lib.Bytealg
import Derived.Lib.BufferMore
import Derived.Shelf.Strings.Builder1
import Derived.Shelf.Strings.Builder2
import Derived.Shelf.Strings.OnBuilder
import Derived.Shelf.Strings.Trim
import Derived.Shelf.Small.Utf8
import Derived.Shelf.Small.Bits
import Derived.Shelf.Small.Strs
import Derived.Shelf.Small.Wraps
import Derived.Shelf.Strings.BuilderF
import Derived.Shelf.Strings.BuilderK
import Derived.Shelf.Strings.BuilderRune
import Derived.Shelf.Utf8.AppendRune
import Derived.Shelf.Utf8.AppendRunePlain
import Derived.Shelf.Strings.Builder2Cap
import Derived.Shelf.Strconv.Itoa0
import Derived.Shelf.Strconv.Itoa1
import Derived.Shelf.LaysM
import Derived.Shelf.Strconv.Itoa2
import Derived.Shelf.Strconv.Itoa3
import Derived.Shelf.Strings.Search1
import Derived.Shelf.Strings.Search2
import Derived.Shelf.Strings.Cut
import Derived.Shelf.Strings.Shaped
import Derived.Shelf.Sort.Plain
import Derived.Shelf.Strings.Prefix
import Derived.Shelf.Unicode.Latin
import Derived.Shelf.Strings.Runes
import Derived.Shelf.Strings.IndexAny
import Derived.Shelf.Strings.AsciiSet
import Derived.Shelf.Strings.IndexAnyAll
import Derived.Shelf.Unicode.DecodeSlow
import Derived.Shelf.Unicode.DecodeAny
import Derived.Shelf.Unicode.DecodeLast
import Derived.Shelf.Unicode.CaseLookup
import Derived.Shelf.Unicode.CaseConvert
import Derived.Shelf.Unicode.CaseTo
import Derived.Shelf.Unicode.CaseLaid
import Derived.Lib.SlTrimSet
import Derived.Shelf.Strings.SlTrimAscii
import Derived.Deep.CutRange
import Derived.Laws.Rows
import Derived.Laws.MakeOwn
import Derived.Deep.WholeRow
import Derived.Laws.AppendOwnNone
set_option linter.unusedSimpArgs false
set_option linter.unusedVariables false

namespace Go.Proofs.YtpopljcmkbchcaaGreatDoor
open Go.RowKit

def VyPostF (P:List (List UInt8)) (w:World) (e:Ending) (w':World):Prop:=
 ∃ v,e = .returned (.tuple #[v,.bool (vrOk P)])∧TxAt w' v (varV P)∧Below w.heap.size w w' ∧ ∀ g,v.ownBlock=some g→w.heap.size≤g

set_option maxHeartbeats 8000000 in
set_option maxRecDepth 100000 in
theorem vary17_any (v:Value) (L:List Hd) (w:World) (h:HdAt w v L) (hz:Szd 140737488351232 L) (hl:L.length≤1000000) (hb:bulkV L≤1000000):
 Calls Tryz.prog 50 #[v] w (VyPostF (pcsV L nVy) w):=by
 obtain ⟨i0,hi,hz0,hz1,hz2⟩:=info3 infoTx
 obtain ⟨va,vcc,rfl,_,_,_⟩:=h.view
 obtain ⟨P,hP⟩: ∃ P,pcsV L nVy=P:=⟨_,rfl⟩
 have hPl:=pcsV_len16 L nVy;rw [hP] at hPl;have HPS:=hid hPl.2;have HBK:=hid hb;have hPn:=hPl.1;have HS:=hid (split16_any _ L ⟨#[118,97,114,121]⟩ w h (by decide) hz hl (by omega));rw [show (⟨#[118,97,114,121]⟩:ByteArray).data.toList=nVy from rfl,hP] at HS;rw [hP];obtain ⟨n,hn⟩: ∃ n,n=P.length:=⟨_,rfl⟩
 have HN:=hid hn;have hn9:n≤1000000+1:=by omega
 unfold SpPost at HS;rw [← hn] at HS;clear hP hPl hPn h hz hl hn hb
 go_enter Tryz.func50,Tryz.ntmps50
 go_wp2_with fail
 refine HS.out.mono ?_;rintro e w1 ⟨v1,q1,rfl,hown1,hb1⟩
 obtain ⟨a1,c1,rfl⟩:=own_sl16 hown1
 have HT:=hid (show TxAt w1 (.slice a1 n c1) P from by
  have h:=hown1;rw [HN.out] at h ⊢;exact own_txt' h)
 have HB1:=hid hb1;clear hown1 hb1 HS
 go_wp2_with fail
 go_loopw [6,16] (fun v6 vi wr=> ∃ (k:Nat) (ra:Option Addr) (rn rc:Nat),k≤n∧rn≤n∧vi = .int .i64 k∧v6 = .slice ra rn rc∧Hid (rn=(vrS (P.take k)).length∧wr.ownsRow w1.heap.size 9 1 (.slice ra rn rc) rn (cellsT (vrS (P.take k)))∧Below w1.heap.size w1 wr ∧ ∀ j (hj:j<P.length),j<k→P[j]≠[42])) (fun _ vi _=>n - (intOf vi).toNat)
 case atStart=>exact ⟨0,none,0,0,Nat.zero_le _,Nat.zero_le _,rfl,rfl,rfl,World.ownsRow_nil _ _ _ _,Below.refl _ _,fun j _ hj=>absurd hj (Nat.not_lt_zero _)⟩
 case round=>
  obtain ⟨k,ra,rn,rc,hk,hrn,rfl,rfl,HR⟩:=hrel
  by_cases hlt:k<n
  ·have hkP:k<P.length:=by have:=HN.out;omega
   have hlt':(k:Int)<(n:Int):=by omega
   obtain ⟨a1',c1',e1,_,_,hcell⟩:=HT.out.view
   injection e1 with e1 e2 e3
   clear e2 e3;subst e1;obtain ⟨pb,po,rfl,hpc0⟩:=hcell k hkP
   have hpc:=(HR.out.2.2.1.cell (World.block_lt_of_cell? w1 _ hpc0)).trans hpc0;obtain ⟨X,hX⟩: ∃ X:ByteArray,X=⟨P[k].toArray⟩:=⟨_,rfl⟩
   rw [← hX] at hpc;have hXl:X.data.toList=P[k]:=by rw [hX]
   have hXs:X.size≤1000000000:=by
    rw [Lib.size_eq,hXl]
    have:=HPS.out _ (List.getElem_mem hkP);have:=HBK.out;omega
   have HXL:=hid hXl;have HKP:=hid hkP;clear hcell hpc0 hX hXl;by_cases hst:X.data.toList=[42]
   ·have HVN:=hid (show vrOk P=false from vrOk_stop P k HKP.out (by rw [← HXL.out];exact hst))
    have hNe:X=⟨#[42]⟩:=eq_lit16 hst;clear hst HXL;subst hNe
    go_wp2_with fail
    go_ret2
    refine ⟨.slice none 0 0,by rw [HVN.out];rfl,by rw [varV_no HVN.out];exact tx_nil _,below2_Efc HB1.out HR.out.2.2.1,fun g hg=>by cases hg⟩
   ·have e42:(X.toList==[42])=false:=beq_no16 X _ hst
    have HNS:=hid (show ∀ j (hj:j<P.length),j<k+1→P[j]≠[42] from fun j hj hjk=>by
     by_cases h:j=k
     ·subst h
      rw [← HXL.out];exact hst
     ·exact HR.out.2.2.2 j hj (by omega))
    clear hst;by_cases hem:X.data.toList=[]
    ·have HD:=hid (show vrS (P.take (k+1))=vrS (P.take k) by rw [vrS_take P k HKP.out,if_pos (by rw [← HXL.out];exact hem)])
     have hNe:X=⟨#[]⟩:=eq_lit16 hem;clear hem HXL e42;subst hNe
     go_wp2_with fail
     go_roundw
     case rel=>
      first
       | exact ⟨k+1,ra,rn,rc,by omega,hrn,by go_num,rfl,by rw [HD.out];exact ⟨HR.out.1,HR.out.2.1,HR.out.2.2.1,HNS.out⟩⟩
       | ((repeat apply Exists.intro);refine ⟨?_,rfl⟩;exact ⟨k+1,ra,rn,rc,by omega,hrn,by go_num,rfl,by rw [HD.out];exact ⟨HR.out.1,HR.out.2.1,HR.out.2.2.1,HNS.out⟩⟩)
       | ((repeat apply Exists.intro);exact ⟨⟨k+1,ra,rn,rc,by omega,hrn,by go_num,rfl,by rw [HD.out];exact ⟨HR.out.1,HR.out.2.1,HR.out.2.2.1,HNS.out⟩⟩,rfl⟩)
     case measure=>simp [intOf];omega
    ·have HD:=hid (show vrS (P.take (k+1))=vrS (P.take k)++[low X.data.toList] by rw [vrS_take P k HKP.out,if_neg (by rw [← HXL.out];exact hem),HXL.out])
     have e0:(X.toList==[])=false:=beq_no16 X _ hem;have e00:X.toList.isEmpty=false:=by
      rw [Lib.toList_data]
      cases h:X.data.toList with
      | nil=>exact absurd h hem
      | cons a b=>rfl
     obtain ⟨M,hM⟩: ∃ B':ByteArray,⟨(low X.data.toList).toArray⟩=B':=⟨_,rfl⟩
     have HM:=hid (show M.data.toList=low X.data.toList by rw [← hM]);have HLo:Hid (∀ Y:World,Calls Tryz.prog 83 #[.string X] Y fun e w'=>e = .returned (.string M)∧Below Y.heap.size Y w'):=fun Y=>by rw [← hM];exact lower_any X Y (by omega)
     have HRn:=hid (show rn+1≤n by
      have h1:=HR.out.1;have h2:=vrS_len (P.take k);rw [List.length_take] at h2
      omega)
     clear hem hM HXL
     go_wp2_with fail
     refine (HLo.out _).mono ?_;rintro e w3 ⟨rfl,hb3⟩
     have HB3:=hid (HR.out.2.2.1.trans (hb3.mono HR.out.2.2.1.size));have HO3:=hid (own_same HR.out.2.1 hb3);have hs3:=HB3.out.size;clear hb3 HLo
     go_wp2_with (at_builtin;go_must (refine wpList_append_own _ rfl _ _ 50 rfl w1.heap.size 9 i0 (.string ByteArray.empty) 1 16 Tryz.underlying50 hi hz0 hz1 hz2 rfl (by decide) _ _ _ rfl (HO3.out.alloc _) ⟨w3.heap.size,0,none⟩ 1 1 [.string M] rfl rfl ?c1 ?c2 ?c3 ?c4 ?c5 ?_))
     case c1=>
      intro q u hq
      match q,hq with
      | 0,hq=>simp at hq;subst hq;simp [Addr.add]
     case c2=>intro u hu;simp at hu;subst hu;rfl
     case c3=>unfold maxLen;omega
     case c4=>omega
     case c5=>simp;omega
     intro v4 w4 hown4 hgrow4 hnil4;obtain ⟨a4,c4,rfl⟩:=own_sl16 hown4
     have HO4:=hid (show w4.ownsRow w1.heap.size 9 1 (.slice a4 (rn+1) c4) (rn+1) (cellsT (vrS (P.take (k+1)))) by
      rw [HD.out,cellsT_app,← HM.out,cellsT_one];exact hown4)
     have HB4:=hid (show Below w1.heap.size w1 w4 from (HB3.out.alloc hs3 _).grown hgrow4 (by simp;omega) (fun g hg=>(HO3.out.lt g hg).1));have HN4:=hid (show rn+1=(vrS (P.take (k+1))).length by rw [HD.out,List.length_append,← HR.out.1];rfl);clear hown4 hgrow4 hnil4 hs3
     go_wp2
     go_roundw
     case rel=>
      first
       | exact ⟨k+1,a4,rn+1,c4,by omega,HRn.out,by go_num,rfl,HN4.out,HO4.out,HB4.out,HNS.out⟩
       | ((repeat apply Exists.intro);refine ⟨?_,rfl⟩;exact ⟨k+1,a4,rn+1,c4,by omega,HRn.out,by go_num,rfl,HN4.out,HO4.out,HB4.out,HNS.out⟩)
       | ((repeat apply Exists.intro);exact ⟨⟨k+1,a4,rn+1,c4,by omega,HRn.out,by go_num,rfl,HN4.out,HO4.out,HB4.out,HNS.out⟩,rfl⟩)
     case measure=>simp [intOf];omega
  ·obtain rfl:k=n:=by omega
   obtain ⟨hr1,hr2,hr3,hr4⟩:=HR.out
   have hall:P.take k=P:=List.take_of_length_le (by have:=HN.out;omega)
   rw [hall] at hr1 hr2;have HOk:=hid (show vrOk P=true from vrOk_all P fun j hj=>hr4 j hj (by rw [HN.out];exact hj));obtain ⟨X,hX⟩: ∃ X,vrS P=X:=⟨_,rfl⟩
   rw [hX] at hr1 hr2;have HXe:=hid hX;have HXZ:=hid (show ∀ x ∈ X,x.length≤bulkV L from fun x hx=>by rw [← hX] at hx;exact vrS_szd P _ HPS.out x hx);have HBw:=hid (below2_Efc HB1.out hr3);have HRC:=hid (show rc≤maxLen from by
    rcases hr2.2 with ⟨hv,_⟩ | ⟨g,cap,cur,hv,_,_,_,h2,_⟩
    ·injection hv with _ _ e3;subst e3;decide
    ·injection hv with _ _ e3;subst e3;exact h2)
   clear hX hall;by_cases h0:rn=0
   ·have hXn:X=[]:=List.eq_nil_of_length_eq_zero (by omega)
    subst h0;subst hXn;have HFr:=hid (fun g hg=>Nat.le_trans HB1.out.size (hr2.lt g hg).1);clear hr1 hr2 hr3 hr4 HR hlt
    go_wp2_with (go_at_call 100;refine (Tryz.slices_Sort_string_none _ _ _).mono ?_;rintro e wz ⟨rfl,hwz⟩;rw [hwz];clear hwz)
    go_wp2_with (go_at_call 101;refine (Tryz.slices_Compact_string_empty _ _ _).mono ?_;rintro e wz ⟨rfl,hwz⟩;rw [hwz];clear hwz)
    go_wp2
    go_ret2
    refine ⟨.slice ra 0 rc,by rw [HOk.out];rfl,?_,HBw.out,HFr.out⟩;rw [varV_yes HOk.out HXe.out];exact ⟨ra,rc,rfl,Nat.zero_le _,HRC.out,fun j hj=>by simp [srtN] at hj⟩
   ·rcases hr2.2 with ⟨_,hn0⟩ | ⟨g,cap,cur,hv,hbase,hb,h1,h2,h3,h4⟩
    ·exact absurd hn0 h0
    ·injection hv with e1 e2 e3
     subst e1;subst e3;have hsl:=srt16_len X;have hXL:X.length=rn:=hr1.symm;have HSo:=hid (Tryz.slices_Sort_string g 0 rc X wr (holds_of_block hb (by rw [cells_enc,hXL];simpa using h4)) (Array.getElem?_eq_some_iff.1 hb).1 (by omega));rw [hXL] at HSo;have HAft:Hid (∀ nn os,(Sort.grow (Sort.putRow encStr (Sort.ahead wr nn) g 0 (srt16 X).toArray) os).ownsRow w1.heap.size 9 1 (.slice (some ⟨g,0,none⟩) rn rc) rn (cellsT (srt16 X))∧Below w1.heap.size w1 (Sort.grow (Sort.putRow encStr (Sort.ahead wr nn) g 0 (srt16 X).toArray) os)):=fun nn os=>by
      have o1:=ownsRow_sorted (w:=wr) (n:=nn) (os:=os) (ts:=srt16 X) (ss:=X) hsl hbase hb (by omega) h2 (by simpa using h3)
      have g1:=grownBy_sorted (w:=wr) (g:=g) (n:=nn) (os:=os) (srt16 X).toArray;rw [hXL] at o1;exact ⟨o1,hr3.grown g1 hr3.size (fun k hk=>by injection hk with hk;omega)⟩
     have HCp:=hid (fun (Z:World) (hO:Z.ownsRow w1.heap.size 9 1 (.slice (some ⟨g,0,none⟩) rn rc) rn (cellsT (srt16 X))) (hBZ:Below w1.heap.size w1 Z)=>(show Calls Tryz.prog 101 #[.slice (some ⟨g,0,none⟩) rn rc] Z fun e w'=> ∃ u,e = .returned u∧TxAt w' u (srtN X)∧Below w1.heap.size w1 w'∧(∀ k,u.ownBlock=some k→w.heap.size≤k) from by
      rcases hO.2 with ⟨_,hn0⟩ | ⟨g2,cap2,cur2,hv2,hbase2,hb2,k1,k2,k3,k4⟩
      ·exact absurd hn0 h0
      ·injection hv2 with e5 e6 e7
       injection e5 with e5
       injection e5 with e5 _ _
       subst e5;subst e7;have hsn:(srt16 X).length=rn:=by rw [hsl,hXL]
       have hC:=Tryz.slices_Compact_string g 0 rc (srt16 X) Z (holds_of_block hb2 (by rw [cells_enc,hsn];simpa using k4)) (by omega) (by omega)
       rw [hsn,compact_srt] at hC
       refine hC.mono ?_;rintro e w' ⟨rfl,q,rfl⟩
       have hcl:=srtN_len16 X;have hl2:(srtN X++List.replicate (rn - (srtN X).length) []).length=(srt16 X).length:=by rw [List.length_append,List.length_replicate];omega
       have o2:=ownsRow_sorted (w:=Z) (n:=q) (os:= #[]) (ts:=srtN X++List.replicate (rn - (srtN X).length) []) (ss:=srt16 X) hl2 hbase2 hb2 (by omega) k2 (by simpa using k3)
       have g2:=grownBy_sorted (w:=Z) (g:=g) (n:=q) (os:= #[]) (srtN X++List.replicate (rn - (srtN X).length) []).toArray;rw [grow_none16] at o2 g2;refine ⟨_,rfl,?_,hBZ.grown g2 hBZ.size (fun k hk=>by injection hk with hk;omega),fun k hk=>by have hk:some g=some k:=hk;injection hk with hk;have:=HB1.out.size;omega⟩
       rw [← hl2,cells_enc] at o2;have t1:=(own_txt' o2).take16 (srtN X).length (by rw [List.length_append];omega)
       rw [List.take_left'  rfl] at t1;exact t1))
     clear hr1 hr2 hr3 hr4 HR hlt hb h1 h2 h3 h4 hbase hsl hXL
     go_wp2_with (go_at_call 100;refine HSo.out.mono ?_;rintro e wz ⟨rfl,nn,os,hwz⟩;have HW:=hid hwz;clear hwz)
     go_wp2_with (go_at_call 101;refine (HCp.out _ (by have:=(HAft.out nn os).1;rw [HW.out];exact this) (by have:=(HAft.out nn os).2;rw [HW.out];exact this)).mono ?_;rintro e w5 ⟨u5,rfl,ht5,hb5,hf5⟩)
     go_wp2
     go_ret2
     exact ⟨u5,by rw [HOk.out];rfl,by rw [varV_yes HOk.out HXe.out];exact ht5,below2_Efc HB1.out hb5,hf5⟩

end Go.Proofs.YtpopljcmkbchcaaGreatDoor
