/-
  Walks and plain facts that this claim leans on, put together out of 3 texts: Eiu, Ejq, Eis.
-/
import Derived.Test.YtolioccofbhliaaGreatDoorProg
import Derived.Test.YtolioccofbhliaaGreatDoorQp1
import Derived.Test.YtolioccofbhliaaGreatDoorQp2
import Derived.Test.YtolioccofbhliaaGreatDoorQp3
import Derived.Test.YtolioccofbhliaaGreatDoorQp4
import Derived.Test.YtolioccofbhliaaGreatDoorQp8
import Derived.Test.YtolioccofbhliaaGreatDoorQp11
import Derived.Test.YtolioccofbhliaaGreatDoorQp13
import Derived.Test.YtolioccofbhliaaGreatDoorQp14
import Derived.Test.YtolioccofbhliaaGreatDoorQp16
import Derived.Test.YtolioccofbhliaaGreatDoorQp17
import Derived.Test.YtolioccofbhliaaGreatDoorQp18
import Derived.Test.YtolioccofbhliaaGreatDoorQp19
import Derived.Test.YtolioccofbhliaaGreatDoorQp21
import Derived.Test.YtolioccofbhliaaGreatDoorQp22
import Derived.Test.YtolioccofbhliaaGreatDoorQp23
import Derived.Test.YtolioccofbhliaaGreatDoorQp24
import Derived.Test.YtolioccofbhliaaGreatDoorQp25
import Derived.BigRegion
import Derived.Deep.RegionHeld
import Derived.Deep.RegionHeldLaw
import Derived.Lib.IndexAny
import Derived.WalkKit
import Derived.Lib.UnsafeStr
import Derived.Lib.BufferRead
import Derived.Lib.RuneBytes
import Derived.Laws.RangeAny
import Derived.Deep.LoopGhost
import Derived.Maps.OwnSet
import Derived.Maps.OwnOps
import Derived.Maps.AppendAt
import Derived.StringKeys
import Derived.BigQuiet
import Derived.Deep.QuietTactic
import Derived.LoopN
import Derived.RegionTactic
import Derived.Deep.RegionLaw
import Derived.Deep.RegionWith
import Derived.WalkSpells
import Derived.WalkLawsBesides
import Derived.Lib.FieldsP
import Derived.Lib.DecodeN
import Derived.Lib.IndexMore
import Derived.Lib.Join
import Derived.Lib.SmallJoins
import Derived.Laws.CopyOwn
import Derived.Laws.ResultCell
import Derived.Deep.MidRow
import Derived.Laws.OwnMore
import Derived.Below
import Derived.WalkSmall
import Derived.Lib.LaidTab
import Derived.Lib.AppendIntMem
import Derived.Laws.AppendOwn
import Derived.Laws.Runes
import Derived.Lib.OthersKept
import Derived.Lib.FrozenHead2
import Derived.Lib.Builder
import Derived.Lib.AppendStr
import Derived.Lib.Replace
import Derived.Shelf.GgClosure.GivesRunes
import Derived.Laws.BitsAll
import Derived.Laws.Shifts
import Derived.Deep.DeepAppendRoom
import Derived.Laws.IdiomStrings
import Derived.Laws.BytesString
import Derived.Laws.CopyRow
import Derived.Sort.OwnSorted
import Derived.Lib.SlicesCompact
import Derived.Sort.KeysCollected
import Derived.Lib.Case
import Derived.Lib.LastIndexByte
import Derived.Lib.Strings
import Derived.Laws.BitsAllLaws
import Derived.Lib.Bytealg
import Derived.Lib.BufferMore
import Derived.OwnWalk
import Derived.Shelf.Strings.Builder1
import Derived.Shelf.Strings.Builder2
import Derived.Shelf.Strings.OnBuilder
import Derived.Shelf.Strings.Trim
import Derived.Shelf.Small.Utf8
import Derived.Shelf.Small.Bits
import Derived.Shelf.Small.Strs
import Derived.Shelf.Small.Wraps
import Derived.Shelf.Strings.BuilderF
import Derived.Shelf.Strings.BuilderK
import Derived.Shelf.Strings.Builder2Cap
import Derived.Shelf.Strconv.Itoa0
import Derived.Shelf.Strconv.Itoa1
import Derived.Shelf.LaysM
import Derived.Shelf.Strconv.Itoa2
import Derived.Shelf.Strconv.Itoa3
import Derived.Shelf.Strings.Search1
import Derived.Shelf.Strings.Search2
import Derived.Shelf.Strings.Cut
import Derived.Shelf.Strings.Shaped
import Derived.Shelf.Sort.Plain
import Derived.Shelf.Strings.Prefix
import Derived.Shelf.Strings.Runes
import Derived.Shelf.Strings.IndexAny
import Derived.Shelf.Strings.AsciiSet
import Derived.Shelf.Strings.IndexAnyAll
import Derived.Shelf.Unicode.DecodeSlow
import Derived.Shelf.Unicode.DecodeAny
import Derived.Shelf.Unicode.DecodeLast
import Derived.Shelf.Slices.CompactS
import Derived.Shelf.Slices.In.SortNone
import Derived.Ground.SlgnProg
import Derived.Shelf.SlicesE.Compact
import Derived.Ground.SlgfProg
import Derived.Shelf.SlicesE.IndexFunc
import Derived.Shelf.SlicesE.DeleteFunc
import Derived.Laws.AppendOwnNone
import Derived.Deep.Cut
import Derived.Scope
import Derived.ScopeJumps
import Derived.WalkMore
import Derived.Lib.TrimByte
import Derived.Lib.ItoaNum
import Derived.Deep.WholeRow
import Derived.Lib.SlTrimSet
import Derived.Shelf.Strings.SlTrimAscii
import Derived.Deep.CutRange
import Derived.Laws.Rows
import Derived.Laws.MakeOwn
import Derived.Shelf.Spec.SearchS
import Derived.Sort.Walk0
set_option linter.unusedSimpArgs false
set_option linter.unusedVariables false

namespace Go.Proofs.YtolioccofbhliaaGreatDoor
open Go.RowKit

theorem chkC_a {t:List UInt8} {c:Bool} {L:List Hd} (h:getB L nAO=false):chkC t c L=false:=by unfold chkC;rw [if_pos h]

theorem chkC_b {t:List UInt8} {c:Bool} {L:List Hd} (h:getB L nAO=true) (h1:getT L nAO=[42]) (h2:c=false):chkC t c L=true:=by
 unfold chkC;rw [if_neg (by rw [h];decide),if_pos ⟨h1,h2⟩]

theorem chkC_c {t:List UInt8} {c:Bool} {L:List Hd} (h:getB L nAO=true) (h1: ¬ (getT L nAO=[42]∧c=false)) (h2: ¬ getT L nAO=t):chkC t c L=false:=by
 unfold chkC;rw [if_neg (by rw [h];decide),if_neg h1,if_neg h2]

theorem chkC_d {t:List UInt8} {c:Bool} {L:List Hd} (h:getB L nAO=true) (h1: ¬ (getT L nAO=[42]∧c=false)) (h2:getT L nAO=t):chkC t c L=(!c||getT L nAC==tTru):=by
 unfold chkC;rw [if_neg (by rw [h];decide),if_neg h1,if_pos h2]

def OrgOk (o:Org):Prop:=o.scheme.length≤1000000∧o.host.length≤1000000∧(o.opq=false→0≤o.port∧o.port≤65535)

theorem tx_ne {S T:ByteArray} (h: ¬ S.data.toList=T.data.toList):(S==T)=false∧(S.toList==T.toList)=false∧(S.data.toList==T.data.toList)=false:=by
 refine ⟨?_,?_,?_⟩
 ·cases hb:S==T
  ·rfl
  ·exfalso;apply h;have:=eq_of_beq (α:=Array UInt8) (show (S.data==T.data)=true from hb);rw [this]
 ·rw [Lib.toList_data,Lib.toList_data,beq_eq_false_iff_ne];exact h
 ·rw [beq_eq_false_iff_ne];exact h

set_option maxHeartbeats 8000000 in
set_option maxRecDepth 100000 in
theorem check18_any (o:Org) (c:Bool) (v:Value) (L:List Hd) (w:World) (hg:Gd w) (ho:OrgOk o) (h:HdAt w v L) (hz:Szd 140737488351232 L) (hl:L.length≤1000000) (hb:bulkV L≤140737488355328):
 Calls Tryz.prog 80 #[orgVal o,.bool c,v] w fun e w'=>e = .returned (.bool (chkC (textO o) c L))∧Below w.heap.size w w':=by
 have HT:=hid (fun (Y:World) (hY:Below w.heap.size w Y)=>textO_any o Y (hg.kept hY) ho.1 ho.2.1 ho.2.2);have HG1:=hid (fun (Y:World) (hY:Below w.heap.size w Y)=>get_any v L ⟨nAO.toArray⟩ Y (h.kept hY) (by decide) hz hl hb);have HG2:=hid (fun (Y:World) (hY:Below w.heap.size w Y)=>get_any v L ⟨nAC.toArray⟩ Y (h.kept hY) (by decide) hz hl hb);simp only [show (⟨nAO.toArray⟩:ByteArray).data.toList=nAO from rfl] at HG1;simp only [show (⟨nAC.toArray⟩:ByteArray).data.toList=nAC from rfl] at HG2;obtain ⟨a1,c1,rfl,hc1,hm1,hv1⟩:=h.view
 obtain ⟨nl,hnl⟩: ∃ n,n=L.length:=⟨_,rfl⟩
 rw [← hnl] at HG1 HG2 ⊢;have EA:=hid (fun h=>@chkC_a (textO o) c L h);have EB:=hid (fun h h1 h2=>@chkC_b (textO o) c L h h1 h2);have EC:=hid (fun h h1 h2=>@chkC_c (textO o) c L h h1 h2);have ED:=hid (fun h h1 h2=>@chkC_d (textO o) c L h h1 h2);generalize chkC (textO o) c L=R at EA EB EC ED ⊢;generalize getT L nAC=K at HG2 ED;generalize getB L nAC=kb at HG2;generalize getT L nAO=G at HG1 EB EC ED;generalize getB L nAO=gb at HG1 EA EB EC ED;obtain ⟨X,rfl⟩: ∃ X:ByteArray,G=X.data.toList:=⟨⟨G.toArray⟩,rfl⟩
 obtain ⟨Y,rfl⟩: ∃ X:ByteArray,K=X.data.toList:=⟨⟨K.toArray⟩,rfl⟩
 generalize textO o=U at HT EC ED;obtain ⟨P,rfl⟩: ∃ X:ByteArray,U=X.data.toList:=⟨⟨U.toArray⟩,rfl⟩
 simp only [Lib.mk_data] at HG1 HG2 HT;obtain ⟨sa,ah,ap,ao⟩:=o
 obtain ⟨AS,rfl⟩: ∃ X:ByteArray,sa=X.data.toList:=⟨⟨sa.toArray⟩,rfl⟩
 obtain ⟨AH,rfl⟩: ∃ X:ByteArray,ah=X.data.toList:=⟨⟨ah.toArray⟩,rfl⟩
 have hval:orgVal ⟨AS.data.toList,AH.data.toList,ap,ao⟩ = .agg #[.string AS,.string AH,.int .i64 ap,.bool ao]:=rfl
 rw [hval] at HT ⊢;obtain ⟨W1,hW1⟩: ∃ X,w.alloc (.cells #[.string AS,.string AH,.int .i64 ap,.bool ao] 56)=X:=⟨_,rfl⟩
 have hb1:Below w.heap.size w W1:=by rw [← hW1];exact (Below.refl _ w).alloc (Nat.le_refl _) _
 have h1:OrgIn W1 w.heap.size ⟨AS.data.toList,AH.data.toList,ap,ao⟩:=by rw [← hW1];exact heap_alloc_new w _
 have HB1:=hid hb1;have HO1:=hid h1;clear hg ho h hz hl hb hc1 hm1 hv1 hnl hval hb1 h1
 cases gb with
 | false=>
   obtain rfl:R=false:=EA.out rfl;clear EA EB EC ED
   go_enter Tryz.func80,Tryz.ntmps80
   go_wp2_with fail
   refine (HG1.out _ HB1.out).mono ?_;rintro e w2 ⟨rfl,hb2⟩
   have HB2:=hid (below2 HB1.out hb2);have HO2:=hid (HO1.out.kept hb2);clear hb2
   go_wp2_with fail
   go_ret
   exact ⟨rfl,HB2.out⟩
 | true=>
   by_cases hs:X.data.toList=[42]
   ·cases c with
    | false=>
      obtain rfl:R=true:=EB.out rfl hs rfl;have e1:=lst_yes hs;clear EA EB EC ED hs;subst e1
      go_enter Tryz.func80,Tryz.ntmps80
      go_wp2_with fail
      refine (HG1.out _ HB1.out).mono ?_;rintro e w2 ⟨rfl,hb2⟩
      have HB2:=hid (below2 HB1.out hb2);have HO2:=hid (HO1.out.kept hb2);clear hb2
      go_wp2_with fail
      go_ret
      exact ⟨rfl,HB2.out⟩
    | true=>
      have hn: ¬ (X.data.toList=[42]∧true=false):=fun e=>by cases e.2
      have e1:=lst_yes hs;by_cases hp:X=P
      ·have hR:R=(!true||Y.data.toList==tTru):=ED.out rfl hn (by rw [hp])
       subst hp;clear EA EB EC ED hs hn;subst e1
       go_enter Tryz.func80,Tryz.ntmps80
       go_wp2_with fail
       refine (HG1.out _ HB1.out).mono ?_;rintro e w2 ⟨rfl,hb2⟩
       have HB2:=hid (below2 HB1.out hb2);have HO2:=hid (HO1.out.kept hb2);clear hb2;have ry0:=HO2.out.cell 0 _ rfl;have rz0:=HO2.out.frozen 0;have ry1:=HO2.out.cell 1 _ rfl;have rz1:=HO2.out.frozen 1;have ry2:=HO2.out.cell 2 _ rfl;have rz2:=HO2.out.frozen 2;have ry3:=HO2.out.cell 3 _ rfl;have rz3:=HO2.out.frozen 3
       go_wp2_with fail
       refine (HT.out _ HB2.out).mono ?_;rintro e w3 ⟨rfl,hb3⟩
       have HB3:=hid (below2 HB2.out hb3);clear hb3 ry0 ry1 ry2 ry3 rz0 rz1 rz2 rz3;by_cases hy:Y.data.toList=tTru
       ·obtain rfl:R=true:=by rw [hR,hy];rfl
        have e2:=lst_yes hy;unfold tTru at e2;clear hy hR;subst e2
        go_wp2_with fail
        refine (HG2.out _ HB3.out).mono ?_;rintro e w4 ⟨rfl,hb4⟩
        have HB4:=hid (below2 HB3.out hb4);clear hb4
        go_wp2_with fail
        go_ret
        exact ⟨rfl,HB4.out⟩
       ·obtain rfl:R=false:=by rw [hR,beq_eq_false_iff_ne.2 hy];rfl
        have e2:=lst_ne hy;unfold tTru at e2;clear hy hR
        go_wp2_with fail
        refine (HG2.out _ HB3.out).mono ?_;rintro e w4 ⟨rfl,hb4⟩
        have HB4:=hid (below2 HB3.out hb4);clear hb4
        go_wp2_with fail
        go_ret
        exact ⟨rfl,HB4.out⟩
      ·obtain rfl:R=false:=EC.out rfl hn (fun e=>hp (xba e))
       have n1:=(tx_ne (S:=X) (T:=P) (fun e=>hp (xba e))).1;have n2:=(tx_ne (S:=X) (T:=P) (fun e=>hp (xba e))).2.1;have n3:=(tx_ne (S:=X) (T:=P) (fun e=>hp (xba e))).2.2;clear EA EB EC ED hs hn hp;subst e1;have n4:(([42]:List UInt8)==P.toList)=false:=by rw [Lib.toList_data];exact n3
       go_enter Tryz.func80,Tryz.ntmps80
       go_wp2_with fail
       refine (HG1.out _ HB1.out).mono ?_;rintro e w2 ⟨rfl,hb2⟩
       have HB2:=hid (below2 HB1.out hb2);have HO2:=hid (HO1.out.kept hb2);clear hb2;have ry0:=HO2.out.cell 0 _ rfl;have rz0:=HO2.out.frozen 0;have ry1:=HO2.out.cell 1 _ rfl;have rz1:=HO2.out.frozen 1;have ry2:=HO2.out.cell 2 _ rfl;have rz2:=HO2.out.frozen 2;have ry3:=HO2.out.cell 3 _ rfl;have rz3:=HO2.out.frozen 3
       go_wp2_with fail
       refine (HT.out _ HB2.out).mono ?_;rintro e w3 ⟨rfl,hb3⟩
       have HB3:=hid (below2 HB2.out hb3);clear hb3 ry0 ry1 ry2 ry3 rz0 rz1 rz2 rz3
       go_wp2_with fail
       go_ret
       exact ⟨rfl,HB3.out⟩
   ·have hn: ¬ (X.data.toList=[42]∧c=false):=fun e=>hs e.1
    have n0:=lst_ne hs;by_cases hp:X=P
    ·have hR:R=(!c||Y.data.toList==tTru):=ED.out rfl hn (by rw [hp])
     subst hp;clear EA EB EC ED hs hn
     go_enter Tryz.func80,Tryz.ntmps80
     go_wp2_with fail
     refine (HG1.out _ HB1.out).mono ?_;rintro e w2 ⟨rfl,hb2⟩
     have HB2:=hid (below2 HB1.out hb2);have HO2:=hid (HO1.out.kept hb2);clear hb2;have ry0:=HO2.out.cell 0 _ rfl;have rz0:=HO2.out.frozen 0;have ry1:=HO2.out.cell 1 _ rfl;have rz1:=HO2.out.frozen 1;have ry2:=HO2.out.cell 2 _ rfl;have rz2:=HO2.out.frozen 2;have ry3:=HO2.out.cell 3 _ rfl;have rz3:=HO2.out.frozen 3
     go_wp2_with fail
     refine (HT.out _ HB2.out).mono ?_;rintro e w3 ⟨rfl,hb3⟩
     have HB3:=hid (below2 HB2.out hb3);clear hb3 ry0 ry1 ry2 ry3 rz0 rz1 rz2 rz3
     cases c with
     | false=>
       obtain rfl:R=true:=by rw [hR];rfl
       clear hR
       go_wp2_with fail
       refine (HG2.out _ HB3.out).mono ?_;rintro e w4 ⟨rfl,hb4⟩
       have HB4:=hid (below2 HB3.out hb4);clear hb4
       go_wp2_with fail
       go_ret
       exact ⟨rfl,HB4.out⟩
     | true=>
       by_cases hy:Y.data.toList=tTru
       ·obtain rfl:R=true:=by rw [hR,hy];rfl
        have e2:=lst_yes hy;unfold tTru at e2;clear hy hR;subst e2
        go_wp2_with fail
        refine (HG2.out _ HB3.out).mono ?_;rintro e w4 ⟨rfl,hb4⟩
        have HB4:=hid (below2 HB3.out hb4);clear hb4
        go_wp2_with fail
        go_ret
        exact ⟨rfl,HB4.out⟩
       ·obtain rfl:R=false:=by rw [hR,beq_eq_false_iff_ne.2 hy];rfl
        have e2:=lst_ne hy;unfold tTru at e2;clear hy hR
        go_wp2_with fail
        refine (HG2.out _ HB3.out).mono ?_;rintro e w4 ⟨rfl,hb4⟩
        have HB4:=hid (below2 HB3.out hb4);clear hb4
        go_wp2_with fail
        go_ret
        exact ⟨rfl,HB4.out⟩
    ·obtain rfl:R=false:=EC.out rfl hn (fun e=>hp (xba e))
     have n1:=(tx_ne (S:=X) (T:=P) (fun e=>hp (xba e))).1;have n2:=(tx_ne (S:=X) (T:=P) (fun e=>hp (xba e))).2.1;have n3:=(tx_ne (S:=X) (T:=P) (fun e=>hp (xba e))).2.2;clear EA EB EC ED hs hn hp
     go_enter Tryz.func80,Tryz.ntmps80
     go_wp2_with fail
     refine (HG1.out _ HB1.out).mono ?_;rintro e w2 ⟨rfl,hb2⟩
     have HB2:=hid (below2 HB1.out hb2);have HO2:=hid (HO1.out.kept hb2);clear hb2;have ry0:=HO2.out.cell 0 _ rfl;have rz0:=HO2.out.frozen 0;have ry1:=HO2.out.cell 1 _ rfl;have rz1:=HO2.out.frozen 1;have ry2:=HO2.out.cell 2 _ rfl;have rz2:=HO2.out.frozen 2;have ry3:=HO2.out.cell 3 _ rfl;have rz3:=HO2.out.frozen 3
     go_wp2_with fail
     refine (HT.out _ HB2.out).mono ?_;rintro e w3 ⟨rfl,hb3⟩
     have HB3:=hid (below2 HB2.out hb3);clear hb3 ry0 ry1 ry2 ry3 rz0 rz1 rz2 rz3
     go_wp2_with fail
     go_ret
     exact ⟨rfl,HB3.out⟩

end Go.Proofs.YtolioccofbhliaaGreatDoor

namespace Go.Proofs.YtolioccofbhliaaGreatDoor
open Go.RowKit

theorem sizeGr19:(Tryz.prog.info? 60).map (·.size)=some 4:=by kernel_rfl

theorem results_gr {fn:Func} {p q:Tmp} (h:fn.results = #[.cell p 60,.tmp q]) (tmps:Array Value) (w:World) (b:Nat) (cs:List Value) (hl:cs.length=4) (hp:tmps.getD p undef = .pointer (some ⟨b,0,none⟩)) (hc:w.rangeAt b 0 cs):(results fn tmps).run Tryz.prog w = .ok (.tuple #[.agg cs.toArray,tmps.getD q undef]) w:=by
 rw [Array.getD_eq_getD_getElem?] at hp;simp only [results,h]
 simp [Sem.run_bind,Result.andThen,hp,asAddr,run_loadVar_mid w b 0 60 cs _ hc Tryz.underlying60 rfl (by rw [hl];exact sizeGr19)]

def RdPost (G:Grn) (b:Bool) (w:World) (e:Ending) (w':World):Prop:=
 ∃ aM cM aN cN,e = .returned (.tuple #[.agg #[.slice aM G.M.length cM,.slice aN G.N.length cN,.bool G.all,.int .i64 G.age],.bool b])∧w'.ownsRow w.heap.size 9 1 (.slice aM G.M.length cM) G.M.length (cellsT G.M)∧w'.ownsRow w.heap.size 9 1 (.slice aN G.N.length cN) G.N.length (cellsT G.N)∧(∀ g,(Value.slice aM G.M.length cM).ownBlock=some g → ∀ g',(Value.slice aN G.N.length cN).ownBlock=some g'→g≠g')∧Below w.heap.size w w'

theorem rd_no {t:List UInt8} {c:Bool} {m:List UInt8} {Q:List (List UInt8)} {st:Int} {L:List Hd} (h:rdB t c m Q st L=false):rdG t c m Q st L=Grn.nil:=by unfold rdG;rw [h];rfl

theorem rd_yes {t:List UInt8} {c:Bool} {m:List UInt8} {Q:List (List UInt8)} {st:Int} {L:List Hd} (h:rdB t c m Q st L=true):rdG t c m Q st L=⟨grM L,grN L,allG c L,grA L⟩:=by unfold rdG;rw [h];rfl

theorem rdPost_nil {G:Grn} {b:Bool} {w w':World} (hG:G=Grn.nil) (hb:b=false) (h:Below w.heap.size w w'):RdPost G b w (.returned (.tuple #[.agg #[.slice none 0 0,.slice none 0 0,.bool false,.int .i64 0],.bool false])) w':=by
 subst hG;subst hb;exact ⟨none,0,none,0,rfl,World.ownsRow_nil _ _ _ _,World.ownsRow_nil _ _ _ _,(fun g hg=>by cases hg),h⟩

set_option maxHeartbeats 40000000 in
set_option maxRecDepth 100000 in
theorem read19_any (O:Org) (c:Bool) (m:ByteArray) (vQ:Value) (Q:List (List UInt8)) (st:Int) (vH:Value) (L:List Hd) (ba:Option Addr) (bn bc:Nat) (w:World) (hg:Gd w) (ho:OrgOk O) (hm:m.size≤140737488351232) (hQ:TxAt w vQ Q) (hql:Q.length≤9223372036854775807) (hqs: ∀ x ∈ Q,x.length≤140737488351232) (h:HdAt w vH L) (hz:Szd 1000000 L) (hl:L.length≤1000) (hb:bulkV L≤900000):
 Calls Tryz.prog 31 #[orgVal O,.bool c,.string m,vQ,.agg #[.int .i64 st,vH,.slice ba bn bc]] w (RdPost (rdG (textO O) c m.data.toList Q st L) (rdB (textO O) c m.data.toList Q st L) w):=by
 have hz':Szd 140737488351232 L:=hz.mono (by decide)
 have hpA:=pcsV_len16 L nAM;have hpH:=pcsV_len16 L nAH;have HCk:=hid (fun (Y:World) (hY:Below w.heap.size w Y)=>check18_any O c vH L Y (hg.kept hY) ho (h.kept hY) hz' (by omega) (by omega));have HT1:=hid (fun (Y:World) (hY:Below w.heap.size w Y)=>tokens19_any vH L ⟨nAM.toArray⟩ Y (h.kept hY) (by decide) hz' (by omega) (by omega));have HT2:=hid (fun (Y:World) (hY:Below w.heap.size w Y)=>tokens19_any vH L ⟨nAH.toArray⟩ Y (h.kept hY) (by decide) hz' (by omega) (by omega));have HLa:=hid (fun (Y:World) (hY:Below w.heap.size w Y)=>lasts19_any vH L Y (h.kept hY) hz' (by omega) (by omega))
 simp only [show (⟨nAM.toArray⟩:ByteArray).data.toList=nAM from rfl] at HT1;simp only [show (⟨nAH.toArray⟩:ByteArray).data.toList=nAH from rfl] at HT2;have HRn:=hid (fun h=>@rd_no (textO O) c m.data.toList Q st L h);have HRy:=hid (fun h=>@rd_yes (textO O) c m.data.toList Q st L h);obtain ⟨ok,hok⟩: ∃ b,b=okV c m.data.toList Q (fun x=>(grM L).contains x) (fun x=>(grN L).contains x):=⟨_,rfl⟩
 obtain ⟨ck,hck⟩: ∃ b,b=chkC (textO O) c L:=⟨_,rfl⟩
 have hB:rdB (textO O) c m.data.toList Q st L=(decide (200≤st)&&(decide (st≤299)&&(ck&&ok))):=by rw [hok,hck];rfl
 rw [hB] at HRn HRy ⊢;rw [← hck] at HCk;generalize rdG (textO O) c m.data.toList Q st L=G at HRn HRy ⊢;obtain ⟨age,hage⟩: ∃ a,a=grA L:=⟨_,rfl⟩
 obtain ⟨al,hal⟩: ∃ a,a=allG c L:=⟨_,rfl⟩
 rw [← hage] at HLa;rw [← hage,← hal] at HRy;obtain ⟨P1,hP1⟩: ∃ P,P=tksV L nAM:=⟨_,rfl⟩
 obtain ⟨P2,hP2⟩: ∃ P,P=tksV L nAH:=⟨_,rfl⟩
 rw [← hP1] at HT1;rw [← hP2] at HT2;obtain ⟨R2,hR2⟩: ∃ P,P=P2.map low:=⟨_,rfl⟩
 obtain ⟨M,hM⟩: ∃ P,P=srtN P1:=⟨_,rfl⟩
 obtain ⟨N,hN⟩: ∃ P,P=srtN R2:=⟨_,rfl⟩
 have hGM:grM L=M:=by rw [hM,hP1];rfl
 have hGN:grN L=N:=by rw [hN,hR2,hP2];rfl
 rw [hGM,hGN] at HRy hok
 have hal2:al=(!c&&N.contains [42]):=by rw [hal];unfold allG;rw [hGN]
 have hl1:P1.length≤1000001:=by have:=tks_len L nAM;rw [hP1];omega
 have hl2:P2.length≤1000001:=by have:=tks_len L nAH;rw [hP2];omega
 have hlM:M.length≤1000000:=by have:=srtN_len16 P1;have:=tks_len L nAM;rw [hM];rw [hP1] at *;omega
 have hlN:N.length≤1000000:=by have:=srtN_len16 R2;have:=tks_len L nAH;have e:R2.length=P2.length:=by rw [hR2,List.length_map]
                               rw [hN];rw [hP2] at *;omega
 have HLo:=hid (fun (Y:World) (v:Value) (hv:TxAt Y v P2)=>lowered19_any v P2 Y hv hl2 (fun x hx=>by have:=tks_szd hpH.2 x (by rw [← hP2];exact hx);omega));rw [← hR2] at HLo;have HO1:=hid (fun (Y:World) (v:Value) (B:Nat) (hv:Y.ownsRow B 9 1 v P1.length (cellsT P1))=>once19_any v P1 Y B hv hl1);have HO2:=hid (fun (Y:World) (v:Value) (B:Nat) (hv:Y.ownsRow B 9 1 v R2.length (cellsT R2))=>once19_any v R2 Y B hv (by rw [hR2,List.length_map];exact hl2));rw [← hM] at HO1;rw [← hN] at HO2;have HOk:=hid hok;have HAl2:=hid hal2;have HQx:=hid hQ;have HQs:=hid hqs;have HLM:=hid hlM;have HLN:=hid hlN
 have HMd:=hid hM;have HNd:=hid hN;obtain ⟨va,vc,rfl,_,_,_⟩:=h.view
 obtain ⟨qa,qc,rfl,_,_,_⟩:=hQ.view
 obtain ⟨vn,hvn⟩: ∃ n,n=L.length:=⟨_,rfl⟩
 rw [← hvn] at HCk HT1 HT2 HLa ⊢;obtain ⟨qn,hqn⟩: ∃ n,n=Q.length:=⟨_,rfl⟩
 rw [← hqn] at HQx ⊢;have HQn:=hid (show qn=Q.length∧Q.length≤9223372036854775807 from ⟨hqn,hql⟩);obtain ⟨sa,ah,ap,ao⟩:=O
 obtain ⟨AS,rfl⟩: ∃ X:ByteArray,sa=X.data.toList:=⟨⟨sa.toArray⟩,rfl⟩
 obtain ⟨AH,rfl⟩: ∃ X:ByteArray,ah=X.data.toList:=⟨⟨ah.toArray⟩,rfl⟩
 have hval:orgVal ⟨AS.data.toList,AH.data.toList,ap,ao⟩ = .agg #[.string AS,.string AH,.int .i64 ap,.bool ao]:=rfl
 rw [hval] at HCk ⊢;obtain ⟨W1,hW1⟩: ∃ X,w.alloc (.cells #[.string AS,.string AH,.int .i64 ap,.bool ao] 56)=X:=⟨_,rfl⟩
 obtain ⟨W2,hW2⟩: ∃ X,W1.alloc (.cells #[.int .i64 st,.slice va vn vc,.slice ba bn bc] 30)=X:=⟨_,rfl⟩
 obtain ⟨W3,hW3⟩: ∃ X,W2.alloc (.cells #[.slice none 0 0,.slice none 0 0,.bool false,.int .i64 0] 60)=X:=⟨_,rfl⟩
 have hb1:Below w.heap.size w W1:=by rw [← hW1];exact (Below.refl _ w).alloc (Nat.le_refl _) _
 have hb12:Below W1.heap.size W1 W2:=by rw [← hW2];exact (Below.refl _ W1).alloc (Nat.le_refl _) _
 have hb23:Below W2.heap.size W2 W3:=by rw [← hW3];exact (Below.refl _ W2).alloc (Nat.le_refl _) _
 have x1:W1.heap[w.heap.size]? = some (.cells #[.string AS,.string AH,.int .i64 ap,.bool ao] 56 (0,0)):=by rw [← hW1];exact heap_alloc_new w _
 have x2:W2.heap[W1.heap.size]? = some (.cells #[.int .i64 st,.slice va vn vc,.slice ba bn bc] 30 (0,0)):=by rw [← hW2];exact heap_alloc_new W1 _
 have x3:W3.heap[W2.heap.size]? = some (.cells #[.slice none 0 0,.slice none 0 0,.bool false,.int .i64 0] 60 (0,0)):=by rw [← hW3];exact heap_alloc_new W2 _
 have y1:=(hb23.block _ (Array.getElem?_eq_some_iff.1 ((hb12.block _ (Array.getElem?_eq_some_iff.1 x1).1).trans x1)).1).trans ((hb12.block _ (Array.getElem?_eq_some_iff.1 x1).1).trans x1);have y2:=(hb23.block _ (Array.getElem?_eq_some_iff.1 x2).1).trans x2;have hb3:=below2 (below2 hb1 hb12) hb23;have HB3:=hid hb3;have HY2:=hid y2;have HX3:=hid x3;have HS3:=hid (show W1.heap.size<W3.heap.size∧W2.heap.size<W3.heap.size∧w.heap.size≤W2.heap.size from ⟨(Array.getElem?_eq_some_iff.1 y2).1,(Array.getElem?_eq_some_iff.1 x3).1,(below2 hb1 hb12).size⟩)
 have k0:W3.cell? ⟨w.heap.size,0,none⟩=some (.string AS):=by rw [Lib.cell_of_heap y1];rfl
 have k1:W3.cell? ⟨w.heap.size,1,none⟩=some (.string AH):=by rw [Lib.cell_of_heap y1];rfl
 have k2:W3.cell? ⟨w.heap.size,2,none⟩=some (.int .i64 ap):=by rw [Lib.cell_of_heap y1];rfl
 have k3:W3.cell? ⟨w.heap.size,3,none⟩=some (.bool ao):=by rw [Lib.cell_of_heap y1];rfl
 have r0:W3.cell? ⟨W1.heap.size,0,none⟩=some (.int .i64 st):=by rw [Lib.cell_of_heap y2];rfl
 have r1:W3.cell? ⟨W1.heap.size,1,none⟩=some (.slice va vn vc):=by rw [Lib.cell_of_heap y2];rfl
 clear hg ho hz' hpA hpH hb1 hb12 hb23 x1 x2 x3 y1 y2 hb3 hB hok hck hage hal hP1 hP2 hR2 hM hN hGM hGN hal2 hl1 hl2 hlM hlN h hz hl hb hQ hql hqs hvn hqn hval;by_cases h200:200≤st
 case neg=>
  have n1:st<200:=by omega
  have HP:=hid (show (decide (200≤st)&&(decide (st≤299)&&(ck&&ok)))=false by rw [decide_eq_false h200];rfl);clear h200;have hx3:=HX3.out;have d0:W3.cell? ⟨W2.heap.size,0,none⟩=some (.slice none 0 0):=by rw [Lib.cell_of_heap hx3];rfl
  have f0:W3.frozen? ⟨W2.heap.size,0,none⟩=false:=Lib.frozen_of_heap hx3 0
  have d1:W3.cell? ⟨W2.heap.size,1,none⟩=some (.slice none 0 0):=by rw [Lib.cell_of_heap hx3];rfl
  have f1:W3.frozen? ⟨W2.heap.size,1,none⟩=false:=Lib.frozen_of_heap hx3 1
  have d2:W3.cell? ⟨W2.heap.size,2,none⟩=some (.bool false):=by rw [Lib.cell_of_heap hx3];rfl
  have f2:W3.frozen? ⟨W2.heap.size,2,none⟩=false:=Lib.frozen_of_heap hx3 2
  have d3:W3.cell? ⟨W2.heap.size,3,none⟩=some (.int .i64 0):=by rw [Lib.cell_of_heap hx3];rfl
  have f3:W3.frozen? ⟨W2.heap.size,3,none⟩=false:=Lib.frozen_of_heap hx3 3
  clear hx3
  go_enter Tryz.func31,Tryz.ntmps31
  go_wp2_with fail
  refine bodyPost_ret (results_gr rfl _ _ W2.heap.size [.slice none 0 0,.slice none 0 0,.bool false,.int .i64 0] rfl rfl ?_) rfl ?_
  rotate_left
  ·refine rdPost_nil (HRn.out (HP.out)) (by first | exact HP.out | (rw [decide_eq_false (by omega)];rfl)) ?_
   first | exact HB3.out | exact below4_19 HB3.out HS3.out.2.2 _ _ _ _
  ·first | exact range_row_Cb (cs:=[.slice none 0 0,.slice none 0 0,.bool false,.int .i64 0]) HX3.out | exact range_row_Cb (cs:=[.slice none 0 0,.slice none 0 0,.bool false,.int .i64 0]) (set4_19 HX3.out)
 have n1: ¬ st<200:=by omega
 by_cases h299:st≤299
 case neg=>
  have n2:299<st:=by omega
  have HP:=hid (show (decide (200≤st)&&(decide (st≤299)&&(ck&&ok)))=false by rw [decide_eq_false h299];simp);clear h200 h299;have hx3:=HX3.out;have d0:W3.cell? ⟨W2.heap.size,0,none⟩=some (.slice none 0 0):=by rw [Lib.cell_of_heap hx3];rfl
  have f0:W3.frozen? ⟨W2.heap.size,0,none⟩=false:=Lib.frozen_of_heap hx3 0
  have d1:W3.cell? ⟨W2.heap.size,1,none⟩=some (.slice none 0 0):=by rw [Lib.cell_of_heap hx3];rfl
  have f1:W3.frozen? ⟨W2.heap.size,1,none⟩=false:=Lib.frozen_of_heap hx3 1
  have d2:W3.cell? ⟨W2.heap.size,2,none⟩=some (.bool false):=by rw [Lib.cell_of_heap hx3];rfl
  have f2:W3.frozen? ⟨W2.heap.size,2,none⟩=false:=Lib.frozen_of_heap hx3 2
  have d3:W3.cell? ⟨W2.heap.size,3,none⟩=some (.int .i64 0):=by rw [Lib.cell_of_heap hx3];rfl
  have f3:W3.frozen? ⟨W2.heap.size,3,none⟩=false:=Lib.frozen_of_heap hx3 3
  clear hx3
  go_enter Tryz.func31,Tryz.ntmps31
  go_wp2_with fail
  refine bodyPost_ret (results_gr rfl _ _ W2.heap.size [.slice none 0 0,.slice none 0 0,.bool false,.int .i64 0] rfl rfl ?_) rfl ?_
  rotate_left
  ·refine rdPost_nil (HRn.out (HP.out)) (by first | exact HP.out | (rw [decide_eq_false (by omega)];rfl)) ?_
   first | exact HB3.out | exact below4_19 HB3.out HS3.out.2.2 _ _ _ _
  ·first | exact range_row_Cb (cs:=[.slice none 0 0,.slice none 0 0,.bool false,.int .i64 0]) HX3.out | exact range_row_Cb (cs:=[.slice none 0 0,.slice none 0 0,.bool false,.int .i64 0]) (set4_19 HX3.out)
 have n2: ¬ 299<st:=by omega
 have HE:=hid (show (decide (200≤st)&&(decide (st≤299)&&(ck&&ok)))=(ck&&ok) by rw [decide_eq_true h200,decide_eq_true h299];rfl);clear h200 h299
 cases ck with
 | false=>
   go_enter Tryz.func31,Tryz.ntmps31
   go_wp2_with fail
   refine (HCk.out _ HB3.out).mono ?_;rintro e w4 ⟨rfl,hb4⟩
   have hx4:=(hb4.block _ (Array.getElem?_eq_some_iff.1 HX3.out).1).trans HX3.out;have HX4:=hid hx4;have HB4:=hid (below2 HB3.out hb4);have d0:w4.cell? ⟨W2.heap.size,0,none⟩=some (.slice none 0 0):=by rw [Lib.cell_of_heap hx4];rfl
   have f0:w4.frozen? ⟨W2.heap.size,0,none⟩=false:=Lib.frozen_of_heap hx4 0
   have d1:w4.cell? ⟨W2.heap.size,1,none⟩=some (.slice none 0 0):=by rw [Lib.cell_of_heap hx4];rfl
   have f1:w4.frozen? ⟨W2.heap.size,1,none⟩=false:=Lib.frozen_of_heap hx4 1
   have d2:w4.cell? ⟨W2.heap.size,2,none⟩=some (.bool false):=by rw [Lib.cell_of_heap hx4];rfl
   have f2:w4.frozen? ⟨W2.heap.size,2,none⟩=false:=Lib.frozen_of_heap hx4 2
   have d3:w4.cell? ⟨W2.heap.size,3,none⟩=some (.int .i64 0):=by rw [Lib.cell_of_heap hx4];rfl
   have f3:w4.frozen? ⟨W2.heap.size,3,none⟩=false:=Lib.frozen_of_heap hx4 3
   clear hb4 hx4
   go_wp2_with fail
   refine bodyPost_ret (results_gr rfl _ _ W2.heap.size [.slice none 0 0,.slice none 0 0,.bool false,.int .i64 0] rfl rfl ?_) rfl ?_
   rotate_left
   ·refine rdPost_nil (HRn.out (HE.out)) (by first | exact HE.out | (rw [decide_eq_false (by omega)];rfl)) ?_
    first | exact HB4.out | exact below4_19 HB4.out HS3.out.2.2 _ _ _ _
   ·first | exact range_row_Cb (cs:=[.slice none 0 0,.slice none 0 0,.bool false,.int .i64 0]) HX4.out | exact range_row_Cb (cs:=[.slice none 0 0,.slice none 0 0,.bool false,.int .i64 0]) (set4_19 HX4.out)
 | true=>
   go_enter Tryz.func31,Tryz.ntmps31
   go_wp2_with fail
   refine (HCk.out _ HB3.out).mono ?_;rintro e w4 ⟨rfl,hb4⟩
   have hx4:=(hb4.block _ (Array.getElem?_eq_some_iff.1 HX3.out).1).trans HX3.out;have hy4:=(hb4.block _ (Array.getElem?_eq_some_iff.1 HY2.out).1).trans HY2.out;have HX4:=hid hx4;have HB4:=hid (below2 HB3.out hb4);have hr4:w4.cell? ⟨W1.heap.size,1,none⟩=some (.slice va vn vc):=by rw [Lib.cell_of_heap hy4];rfl
   have HS4:=hid (show W2.heap.size<w4.heap.size from (Array.getElem?_eq_some_iff.1 hx4).1);clear hb4 hx4 hy4 k0 k1 k2 k3 r0 r1 n1 n2
   go_upto_region 3 with fail
   refine wp_reg (rr19 _ _ _ _ _ _ _ _ _ _ _ _ _ _ _ _ _ _ _ _ _ _ _ _ _ _ _ _ _ _ _ _ _ _ _ _ _ _ _ _ _ _ _ _ _ _ _ _ _ _ _ _ _ _ _ _ _ _ _ _ _ _ _ _ w4 W1.heap.size va vn vc P1 M P2 R2 N age hr4 (hid (fun Y hY=>HT1.out Y (below2 HB4.out hY))) HO1 (hid (fun Y hY=>HT2.out Y (below2 HB4.out hY))) HLo HO2 (hid (fun Y hY=>HLa.out Y (below2 HB4.out hY))) _ ?hk)
   case hk=>
    intro u30 u31 u32 u33 u34 u35 u36 u37 u38 u39 u40 u41 u42 b cM cN aM aN w5 hgr hoM hoN hbb hne hb5;have HG:=hid hgr;have HM:=hid hoM;have HN:=hid hoN;have HNe:=hid hne;have HX5:=hid ((hb5.block _ (Array.getElem?_eq_some_iff.1 HX4.out).1).trans HX4.out);have HB5:=hid (below2 HB4.out hb5);have HBb:=hid (show W2.heap.size<b by have:=HS4.out;omega);have HBs:=hid (show w.heap.size≤w4.heap.size from HB4.out.size)
    have HCg:=hid (fun (wx:World) (hx:Below w5.heap.size w5 wx)=>(⟨by rw [Lib.cell_of_heap ((hx.block b (Array.getElem?_eq_some_iff.1 hgr).1).trans hgr)];rfl,by rw [Lib.cell_of_heap ((hx.block b (Array.getElem?_eq_some_iff.1 hgr).1).trans hgr)];rfl⟩:wx.cell? ⟨b,0,none⟩=some (.slice aM M.length cM)∧wx.cell? ⟨b,1,none⟩=some (.slice aN N.length cN)));have HQ0:=hid ((Below.refl w5.heap.size w5).drew);obtain ⟨nM,hnM⟩: ∃ n,n=M.length:=⟨_,rfl⟩
    obtain ⟨nN,hnN⟩: ∃ n,n=N.length:=⟨_,rfl⟩
    have HnM:=hid hnM;have HnN:=hid hnN;rw [← hnM] at HG HM HNe HCg;rw [← hnN] at HG HN HNe HCg;clear hgr hoM hoN hbb hne hb5 hr4 hnM hnN
    go_wp2_with fail
    go_upto_region 4 with fail
    refine wp_region_held_drew (S:=(fun wx=>Below w5.heap.size w5 wx)) (by kernel_rfl) HQ0.out (fun hHeld=> ?_)
    refine wpAnyH_to (fuel':=11) (listed':= #[false,false,false,false,false,false,false,false,false,false,false]) rfl rfl ?_;generalize w5.drew=w5d at HQ0 hHeld ⊢
    refine' wpAnyH_take (i:=0) (oi:=⟨some 43,_,_,_,_,_⟩) (v:=_) rfl (by kernel_rfl) (by kernel_rfl) (by kernel_rfl) (fun _ _ _ h=>h) (Or.inl ⟨by kernel_rfl,?hyrq1⟩) (by assumption) ?restrq1
    case hyrq1=>(intro wx hSw;(try dsimp only at hSw);have hk:=HCg.out wx hSw;obtain ⟨g0,g1⟩:=hk;go_simp;first | done | with_reducible rfl)
    (try simp only [Act.put,List.setIfInBounds_toArray,List.set_cons_zero,List.set_cons_succ])
    refine' wpAnyH_take (i:=1) (oi:=⟨some 44,_,_,_,_,_⟩) (v:=_) rfl (by kernel_rfl) (by kernel_rfl) (by kernel_rfl) (fun _ _ _ h=>h) (Or.inl ⟨by kernel_rfl,?hyrq2⟩) (by assumption) ?restrq2
    case hyrq2=>(intro wx hSw;(try dsimp only at hSw);have hk:=HCg.out wx hSw;obtain ⟨g0,g1⟩:=hk;go_simp;first | done | with_reducible rfl)
    (try simp only [Act.put,List.setIfInBounds_toArray,List.set_cons_zero,List.set_cons_succ])
    refine' wpAnyH_take (i:=2) (oi:=⟨some 45,_,_,_,_,_⟩) (v:=_) rfl (by kernel_rfl) (by kernel_rfl) (by kernel_rfl) (fun _ _ _ h=>h) (Or.inl ⟨by kernel_rfl,?hyrq3⟩) (by assumption) ?restrq3
    case hyrq3=>(intro wx hSw;(try dsimp only at hSw);have hk:=HCg.out wx hSw;obtain ⟨g0,g1⟩:=hk;go_simp;first | done | with_reducible rfl)
    (try simp only [Act.put,List.setIfInBounds_toArray,List.set_cons_zero,List.set_cons_succ])
    refine' wpAnyH_take (i:=3) (oi:=⟨some 46,_,_,_,_,_⟩) (v:=_) rfl (by kernel_rfl) (by kernel_rfl) (by kernel_rfl) (fun _ _ _ h=>h) (Or.inl ⟨by kernel_rfl,?hyrq4⟩) (by assumption) ?restrq4
    case hyrq4=>(intro wx hSw;(try dsimp only at hSw);have hk:=HCg.out wx hSw;obtain ⟨g0,g1⟩:=hk;go_simp;first | done | with_reducible rfl)
    (try simp only [Act.put,List.setIfInBounds_toArray,List.set_cons_zero,List.set_cons_succ])
    refine' wpAnyH_take (i:=4) (oi:=⟨some 47,_,_,_,_,_⟩) (v:=_) rfl (by kernel_rfl) (by kernel_rfl) (by kernel_rfl) (fun _ _ _ h=>h) (Or.inl ⟨by kernel_rfl,?hyrq5⟩) (by assumption) ?restrq5
    case hyrq5=>(intro wx hSw;(try dsimp only at hSw);have hk:=HCg.out wx hSw;obtain ⟨g0,g1⟩:=hk;go_simp;first | done | with_reducible rfl)
    (try simp only [Act.put,List.setIfInBounds_toArray,List.set_cons_zero,List.set_cons_succ])
    refine' wpAnyH_take (i:=6) (oi:=⟨some 49,_,_,_,_,_⟩) (v:=_) rfl (by kernel_rfl) (by kernel_rfl) (by kernel_rfl) (fun _ _ _ h=>h) (Or.inl ⟨by kernel_rfl,?hyrq6⟩) (by assumption) ?restrq6
    case hyrq6=>(intro wx hSw;(try dsimp only at hSw);have hk:=HCg.out wx hSw;obtain ⟨g0,g1⟩:=hk;go_simp;first | done | with_reducible rfl)
    (try simp only [Act.put,List.setIfInBounds_toArray,List.set_cons_zero,List.set_cons_succ])
    refine' wpAnyH_take (i:=7) (oi:=⟨some 50,_,_,_,_,_⟩) (v:=_) rfl (by kernel_rfl) (by kernel_rfl) (by kernel_rfl) (fun _ _ _ h=>h) (Or.inl ⟨by kernel_rfl,?hyrq7⟩) (by assumption) ?restrq7
    case hyrq7=>(intro wx hSw;(try dsimp only at hSw);have hk:=HCg.out wx hSw;obtain ⟨g0,g1⟩:=hk;go_simp;first | done | with_reducible rfl)
    (try simp only [Act.put,List.setIfInBounds_toArray,List.set_cons_zero,List.set_cons_succ])
    refine wpAnyH_ready (rs:=[5]) (by kernel_rfl) (by simp) ?_
    refine AllReadyH.cons rfl (fun K9 hK=> ?_) AllReadyH.nil;rw [if_pos (by kernel_rfl)]
    go_simp
    go_wp2_with (go_at_call 86;refine (among19_any _ _ _ _).mono ?_;rintro e w6 ⟨rfl,hx6,hba⟩)
    have HQ6:=hid (below2 HQ0.out hba);have HA6:=hid hx6;clear hba hx6;refine hK.out _ _ HQ6.out (fun hHeld2=> ?_);clear hK K9 hHeld
    rename _=>hHeld
    refine wpAnyH_ready (rs:=[8]) (by kernel_rfl) (by simp) ?_
    refine AllReadyH.cons rfl (fun K9 hK=> ?_) AllReadyH.nil;rw [if_pos (by kernel_rfl)]
    go_simp
    go_wp2_with (go_at_call 86;refine (among19_any _ _ _ _).mono ?_;rintro e w7 ⟨rfl,hx7,hba⟩)
    have HQ7:=hid (below2 HQ6.out hba);have HA7:=hid hx7;have HAl:=hid (show Calls Tryz.prog 85 #[.bool c,.string m,.slice qa qn qc,.func (.func 135) #[] #[.pointer (some ⟨w5d.heap.size,0,none⟩)],.func (.func 135) #[] #[.pointer (some ⟨w6.heap.size,0,none⟩)]] w7 (fun e w'=>e = .returned (.bool ok)∧Below w7.heap.size w7 w') by
     have s1:SayAt w7 135 #[.pointer (some ⟨w5d.heap.size,0,none⟩)] (fun x=>M.contains x):=by
      rw [HMd.out];exact amc_say (v:= .slice aM nM cM) ((hba.block _ (Array.getElem?_eq_some_iff.1 HA6.out).1).trans HA6.out) (by
       have:=own_same HM.out HQ7.out;rw [HnM.out,HMd.out] at this
       rw [HnM.out,HMd.out]
       exact this) (by rw [← HMd.out];exact HLM.out)
     have s2:SayAt w7 135 #[.pointer (some ⟨w6.heap.size,0,none⟩)] (fun x=>N.contains x):=by
      rw [HNd.out];exact amc_say (v:= .slice aN nN cN) hx7 (by
       have:=own_same HN.out HQ7.out;rw [HnN.out,HNd.out] at this
       rw [HnN.out,HNd.out]
       exact this) (by rw [← HNd.out];exact HLN.out)
     have:=allowed19_any 135 135 _ _ enters_amc enters_amc _ _ c m (.slice qa qn qc) Q w7 s1 s2 hm (HQx.out.kept (below2 HB5.out HQ7.out)) HQn.out.2 HQs.out;rw [← HOk.out] at this;exact this)
    clear hba hx7;refine hK.out _ _ HQ7.out (fun hHeld2=> ?_);clear hK K9 hHeld
    rename _=>hHeld
    refine wpAnyH_ready (rs:=[9]) (by kernel_rfl) (by simp) ?_
    refine AllReadyH.cons rfl (fun K9 hK=> ?_) AllReadyH.nil;rw [if_pos (by kernel_rfl)]
    go_simp
    go_wp2_with (go_at_call 85;refine HAl.out.mono ?_;rintro e w8 ⟨rfl,hba⟩)
    have HQ8:=hid (below2 HQ7.out hba);clear hba;refine hK.out _ _ HQ8.out (fun hHeld2=> ?_);clear hK K9 hHeld
    rename _=>hHeld
    refine' wpAnyH_take (i:=10) (oi:=⟨some 53,_,_,_,_,_⟩) (v:=_) rfl (by kernel_rfl) (by kernel_rfl) (by kernel_rfl) (fun _ _ _ h=>h) (Or.inl ⟨by kernel_rfl,?hyrq8⟩) (by assumption) ?restrq8
    case hyrq8=>(intro wx hSw;(try dsimp only at hSw);have hk:=HCg.out wx hSw;obtain ⟨g0,g1⟩:=hk;go_simp;first | done | with_reducible rfl)
    (try simp only [Act.put,List.setIfInBounds_toArray,List.set_cons_zero,List.set_cons_succ])
    refine wpAnyH_done (by kernel_rfl) ?_ _
    have hx8:=(HQ8.out.block _ (Array.getElem?_eq_some_iff.1 HX5.out).1).trans HX5.out;have hg8:=(HQ8.out.block _ (Array.getElem?_eq_some_iff.1 HG.out).1).trans HG.out;have HX8:=hid hx8;have HG8:=hid hg8;have HB8:=hid (below2 HB5.out HQ8.out);have HM8:=hid (own_same HM.out HQ8.out);have HN8:=hid (own_same HN.out HQ8.out)
    cases ok with
    | false=>
      have d0:w8.cell? ⟨W2.heap.size,0,none⟩=some (.slice none 0 0):=by rw [Lib.cell_of_heap hx8];rfl
      have f0:w8.frozen? ⟨W2.heap.size,0,none⟩=false:=Lib.frozen_of_heap hx8 0
      have d1:w8.cell? ⟨W2.heap.size,1,none⟩=some (.slice none 0 0):=by rw [Lib.cell_of_heap hx8];rfl
      have f1:w8.frozen? ⟨W2.heap.size,1,none⟩=false:=Lib.frozen_of_heap hx8 1
      have d2:w8.cell? ⟨W2.heap.size,2,none⟩=some (.bool false):=by rw [Lib.cell_of_heap hx8];rfl
      have f2:w8.frozen? ⟨W2.heap.size,2,none⟩=false:=Lib.frozen_of_heap hx8 2
      have d3:w8.cell? ⟨W2.heap.size,3,none⟩=some (.int .i64 0):=by rw [Lib.cell_of_heap hx8];rfl
      have f3:w8.frozen? ⟨W2.heap.size,3,none⟩=false:=Lib.frozen_of_heap hx8 3
      clear hx8 hg8
      go_wp2_with fail
      refine bodyPost_ret (results_gr rfl _ _ W2.heap.size [.slice none 0 0,.slice none 0 0,.bool false,.int .i64 0] rfl rfl ?_) rfl ?_
      rotate_left
      ·refine rdPost_nil (HRn.out (HE.out)) (by first | exact HE.out | (rw [decide_eq_false (by omega)];rfl)) ?_
       first | exact HB8.out | exact below4_19 HB8.out HS3.out.2.2 _ _ _ _
      ·first | exact range_row_Cb (cs:=[.slice none 0 0,.slice none 0 0,.bool false,.int .i64 0]) HX8.out | exact range_row_Cb (cs:=[.slice none 0 0,.slice none 0 0,.bool false,.int .i64 0]) (set4_19 HX8.out)
    | true=>
      cases c with
      | false=>
        have g1:w8.cell? ⟨b,1,none⟩=some (.slice aN nN cN):=by rw [Lib.cell_of_heap hg8];rfl
        clear hx8 hg8
        go_wp2_with fail
        refine (among19_any _ _ _ _).mono ?_;rintro e w81 ⟨rfl,hx81,hb81⟩
        have HAs:=hid (show Calls Tryz.prog 135 #[.string ⟨#[42]⟩,.pointer (some ⟨w8.heap.size,0,none⟩)] w81 (fun e w'=>e = .returned (.bool al)∧Below w81.heap.size w81 w') by
         have:=amongc19_any w8.heap.size (.slice aN nN cN) R2 ⟨#[42]⟩ w81 (by rw [Lib.cell_of_heap hx81];rfl) (by
          have:=own_path (by rw [HnN.out] at *;exact own_same HN8.out hb81)
          rw [← HNd.out,HnN.out];exact this) (by rw [← HNd.out];exact HLN.out)
         rw [← HNd.out] at this;rw [HAl2.out];exact this)
        have HB81:=hid hb81;clear g1 hx81 hb81
        go_wp2_with fail
        refine HAs.out.mono ?_;rintro e w9 ⟨rfl,hb9⟩
        have HB89:=hid (below2 HB81.out hb9);have hg9:=(HB89.out.block _ (Array.getElem?_eq_some_iff.1 HG8.out).1).trans HG8.out;have HG9:=hid hg9;have HX9:=hid ((HB89.out.block _ (Array.getElem?_eq_some_iff.1 HX8.out).1).trans HX8.out);have HB9:=hid (below2 HB8.out HB89.out);have HM9:=hid (own_same HM8.out HB89.out);have HN9:=hid (own_same HN8.out HB89.out);clear HX8 HG8 HB8 HM8 HN8 hb9;obtain ⟨x,hx⟩: ∃ x,x=al:=⟨_,rfl⟩
        have HAx:=hid (show al=x from hx.symm);rw [← hx];have c2:w9.cell? ⟨b,2,none⟩=some (.bool false):=by rw [Lib.cell_of_heap hg9];rfl
        have e2:w9.frozen? ⟨b,2,none⟩=false:=Lib.frozen_of_heap hg9 2
        obtain ⟨W10,hW10⟩: ∃ Y,w9.setCell ⟨b,2,none⟩ (.bool x)=Y:=⟨_,rfl⟩
        have hg10:W10.heap[b]? = some (.cells #[.slice aM nM cM,.slice aN nN cN,.bool x,.int .i64 age] 60 (0,0)):=by rw [← hW10];exact Lib.heap_setCell_same hg9 (i:=2) _
        have hx10:W10.heap[W2.heap.size]? = some (.cells #[.slice none 0 0,.slice none 0 0,.bool false,.int .i64 0] 60 (0,0)):=by rw [← hW10,heap_setCell_other _ _ _ _ (by have:=HBb.out;show W2.heap.size≠b;omega)];exact HX9.out
        have HRg:=hid (range_row_Cb (cs:=[.slice aM nM cM,.slice aN nN cN,.bool x,.int .i64 age]) hg10);have HX10:=hid hx10;have HB10:=hid (show Below w.heap.size w W10 by rw [← hW10];exact HB9.out.setCell (p:=⟨b,2,none⟩) (by have:=HBb.out;have:=HS3.out;show w.heap.size≤b;omega) _);have HM10:=hid (show W10.ownsRow w4.heap.size 9 1 (.slice aM nM cM) nM (cellsT M) by
         rw [← hW10];exact ownsRow_same HM9.out (fun g hg=>heap_setCell_other _ _ _ _ (fun e=>kind_ne19 HM9.out hg HG9.out (by decide) (show b=g from (show g=b from e).symm))))
        have HN10:=hid (show W10.ownsRow w4.heap.size 9 1 (.slice aN nN cN) nN (cellsT N) by
         rw [← hW10];exact ownsRow_same HN9.out (fun g hg=>heap_setCell_other _ _ _ _ (fun e=>kind_ne19 HN9.out hg HG9.out (by decide) (show b=g from (show g=b from e).symm))))
        have HGx:=hid hx;have d0:W10.cell? ⟨W2.heap.size,0,none⟩=some (.slice none 0 0):=by rw [Lib.cell_of_heap hx10];rfl
        have f0:W10.frozen? ⟨W2.heap.size,0,none⟩=false:=Lib.frozen_of_heap hx10 0
        have d1:W10.cell? ⟨W2.heap.size,1,none⟩=some (.slice none 0 0):=by rw [Lib.cell_of_heap hx10];rfl
        have f1:W10.frozen? ⟨W2.heap.size,1,none⟩=false:=Lib.frozen_of_heap hx10 1
        have d2:W10.cell? ⟨W2.heap.size,2,none⟩=some (.bool false):=by rw [Lib.cell_of_heap hx10];rfl
        have f2:W10.frozen? ⟨W2.heap.size,2,none⟩=false:=Lib.frozen_of_heap hx10 2
        have d3:W10.cell? ⟨W2.heap.size,3,none⟩=some (.int .i64 0):=by rw [Lib.cell_of_heap hx10];rfl
        have f3:W10.frozen? ⟨W2.heap.size,3,none⟩=false:=Lib.frozen_of_heap hx10 3
        clear hg9 hg10 hx10 hx
        go_wp2_with (refine wpList_load_mid rfl 60 (.tmp 12) rfl b 0 rfl [.slice aM nM cM,.slice aN nN cN,.bool x,.int .i64 age] _ HRg.out Tryz.underlying60 rfl sizeGr19 ?_)
        refine bodyPost_ret (results_gr rfl _ _ W2.heap.size [.slice aM nM cM,.slice aN nN cN,.bool x,.int .i64 age] rfl rfl (range_row_Cb (cs:=[.slice aM nM cM,.slice aN nN cN,.bool x,.int .i64 age]) (set4_19 HX10.out))) rfl ?_;rw [HE.out,HRy.out HE.out,HAx.out]
        refine ⟨aM,cM,aN,cN,?_,?_,?_,?_,below4_19 HB10.out HS3.out.2.2 _ _ _ _⟩
        ·rw [HnM.out,HnN.out];rfl
        ·have h:=own_base19 (ownsRow_same HM10.out (fun g hg=>far4_19 (fun e=>kind_ne19 HM10.out hg HX10.out (by decide) e.symm) (.slice aM nM cM) (.slice aN nN cN) (.bool x) (.int .i64 age))) HBs.out
         rw [HnM.out] at h ⊢;exact h
        ·have h:=own_base19 (ownsRow_same HN10.out (fun g hg=>far4_19 (fun e=>kind_ne19 HN10.out hg HX10.out (by decide) e.symm) (.slice aM nM cM) (.slice aN nN cN) (.bool x) (.int .i64 age))) HBs.out
         rw [HnN.out] at h ⊢;exact h
        ·have h:=HNe.out
         rw [HnM.out,HnN.out] at h
         exact h
      | true=>
        have HAlv:=hid (show al=false by rw [HAl2.out];rfl);obtain ⟨w9,hw9⟩: ∃ Y,Y=w8:=⟨_,rfl⟩
        have HB89:=hid (show Below w8.heap.size w8 w9 by rw [hw9];exact Below.refl _ _);rw [← hw9] at hg8 HX8 HG8 HB8 HM8 HN8 ⊢;clear hx8 hw9;obtain ⟨x,hx⟩: ∃ x,x=false:=⟨_,rfl⟩
        have HAx:=hid (show al=x by rw [hx];exact HAlv.out);have hg9:=hg8;have HG9:=HG8;have HX9:=HX8;have HB9:=HB8;have HM9:=HM8;have HN9:=HN8;clear HX8 HG8 HB8 HM8 HN8 hg8;have c2:w9.cell? ⟨b,2,none⟩=some (.bool false):=by rw [Lib.cell_of_heap hg9];rfl
        have e2:w9.frozen? ⟨b,2,none⟩=false:=Lib.frozen_of_heap hg9 2
        obtain ⟨W10,hW10⟩: ∃ Y,w9.setCell ⟨b,2,none⟩ (.bool false)=Y:=⟨_,rfl⟩
        have hg10:W10.heap[b]? = some (.cells #[.slice aM nM cM,.slice aN nN cN,.bool x,.int .i64 age] 60 (0,0)):=by rw [← hW10];rw [hx];exact Lib.heap_setCell_same hg9 (i:=2) _
        have hx10:W10.heap[W2.heap.size]? = some (.cells #[.slice none 0 0,.slice none 0 0,.bool false,.int .i64 0] 60 (0,0)):=by rw [← hW10,heap_setCell_other _ _ _ _ (by have:=HBb.out;show W2.heap.size≠b;omega)];exact HX9.out
        have HRg:=hid (range_row_Cb (cs:=[.slice aM nM cM,.slice aN nN cN,.bool x,.int .i64 age]) hg10);have HX10:=hid hx10;have HB10:=hid (show Below w.heap.size w W10 by rw [← hW10];exact HB9.out.setCell (p:=⟨b,2,none⟩) (by have:=HBb.out;have:=HS3.out;show w.heap.size≤b;omega) _);have HM10:=hid (show W10.ownsRow w4.heap.size 9 1 (.slice aM nM cM) nM (cellsT M) by
         rw [← hW10];exact ownsRow_same HM9.out (fun g hg=>heap_setCell_other _ _ _ _ (fun e=>kind_ne19 HM9.out hg HG9.out (by decide) (show b=g from (show g=b from e).symm))))
        have HN10:=hid (show W10.ownsRow w4.heap.size 9 1 (.slice aN nN cN) nN (cellsT N) by
         rw [← hW10];exact ownsRow_same HN9.out (fun g hg=>heap_setCell_other _ _ _ _ (fun e=>kind_ne19 HN9.out hg HG9.out (by decide) (show b=g from (show g=b from e).symm))))
        have HGx:=hid hx;have d0:W10.cell? ⟨W2.heap.size,0,none⟩=some (.slice none 0 0):=by rw [Lib.cell_of_heap hx10];rfl
        have f0:W10.frozen? ⟨W2.heap.size,0,none⟩=false:=Lib.frozen_of_heap hx10 0
        have d1:W10.cell? ⟨W2.heap.size,1,none⟩=some (.slice none 0 0):=by rw [Lib.cell_of_heap hx10];rfl
        have f1:W10.frozen? ⟨W2.heap.size,1,none⟩=false:=Lib.frozen_of_heap hx10 1
        have d2:W10.cell? ⟨W2.heap.size,2,none⟩=some (.bool false):=by rw [Lib.cell_of_heap hx10];rfl
        have f2:W10.frozen? ⟨W2.heap.size,2,none⟩=false:=Lib.frozen_of_heap hx10 2
        have d3:W10.cell? ⟨W2.heap.size,3,none⟩=some (.int .i64 0):=by rw [Lib.cell_of_heap hx10];rfl
        have f3:W10.frozen? ⟨W2.heap.size,3,none⟩=false:=Lib.frozen_of_heap hx10 3
        clear hg9 hg10 hx10 hx
        go_wp2_with (refine wpList_load_mid rfl 60 (.tmp 12) rfl b 0 rfl [.slice aM nM cM,.slice aN nN cN,.bool x,.int .i64 age] _ HRg.out Tryz.underlying60 rfl sizeGr19 ?_)
        refine bodyPost_ret (results_gr rfl _ _ W2.heap.size [.slice aM nM cM,.slice aN nN cN,.bool x,.int .i64 age] rfl rfl (range_row_Cb (cs:=[.slice aM nM cM,.slice aN nN cN,.bool x,.int .i64 age]) (set4_19 HX10.out))) rfl ?_;rw [HE.out,HRy.out HE.out,HAx.out]
        refine ⟨aM,cM,aN,cN,?_,?_,?_,?_,below4_19 HB10.out HS3.out.2.2 _ _ _ _⟩
        ·rw [HnM.out,HnN.out];rfl
        ·have h:=own_base19 (ownsRow_same HM10.out (fun g hg=>far4_19 (fun e=>kind_ne19 HM10.out hg HX10.out (by decide) e.symm) (.slice aM nM cM) (.slice aN nN cN) (.bool x) (.int .i64 age))) HBs.out
         rw [HnM.out] at h ⊢;exact h
        ·have h:=own_base19 (ownsRow_same HN10.out (fun g hg=>far4_19 (fun e=>kind_ne19 HN10.out hg HX10.out (by decide) e.symm) (.slice aM nM cM) (.slice aN nN cN) (.bool x) (.int .i64 age))) HBs.out
         rw [HnN.out] at h ⊢;exact h
        ·have h:=HNe.out
         rw [HnM.out,HnN.out] at h
         exact h

end Go.Proofs.YtolioccofbhliaaGreatDoor

namespace Go.Proofs.YtolioccofbhliaaGreatDoor
open Go.RowKit

def nAllow:List UInt8:=[65,99,99,101,115,115,45,67,111,110,116,114,111,108,45,65,108,108,111,119,45,79,114,105,103,105,110]

def AlP (s:List UInt8) (w:World) (e:Ending) (w':World):Prop:=
 ∃ a c,e = .returned (.slice a 1 c)∧w'.ownsRow w.heap.size 45 2 (.slice a 1 c) 1 (cellsH [⟨nAllow,s⟩])∧Below w.heap.size w w'

theorem AlP.hd {s:List UInt8} {w w':World} {a:Option Addr} {c:Nat} (h:w'.ownsRow w.heap.size 45 2 (.slice a 1 c) 1 (cellsH [⟨nAllow,s⟩])):HdAt w' (.slice a 1 c) [⟨nAllow,s⟩]:=own_hd h

theorem szd_all {n:Nat} {L:List Hd} (h:(L.all fun x=>decide (x.name.length≤n)&&decide (x.value.length≤n))=true):Szd n L:=fun x hx=>by
 have:=List.all_eq_true.1 h x hx;rw [Bool.and_eq_true,decide_eq_true_eq,decide_eq_true_eq] at this
 exact this

theorem orgOk_of {o:Org} (h:(decide (o.scheme.length≤1000000)&&decide (o.host.length≤1000000)&&(o.opq||(decide (0≤o.port)&&decide (o.port≤65535))))=true):OrgOk o:=by
 simp only [Bool.and_eq_true,Bool.or_eq_true,decide_eq_true_eq] at h
 refine ⟨h.1.1,h.1.2,fun ho=> ?_⟩
 rcases h.2 with h2 | h2
 ·rw [ho] at h2;cases h2
 ·exact h2

end Go.Proofs.YtolioccofbhliaaGreatDoor
