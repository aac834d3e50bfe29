/-
  Walks and plain facts that this claim leans on, put together out of 1 texts: Ekb.
-/
import Derived.Test.YtolioccofbhliaaGreatDoorProg
import Derived.Test.YtolioccofbhliaaGreatDoorQp1
import Derived.Test.YtolioccofbhliaaGreatDoorQp2
import Derived.Test.YtolioccofbhliaaGreatDoorQp3
import Derived.Test.YtolioccofbhliaaGreatDoorQp4
import Derived.Test.YtolioccofbhliaaGreatDoorQp5
import Derived.Test.YtolioccofbhliaaGreatDoorQp6
import Derived.Test.YtolioccofbhliaaGreatDoorQp7
import Derived.Test.YtolioccofbhliaaGreatDoorQp8
import Derived.Test.YtolioccofbhliaaGreatDoorQp9
import Derived.Test.YtolioccofbhliaaGreatDoorQp10
import Derived.Test.YtolioccofbhliaaGreatDoorQp11
import Derived.Test.YtolioccofbhliaaGreatDoorQp12
import Derived.Test.YtolioccofbhliaaGreatDoorQp13
import Derived.Test.YtolioccofbhliaaGreatDoorQp14
import Derived.Test.YtolioccofbhliaaGreatDoorQp15
import Derived.Test.YtolioccofbhliaaGreatDoorQp16
import Derived.Test.YtolioccofbhliaaGreatDoorQp17
import Derived.Test.YtolioccofbhliaaGreatDoorQp18
import Derived.Test.YtolioccofbhliaaGreatDoorQp19
import Derived.Test.YtolioccofbhliaaGreatDoorQp20
import Derived.Test.YtolioccofbhliaaGreatDoorQp21
import Derived.Test.YtolioccofbhliaaGreatDoorQp22
import Derived.Test.YtolioccofbhliaaGreatDoorQp23
import Derived.Test.YtolioccofbhliaaGreatDoorQp24
import Derived.Test.YtolioccofbhliaaGreatDoorQp25
import Derived.Test.YtolioccofbhliaaGreatDoorQp26
import Derived.Test.YtolioccofbhliaaGreatDoorQp27
import Derived.Test.YtolioccofbhliaaGreatDoorQp28
import Derived.Test.YtolioccofbhliaaGreatDoorQg1
import Derived.Test.YtolioccofbhliaaGreatDoorQg2
import Derived.Test.YtolioccofbhliaaGreatDoorQg3
import Derived.Test.YtolioccofbhliaaGreatDoorQg4
import Derived.Test.YtolioccofbhliaaGreatDoorQg6
import Derived.BigRegion
import Derived.Deep.RegionHeld
import Derived.Deep.RegionHeldLaw
import Derived.Lib.IndexAny
import Derived.WalkKit
import Derived.Lib.UnsafeStr
import Derived.Lib.BufferRead
import Derived.Lib.RuneBytes
import Derived.Laws.RangeAny
import Derived.Deep.LoopGhost
import Derived.Maps.OwnSet
import Derived.Maps.OwnOps
import Derived.Maps.AppendAt
import Derived.StringKeys
import Derived.BigQuiet
import Derived.Deep.QuietTactic
import Derived.LoopN
import Derived.RegionTactic
import Derived.Deep.RegionLaw
import Derived.Deep.RegionWith
import Derived.WalkSpells
import Derived.WalkLawsBesides
import Derived.Lib.FieldsP
import Derived.Lib.DecodeN
import Derived.Lib.IndexMore
import Derived.Lib.Join
import Derived.Lib.SmallJoins
import Derived.Laws.CopyOwn
import Derived.Laws.ResultCell
import Derived.Deep.MidRow
import Derived.Laws.OwnMore
import Derived.Below
import Derived.WalkSmall
import Derived.Lib.LaidTab
import Derived.Lib.AppendIntMem
import Derived.Laws.AppendOwn
import Derived.Laws.Runes
import Derived.Lib.OthersKept
import Derived.Lib.FrozenHead2
import Derived.Lib.Builder
import Derived.Lib.AppendStr
import Derived.Lib.Replace
import Derived.Shelf.GgClosure.GivesRunes
import Derived.Laws.BitsAll
import Derived.Laws.Shifts
import Derived.Deep.DeepAppendRoom
import Derived.Laws.IdiomStrings
import Derived.Laws.BytesString
import Derived.Laws.CopyRow
import Derived.Sort.OwnSorted
import Derived.Lib.SlicesCompact
import Derived.Shelf.Slices.In.SortNone
import Derived.Shelf.Slices.CompactS
import Derived.Lib.SliceRun
import Derived.Sort.KeysCollected
import Derived.Lib.Case
import Derived.Deep.Cut
import Derived.Deep.CutRange
import Derived.Lib.LastIndexByte
import Derived.Lib.Strings
import Derived.Laws.BitsAllLaws
import Derived.Lib.Bytealg
import Derived.Lib.BufferMore
import Derived.OwnWalk
import Derived.Shelf.Strings.Builder1
import Derived.Shelf.Strings.Builder2
import Derived.Shelf.Strings.OnBuilder
import Derived.Shelf.Strings.Trim
import Derived.Shelf.Small.Utf8
import Derived.Shelf.Small.Bits
import Derived.Shelf.Small.Strs
import Derived.Shelf.Small.Wraps
import Derived.Shelf.Strings.BuilderF
import Derived.Shelf.Strings.BuilderK
import Derived.Shelf.Strings.Builder2Cap
import Derived.Shelf.Strconv.Itoa0
import Derived.Shelf.Strconv.Itoa1
import Derived.Shelf.LaysM
import Derived.Shelf.Strconv.Itoa2
import Derived.Shelf.Strconv.Itoa3
import Derived.Shelf.Strings.Search1
import Derived.Shelf.Strings.Search2
import Derived.Shelf.Strings.Cut
import Derived.Shelf.Strings.Shaped
import Derived.Shelf.Sort.Plain
import Derived.Shelf.Strings.Prefix
import Derived.Shelf.Strings.Runes
import Derived.Shelf.Strings.IndexAny
import Derived.Shelf.Strings.AsciiSet
import Derived.Shelf.Strings.IndexAnyAll
import Derived.Shelf.Unicode.DecodeSlow
import Derived.Shelf.Unicode.DecodeAny
import Derived.Shelf.Unicode.DecodeLast
import Derived.Ground.SlgnProg
import Derived.Shelf.SlicesE.Compact
import Derived.Ground.SlgfProg
import Derived.Shelf.SlicesE.IndexFunc
import Derived.Shelf.SlicesE.DeleteFunc
import Derived.Laws.AppendOwnNone
import Derived.Scope
import Derived.ScopeJumps
import Derived.WalkMore
import Derived.Lib.TrimByte
import Derived.Lib.ItoaNum
import Derived.Deep.WholeRow
import Derived.Lib.SlTrimSet
import Derived.Shelf.Strings.SlTrimAscii
import Derived.Laws.Rows
import Derived.Laws.MakeOwn
import Derived.Shelf.Spec.SearchS
import Derived.Sort.Walk0
set_option linter.unusedSimpArgs false
set_option linter.unusedVariables false

namespace Go.Proofs.YtolioccofbhliaaGreatDoor
open Go.RowKit

theorem keptG19 {w w':World} {k:Nat} {o:Obj} (hb:Below w.heap.size w w') (h:w.heap[k]? = some o):w'.heap[k]? = some o:=(hb.block k (Array.getElem?_eq_some_iff.1 h).1).trans h

theorem lowlenG19 (l:List UInt8):(low l).length=l.length:=by unfold low;exact List.length_map ..

theorem rdGfacts19 {t:List UInt8} {c:Bool} {m:List UInt8} {Q:List (List UInt8)} {st:Int} {L:List Hd} (hb:bulkV L≤900000):(rdG t c m Q st L).M.length≤1000000∧(rdG t c m Q st L).N.length≤1000000∧(∀ x ∈ (rdG t c m Q st L).N,x.length≤140737488351232)∧(0≤(rdG t c m Q st L).age∧(rdG t c m Q st L).age≤7200)∧(∀ x ∈ (rdG t c m Q st L).N,low x=x)∧((rdG t c m Q st L).all=true→[42] ∈ (rdG t c m Q st L).N)∧(rdB t c m Q st L=true→okV c m Q (fun x=>(rdG t c m Q st L).M.contains x) (fun x=>(rdG t c m Q st L).N.contains x)=true):=by
 cases h:rdB t c m Q st L with
 | false=>
   rw [rd_no h];exact ⟨Nat.zero_le _,Nat.zero_le _,fun x hx=>absurd hx List.not_mem_nil,⟨Int.le_refl _,by decide⟩,fun x hx=>absurd hx List.not_mem_nil,(fun e=>by cases e),(fun e=>by cases e)⟩
 | true=>
   rw [rd_yes h];have hA:=pcsV_len16 L nAM;have hH:=pcsV_len16 L nAH;refine ⟨?_,?_,?_,grA_range L,grN_low L,allG_mem c L,fun _=>rdB_ok h⟩
   ·show (srtN (tksV L nAM)).length≤_
    have:=srtN_len16 (tksV L nAM);have:=tks_len L nAM;omega
   ·show (srtN ((tksV L nAH).map low)).length≤_
    have h1:=srtN_len16 ((tksV L nAH).map low);have h2:=tks_len L nAH;rw [List.length_map] at h1;omega
   ·intro x hx
    obtain ⟨y,hy,rfl⟩:=List.mem_map.1 ((mem_srt19 _ x).1 hx)
    rw [lowlenG19];have:=tks_szd hH.2 y hy;omega

set_option maxHeartbeats 40000000 in
set_option maxRecDepth 100000 in
theorem preflightGrants_walk (self:ByteArray) (cr:Bool) (mt0:ByteArray) (vQ:Value) (Q0:List (List UInt8)) (st:Int) (vH:Value) (L:List Hd) (ba:Option Addr) (bn bc:Nat) (bl:List UInt8) (at0:Int) (w:World) (hg:Gd w) (hs:self.size≤9223372036854775807) (hm0:mt0.size≤9223372036854775807) (hQ:TxAt w vQ Q0) (hqs: ∀ x ∈ Q0,x.length≤140737488351232) (hv:HdAt w vH L) (hz:Szd maxLen L) (hl:bl.length=bn) (hB:SlB_Cb w (.slice ba bn bc) bl) (hc:bn≤bc) (hm:bc≤maxLen) (hat: -9223372036854775808≤at0∧at0≤9223372036854775807):
 Calls Tryz.prog 5 #[.string self,.bool cr,.string mt0,vQ,.agg #[.int .i64 st,vH,.slice ba bn bc],.int .i64 at0] w fun e w'=>e = .returned (.bool true)∧Below w.heap.size w w':=by
 obtain ⟨mt,hmt⟩: ∃ X:ByteArray,X=⟨(mt0.data.toList.take 30).toArray⟩:=⟨_,rfl⟩
 have hmz:mt.size≤30:=by rw [Lib.size_eq,hmt];simp;omega
 have HFew:Hid (∀ Y:World,Calls Tryz.prog 39 #[.string mt0,.int .i64 30] Y fun e w'=>e = .returned (.string mt)∧Y=w'):=fun Y=>by rw [hmt];exact xfew_any mt0 30 Y (by decide) hm0
 obtain ⟨O,hO⟩: ∃ O,O=ofT self.data.toList:=⟨_,rfl⟩
 have HOf:=hid (of19_at self O hO.symm hs);have hOk:OrgOk O:=by rw [hO];exact orgOk_any _
 obtain ⟨sa,ah,ap,ao⟩:=O
 obtain ⟨AS,rfl⟩: ∃ X:ByteArray,sa=X.data.toList:=⟨⟨sa.toArray⟩,rfl⟩
 obtain ⟨AH,rfl⟩: ∃ X:ByteArray,ah=X.data.toList:=⟨⟨ah.toArray⟩,rfl⟩
 have hval:orgVal ⟨AS.data.toList,AH.data.toList,ap,ao⟩ = .agg #[.string AS,.string AH,.int .i64 ap,.bool ao]:=rfl
 rw [hval] at HOf;obtain ⟨LF,hLF⟩: ∃ X,X=fewH L 12 200:=⟨_,rfl⟩
 have hzF:Szd 200 LF:=by rw [hLF];exact fewH_szd L 12 200
 have hlF:LF.length≤12:=by rw [hLF];exact fewH_len L 12 200
 have hbF:bulkV LF≤900000:=by
  have h1:=hzF.bulk;have h2:(200+2)*LF.length≤(200+2)*12:=Nat.mul_le_mul_left _ hlF;omega
 have HRp0:=hid (fun (Y:World) (hY:Below w.heap.size w Y)=>reply19_any st vH L ba bn bc bl Y (hv.kept hY) hz hl (hB.kept hY) hc hm);rw [← hLF] at HRp0;obtain ⟨va,vc,rfl,_,_,_⟩:=hv.view
 obtain ⟨vn,hvn⟩: ∃ n,n=L.length:=⟨_,rfl⟩
 rw [← hvn] at HRp0 ⊢;obtain ⟨qa,qk,rfl,hqc1,hqc2,_⟩:=hQ.view
 obtain ⟨n0,hn0⟩: ∃ n,n=Q0.length:=⟨_,rfl⟩
 rw [← hn0] at hQ hqc1 ⊢;unfold maxLen at hqc2;have hT:=n_within_mod_Ehw at0 10000 (by decide)
 have HWi:=hid (fun Y=>n_within_any_Ehw (at0.tmod 10000) 0 9000 Y (by omega) (by omega) (by decide) (by decide) (by decide));have hB9:=n_withinI_bounds_Ehw (at0.tmod 10000) 0 9000 (by decide)
 obtain ⟨tm,htm⟩: ∃ t,t=n_withinI_Ehw (at0.tmod 10000) 0 9000:=⟨_,rfl⟩
 rw [← htm] at HWi hB9;obtain ⟨W1,hW1⟩: ∃ X,w.alloc (.cells #[.int .i64 st,.slice va vn vc,.slice ba bn bc] 30)=X:=⟨_,rfl⟩
 have hb1:Below w.heap.size w W1:=by rw [← hW1];exact (Below.refl _ w).alloc (Nat.le_refl _) _
 have x1:W1.heap[w.heap.size]? = some (.cells #[.int .i64 st,.slice va vn vc,.slice ba bn bc] 30 (0,0)):=by rw [← hW1];exact heap_alloc_new w _
 have HB1:=hid hb1;have HX1:=hid x1;have HG:=hid hg;have HQ:=hid hQ;have HOk:=hid hOk;have HzF:=hid hzF;have HlF:=hid (show LF.length≤12∧bulkV LF≤900000∧mt.size≤30 from ⟨hlF,hbF,hmz⟩);have Hqs:=hid hqs;have Hn0:=hid hn0;have HtB:=hid hB9;have Hval:=hid hval;have Hqk:=hid (show n0≤qk∧qk≤9223372036854775807 from ⟨hqc1,hqc2⟩);clear hb1 x1 hg hQ hOk hzF hlF hbF hmz hqs hn0 hB9 hval htm hT hv hz hl hB hc hm hLF hvn hO hmt hs hm0 hat
 go_enter Tryz.func5,Tryz.ntmps5
 go_wp2_with fail
 refine (HOf.out _).mono ?_;rintro e w2 ⟨rfl,hb2⟩
 obtain ⟨W3,hW3⟩: ∃ X,w2.alloc (.cells #[.string AS,.string AH,.int .i64 ap,.bool ao] 56)=X:=⟨_,rfl⟩
 have hb3:Below w2.heap.size w2 W3:=by rw [← hW3];exact (Below.refl _ w2).alloc (Nat.le_refl _) _
 have x3:W3.heap[w2.heap.size]? = some (.cells #[.string AS,.string AH,.int .i64 ap,.bool ao] 56 (0,0)):=by rw [← hW3];exact heap_alloc_new w2 _
 have HX3:=hid x3;have HR3:=hid (keptG19 hb3 (keptG19 hb2 HX1.out));have HB3:=hid (below2 (below2 HB1.out hb2) hb3);have HW3:=hid hW3;have HRp:=hid (fun (Y:World) (hY:Below W3.heap.size W3 Y)=>HRp0.out Y (below2 HB3.out hY));clear hW3 hb3 x3 hb2 hW1
 go_wp2_with fail
 rw [HW3.out];refine (HFew.out _).mono ?_;rintro e w4 ⟨rfl,rfl⟩
 by_cases h8:8<n0
 ·as_aux_lemma=>
   have h8i:(8:Int)<(n0:Int):=by omega
   have hqc1:=Hqk.out.1;have hqc2:=Hqk.out.2;have hk8:8≤qk:=by omega
   obtain ⟨Q,hQd⟩: ∃ Q,Q=Q0.take 8:=⟨_,rfl⟩
   have hQl:Q.length=8:=by rw [hQd,List.length_take];have:=Hn0.out;omega
   have HQ8:=hid (show TxAt w (.slice qa 8 qk) Q by rw [hQd];exact HQ.out.take16 8 (by have:=Hn0.out;omega));have Hq8:=hid (show ∀ x ∈ Q,x.length≤140737488351232 from fun x hx=>Hqs.out x (by rw [hQd] at hx;exact List.mem_of_mem_take hx));have HQl:=hid hQl;have HQd:=hid (show decide (Q=[])=decide (8=0) by rw [decide_eq_decide];exact ⟨fun h=>by rw [h] at hQl;exact absurd hQl (by decide),fun h=>absurd h (by decide)⟩);have Hqn:=hid (show (8:Nat)≤9223372036854775807 by decide);clear hQd hQl
   go_upto_region 5 with fail
   obtain ⟨⟨M,N,al,ag⟩,hGr⟩: ∃ G,G=rdG (textO ⟨AS.data.toList,AH.data.toList,ap,ao⟩) cr mt.data.toList Q st LF:=⟨_,rfl⟩
   obtain ⟨bok,hbo⟩: ∃ b,b=rdB (textO ⟨AS.data.toList,AH.data.toList,ap,ao⟩) cr mt.data.toList Q st LF:=⟨_,rfl⟩
   have hFa:=rdGfacts19 (t:=textO ⟨AS.data.toList,AH.data.toList,ap,ao⟩) (c:=cr) (m:=mt.data.toList) (Q:=Q) (st:=st) HlF.out.2.1;rw [← hGr,← hbo] at hFa;dsimp only at hFa;have HFa:=hid hFa;have HRd:Hid (∀ (Y:World) (va:Option Addr) (vn vc:Nat) (da:Option Addr) (dn dc:Nat),Below W3.heap.size W3 Y→HdAt Y (.slice va vn vc) LF→Calls Tryz.prog 31 #[.agg #[.string AS,.string AH,.int .i64 ap,.bool ao],.bool cr,.string mt,.slice qa 8 qk,.agg #[.int .i64 st,.slice va vn vc,.slice da dn dc]] Y (RdPost ⟨M,N,al,ag⟩ bok Y)):=fun Y va vn vc da dn dc hY hd=>by
    have h9:=HlF.out;have:=read19_any ⟨AS.data.toList,AH.data.toList,ap,ao⟩ cr mt (.slice qa 8 qk) Q st (.slice va vn vc) LF da dn dc Y (HG.out.kept (below2 HB3.out hY)) HOk.out (by omega) (HQ8.out.kept (below2 HB3.out hY)) (by have:=HQl.out;have:=Hqn.out;omega) Hq8.out hd (HzF.out.mono (by decide)) (by omega) (by omega)
    rw [← hGr,← hbo] at this;exact this
   clear hGr hbo hFa;refine wp_reg (rr_g19 _ _ _ _ _ _ _ _ _ _ _ _ _ _ _ _ _ _ _ _ _ _ _ _ _ _ _ _ _ _ _ _ _ _ _ _ _ _ _ _ _ _ _ _ _ _ _ _ _ _ _ _ _ _ _ _ _ _ _ _ _ _ _ _ _ _ _ _ _ _ _ _ _ _ _ _ _ _ _ _ _ _ _ _ _ _ _ _ _ _ _ _ _ _ _ _ _ _ _ _ _ _ _ _ _ _ _ _ _ _ _ _ _ _ W3 w2.heap.size w.heap.size cr mt qa 8 qk st va ba vn vc bn bc AS AH ap ao LF M N al bok ag HX3.out HR3.out HRp HRd _ ?hk)
   case hk=>
    intro u28 u29 u30 u31 u32 u33 u34 u27 u35 u36 b cM cN aM aN v1 hgr hoM hoN hbb hne hbv;have HQ1:=hid (below2 HB3.out hbv);have HGr:=hid hgr;have HM:=hid hoM;have HN:=hid hoN;clear hgr hoM hoN hbb hne hbv
    go_wp2_with fail
    refine (new19_any _).mono ?_;rintro e v2 ⟨rfl,hI2,hbv2⟩
    have HQ2:=hid (below2 HQ1.out hbv2);have hg2:=keptG19 hbv2 HGr.out;have HG2:=hid hg2;have HI2:=hid hI2;have HTM:=hid (own_txT (own_same HM.out hbv2));have HTN:=hid (own_txT (own_same HN.out hbv2));have HV1:=hid (show w.heap.size≤v1.heap.size from HQ1.out.size);have g0:v2.cell? ⟨b,0,none⟩=some (.slice aM M.length cM):=by rw [Lib.cell_of_heap hg2];rfl
    have g1:v2.cell? ⟨b,1,none⟩=some (.slice aN N.length cN):=by rw [Lib.cell_of_heap hg2];rfl
    have g2:v2.cell? ⟨b,2,none⟩=some (.bool al):=by rw [Lib.cell_of_heap hg2];rfl
    have g3:v2.cell? ⟨b,3,none⟩=some (.int .i64 ag):=by rw [Lib.cell_of_heap hg2];rfl
    clear hI2 hbv2 hg2
    cases bok with
    | false=>
      go_wp2_with fail
      refine (known19_any _ (HG.out.kept HQ2.out)).mono ?_;rintro e vk ⟨rfl,hbk⟩
      have HF:=hid (below2 (HQ2.out) hbk);clear hbk
      go_wp2_with fail
      go_ret
      exact ⟨rfl,HF.out⟩
    | true=>
      have hlen:=HFa.out.1;have hlen2:=HFa.out.2.1;have hwr:IntKind.i64.wrap ((M.length:Int)+(N.length:Int))=(M.length:Int)+(N.length:Int):=by rw [IntKind.wrap_i64];omega
      by_cases h32:32≤M.length+N.length
      ·have h32i:(32:Int)≤(M.length:Int)+(N.length:Int):=by omega
       go_wp2_with fail
       refine (known19_any _ (HG.out.kept HQ2.out)).mono ?_;rintro e vk ⟨rfl,hbk⟩
       have HF:=hid (below2 (HQ2.out) hbk);clear hbk
       go_wp2_with fail
       go_ret
       exact ⟨rfl,HF.out⟩
      have h32i:(M.length:Int)+(N.length:Int)<32:=by omega
      have h32j: ¬ (32:Int)≤(M.length:Int)+(N.length:Int):=by omega
      go_wp2_with fail
      refine (HWi.out _).mono ?_;rintro e v2' ⟨rfl,rfl⟩
      have HP:=hid (put_any19 v1.heap.size [] ⟨#[115]⟩ ⟨#[117]⟩ cr (.slice aM M.length cM) (.slice aN N.length cN) M N al ag 50 v2 HI2.out (by decide) HTM.out HTN.out hlen hlen2 HFa.out.2.2.1 (by decide) (by have:=HFa.out.2.2.2.1;omega))
      go_wp2_with fail
      refine HP.out.mono ?_;rintro e v3 ⟨rfl,hI3,hq3⟩
      have HI3:=hid hI3;have HB3v:=hid (show Below w.heap.size w v3 from HQ2.out.trans (hq3.1.mono HV1.out));have HG3:=hid (tq_kept hq3 HG2.out (by decide) (by decide));have HT1:=hid (putsT_len ag 50 (rtsV [115] [117] cr M N al) [] (by decide));have HAl:Hid (∀ Y,Below v3.heap.size v3 Y→Calls Tryz.prog 36 #[.pointer (some ⟨v1.heap.size,0,none⟩),.string ⟨#[115]⟩,.string ⟨#[117]⟩,.bool cr,.string mt,.slice qa 8 qk,.int .i64 (50+tm)] Y fun e w'=>e = .returned (.bool (decide (tm<ag)||(simM mt.data.toList&&decide (8=0))))∧Below Y.heap.size Y w'):=fun Y hY=>by
       have h9:=HlF.out;have:=allows19_any v1.heap.size _ ⟨#[115]⟩ ⟨#[117]⟩ mt cr (.slice qa 8 qk) Q (50+tm) Y (HI3.out.kept hY) (by have:=HT1.out;omega) (by omega) (HQ8.out.kept (below2 HB3v.out hY)) (by have:=HQl.out;have:=Hqn.out;omega) Hq8.out
       rw [show (⟨#[115]⟩:ByteArray).data.toList=[115] from rfl,show (⟨#[117]⟩:ByteArray).data.toList=[117] from rfl,grants_plain cr mt.data.toList Q M N al ag tm HFa.out.2.2.2.1.1 HtB.out.1 (by omega) HFa.out.2.2.2.2.1 HFa.out.2.2.2.2.2.1 (HFa.out.2.2.2.2.2.2 (by first | trivial | rfl)) [115] [117],HQd.out] at this;exact this
      clear hI3 hq3 g0 g1 g2 g3 hwr;by_cases h1:mt.data.toList=[71,69,84]
      ·as_aux_lemma=>
        have hsm:simM mt.data.toList=true:=by rw [h1];rfl
        rw [hsm] at HAl;have e1:=lst_yes h1;clear h1 hsm;subst e1
        go_upto_region 14 with fail
        refine wp_reg (rr_h19 _ _ _ _ _ _ _ _ _ _ _ _ _ _ _ _ _ _ _ _ _ _ _ _ _ _ _ _ _ _ _ _ _ _ _ _ _ _ _ _ _ _ _ _ _ _ _ _ _ _ _ _ _ _ _ _ _ _ _ _ _ _ _ _ _ _ _ _ _ _ _ _ _ _ _ _ _ _ _ _ _ _ _ _ _ _ _ _ _ _ _ _ _ _ _ _ _ _ _ _ _ _ _ _ _ _ _ _ _ _ _ _ v3 v1.heap.size b cr _ qa 8 qk tm ag (.slice aM M.length cM) (.slice aN N.length cN) (.bool al) true HG3.out HtB.out Hqn.out HAl _ ?hk1)
        case hk1=>
         intro y70 y71 y72 y73 y74 y75 y76 y77 y78 y79 y80 y81 y82 y83 y84 y85 y86 y87 y88 v5 hb5;have HB5:=hid (below2 HB3v.out hb5);clear hb5
         go_wp2_with fail
         refine (known19_any _ (HG.out.kept HB5.out)).mono ?_;rintro e vk ⟨rfl,hbk⟩
         have HF:=hid (below2 (HB5.out) hbk);clear hbk
         go_wp2_with fail
         go_ret
         exact ⟨rfl,HF.out⟩
      by_cases h2:mt.data.toList=[72,69,65,68]
      ·as_aux_lemma=>
        have hsm:simM mt.data.toList=true:=by rw [h2];rfl
        rw [hsm] at HAl;have e1:=lst_yes h2;clear h2 hsm;subst e1
        go_upto_region 14 with fail
        refine wp_reg (rr_h19 _ _ _ _ _ _ _ _ _ _ _ _ _ _ _ _ _ _ _ _ _ _ _ _ _ _ _ _ _ _ _ _ _ _ _ _ _ _ _ _ _ _ _ _ _ _ _ _ _ _ _ _ _ _ _ _ _ _ _ _ _ _ _ _ _ _ _ _ _ _ _ _ _ _ _ _ _ _ _ _ _ _ _ _ _ _ _ _ _ _ _ _ _ _ _ _ _ _ _ _ _ _ _ _ _ _ _ _ _ _ _ _ v3 v1.heap.size b cr _ qa 8 qk tm ag (.slice aM M.length cM) (.slice aN N.length cN) (.bool al) true HG3.out HtB.out Hqn.out HAl _ ?hk2)
        case hk2=>
         intro y70 y71 y72 y73 y74 y75 y76 y77 y78 y79 y80 y81 y82 y83 y84 y85 y86 y87 y88 v5 hb5;have HB5:=hid (below2 HB3v.out hb5);clear hb5
         go_wp2_with fail
         refine (known19_any _ (HG.out.kept HB5.out)).mono ?_;rintro e vk ⟨rfl,hbk⟩
         have HF:=hid (below2 (HB5.out) hbk);clear hbk
         go_wp2_with fail
         go_ret
         exact ⟨rfl,HF.out⟩
      by_cases h3:mt.data.toList=[80,79,83,84]
      ·as_aux_lemma=>
        have hsm:simM mt.data.toList=true:=by rw [h3];rfl
        rw [hsm] at HAl;have e1:=lst_yes h3;clear h3 hsm;subst e1
        go_upto_region 14 with fail
        refine wp_reg (rr_h19 _ _ _ _ _ _ _ _ _ _ _ _ _ _ _ _ _ _ _ _ _ _ _ _ _ _ _ _ _ _ _ _ _ _ _ _ _ _ _ _ _ _ _ _ _ _ _ _ _ _ _ _ _ _ _ _ _ _ _ _ _ _ _ _ _ _ _ _ _ _ _ _ _ _ _ _ _ _ _ _ _ _ _ _ _ _ _ _ _ _ _ _ _ _ _ _ _ _ _ _ _ _ _ _ _ _ _ _ _ _ _ _ v3 v1.heap.size b cr _ qa 8 qk tm ag (.slice aM M.length cM) (.slice aN N.length cN) (.bool al) true HG3.out HtB.out Hqn.out HAl _ ?hk3)
        case hk3=>
         intro y70 y71 y72 y73 y74 y75 y76 y77 y78 y79 y80 y81 y82 y83 y84 y85 y86 y87 y88 v5 hb5;have HB5:=hid (below2 HB3v.out hb5);clear hb5
         go_wp2_with fail
         refine (known19_any _ (HG.out.kept HB5.out)).mono ?_;rintro e vk ⟨rfl,hbk⟩
         have HF:=hid (below2 (HB5.out) hbk);clear hbk
         go_wp2_with fail
         go_ret
         exact ⟨rfl,HF.out⟩
      have m1:=lst_ne h1;have m2:=lst_ne h2;have m3:=lst_ne h3;have hsm:simM mt.data.toList=false:=by unfold simM;simp [h1,h2,h3]
      rw [hsm] at HAl;have HNo:Hid (∀ (S U:ByteArray) (c':Bool) (Y:World),¬ (S.data.toList=[115]∧U.data.toList=[117]∧c'=cr)→Below w.heap.size w Y→TbI Y v1.heap.size (putsT ag 50 (rtsV [115] [117] cr M N al) [])→Calls Tryz.prog 36 #[.pointer (some ⟨v1.heap.size,0,none⟩),.string S,.string U,.bool c',.string mt,.slice qa 8 qk,.int .i64 50] Y fun e w'=>e = .returned (.bool false)∧Below Y.heap.size Y w'):=fun S U c' Y hne hY hI=>by
       have h9:=HlF.out;have:=allows19_any v1.heap.size _ S U mt c' (.slice qa 8 qk) Q 50 Y hI (by have:=HT1.out;omega) (by omega) (HQ8.out.kept hY) (by have:=HQl.out;have:=Hqn.out;omega) Hq8.out
       rw [grants_other cr mt.data.toList Q M N al ag HFa.out.2.2.2.1.1 (by omega) hsm [115] [117] S.data.toList U.data.toList c' hne] at this;exact this
      clear h1 h2 h3 hsm
      go_upto_region 14 with fail
      refine wp_reg (rr_h19 _ _ _ _ _ _ _ _ _ _ _ _ _ _ _ _ _ _ _ _ _ _ _ _ _ _ _ _ _ _ _ _ _ _ _ _ _ _ _ _ _ _ _ _ _ _ _ _ _ _ _ _ _ _ _ _ _ _ _ _ _ _ _ _ _ _ _ _ _ _ _ _ _ _ _ _ _ _ _ _ _ _ _ _ _ _ _ _ _ _ _ _ _ _ _ _ _ _ _ _ _ _ _ _ _ _ _ _ _ _ _ _ v3 v1.heap.size b cr mt qa 8 qk tm ag (.slice aM M.length cM) (.slice aN N.length cN) (.bool al) false HG3.out HtB.out Hqn.out HAl _ ?hk4)
      case hk4=>
       intro y70 y71 y72 y73 y74 y75 y76 y77 y78 y79 y80 y81 y82 y83 y84 y85 y86 y87 y88 v5 hb5;have HB5:=hid (below2 HB3v.out hb5);have HI5:=hid (HI3.out.kept hb5);clear hb5
       go_wp2_with fail
       refine (HNo.out ⟨#[116]⟩ ⟨#[117]⟩ cr _ (fun h=>absurd h.1 (by decide)) HB5.out HI5.out).mono ?_;rintro e v6 ⟨rfl,hb6⟩
       have HB6:=hid (below2 HB5.out hb6);have HI6:=hid (HI5.out.kept hb6);clear hb6
       go_wp2_with fail
       refine (HNo.out ⟨#[115]⟩ ⟨#[118]⟩ cr _ (fun h=>absurd h.2.1 (by decide)) HB6.out HI6.out).mono ?_;rintro e v7 ⟨rfl,hb7⟩
       have HB7:=hid (below2 HB6.out hb7);have HI7:=hid (HI6.out.kept hb7);clear hb7
       go_wp2_with fail
       refine (HNo.out ⟨#[115]⟩ ⟨#[117]⟩ (!cr) _ (fun h=>by cases cr<;>exact absurd h.2.2 (by decide)) HB7.out HI7.out).mono ?_;rintro e v8 ⟨rfl,hb8⟩
       have HB8:=hid (below2 HB7.out hb8);clear hb8
       go_wp2_with fail
       refine (known19_any _ (HG.out.kept HB8.out)).mono ?_;rintro e vk ⟨rfl,hbk⟩
       have HF:=hid (below2 (HB8.out) hbk);clear hbk
       go_wp2_with fail
       go_ret
       exact ⟨rfl,HF.out⟩
 have h8i: ¬ (8:Int)<(n0:Int):=by omega
 have h8j:(n0:Int)≤8:=by omega
 obtain ⟨Q,hQd⟩: ∃ Q,Q=Q0:=⟨_,rfl⟩
 subst hQd;have HQ8:=hid HQ.out;have Hq8:=hid Hqs.out;have HQl:=hid Hn0.out.symm;have HQd:=hid (show decide (Q=[])=decide (n0=0) by rw [decide_eq_decide];have hh:=Hn0.out;exact ⟨fun h=>by rw [h] at hh;simpa using hh,fun h=>List.eq_nil_of_length_eq_zero (by omega)⟩);have Hqn:=hid (show n0≤9223372036854775807 by omega)
 go_upto_region 5 with fail
 obtain ⟨⟨M,N,al,ag⟩,hGr⟩: ∃ G,G=rdG (textO ⟨AS.data.toList,AH.data.toList,ap,ao⟩) cr mt.data.toList Q st LF:=⟨_,rfl⟩
 obtain ⟨bok,hbo⟩: ∃ b,b=rdB (textO ⟨AS.data.toList,AH.data.toList,ap,ao⟩) cr mt.data.toList Q st LF:=⟨_,rfl⟩
 have hFa:=rdGfacts19 (t:=textO ⟨AS.data.toList,AH.data.toList,ap,ao⟩) (c:=cr) (m:=mt.data.toList) (Q:=Q) (st:=st) HlF.out.2.1;rw [← hGr,← hbo] at hFa;dsimp only at hFa;have HFa:=hid hFa;have HRd:Hid (∀ (Y:World) (va:Option Addr) (vn vc:Nat) (da:Option Addr) (dn dc:Nat),Below W3.heap.size W3 Y→HdAt Y (.slice va vn vc) LF→Calls Tryz.prog 31 #[.agg #[.string AS,.string AH,.int .i64 ap,.bool ao],.bool cr,.string mt,.slice qa n0 qk,.agg #[.int .i64 st,.slice va vn vc,.slice da dn dc]] Y (RdPost ⟨M,N,al,ag⟩ bok Y)):=fun Y va vn vc da dn dc hY hd=>by
  have h9:=HlF.out;have:=read19_any ⟨AS.data.toList,AH.data.toList,ap,ao⟩ cr mt (.slice qa n0 qk) Q st (.slice va vn vc) LF da dn dc Y (HG.out.kept (below2 HB3.out hY)) HOk.out (by omega) (HQ8.out.kept (below2 HB3.out hY)) (by have:=HQl.out;have:=Hqn.out;omega) Hq8.out hd (HzF.out.mono (by decide)) (by omega) (by omega)
  rw [← hGr,← hbo] at this;exact this
 clear hGr hbo hFa;refine wp_reg (rr_g19 _ _ _ _ _ _ _ _ _ _ _ _ _ _ _ _ _ _ _ _ _ _ _ _ _ _ _ _ _ _ _ _ _ _ _ _ _ _ _ _ _ _ _ _ _ _ _ _ _ _ _ _ _ _ _ _ _ _ _ _ _ _ _ _ _ _ _ _ _ _ _ _ _ _ _ _ _ _ _ _ _ _ _ _ _ _ _ _ _ _ _ _ _ _ _ _ _ _ _ _ _ _ _ _ _ _ _ _ _ _ _ _ _ _ W3 w2.heap.size w.heap.size cr mt qa n0 qk st va ba vn vc bn bc AS AH ap ao LF M N al bok ag HX3.out HR3.out HRp HRd _ ?hk)
 case hk=>
  intro u28 u29 u30 u31 u32 u33 u34 u27 u35 u36 b cM cN aM aN v1 hgr hoM hoN hbb hne hbv;have HQ1:=hid (below2 HB3.out hbv);have HGr:=hid hgr;have HM:=hid hoM;have HN:=hid hoN;clear hgr hoM hoN hbb hne hbv
  go_wp2_with fail
  refine (new19_any _).mono ?_;rintro e v2 ⟨rfl,hI2,hbv2⟩
  have HQ2:=hid (below2 HQ1.out hbv2);have hg2:=keptG19 hbv2 HGr.out;have HG2:=hid hg2;have HI2:=hid hI2;have HTM:=hid (own_txT (own_same HM.out hbv2));have HTN:=hid (own_txT (own_same HN.out hbv2));have HV1:=hid (show w.heap.size≤v1.heap.size from HQ1.out.size);have g0:v2.cell? ⟨b,0,none⟩=some (.slice aM M.length cM):=by rw [Lib.cell_of_heap hg2];rfl
  have g1:v2.cell? ⟨b,1,none⟩=some (.slice aN N.length cN):=by rw [Lib.cell_of_heap hg2];rfl
  have g2:v2.cell? ⟨b,2,none⟩=some (.bool al):=by rw [Lib.cell_of_heap hg2];rfl
  have g3:v2.cell? ⟨b,3,none⟩=some (.int .i64 ag):=by rw [Lib.cell_of_heap hg2];rfl
  clear hI2 hbv2 hg2
  cases bok with
  | false=>
    go_wp2_with fail
    refine (known19_any _ (HG.out.kept HQ2.out)).mono ?_;rintro e vk ⟨rfl,hbk⟩
    have HF:=hid (below2 (HQ2.out) hbk);clear hbk
    go_wp2_with fail
    go_ret
    exact ⟨rfl,HF.out⟩
  | true=>
    have hlen:=HFa.out.1;have hlen2:=HFa.out.2.1;have hwr:IntKind.i64.wrap ((M.length:Int)+(N.length:Int))=(M.length:Int)+(N.length:Int):=by rw [IntKind.wrap_i64];omega
    by_cases h32:32≤M.length+N.length
    ·have h32i:(32:Int)≤(M.length:Int)+(N.length:Int):=by omega
     go_wp2_with fail
     refine (known19_any _ (HG.out.kept HQ2.out)).mono ?_;rintro e vk ⟨rfl,hbk⟩
     have HF:=hid (below2 (HQ2.out) hbk);clear hbk
     go_wp2_with fail
     go_ret
     exact ⟨rfl,HF.out⟩
    have h32i:(M.length:Int)+(N.length:Int)<32:=by omega
    have h32j: ¬ (32:Int)≤(M.length:Int)+(N.length:Int):=by omega
    go_wp2_with fail
    refine (HWi.out _).mono ?_;rintro e v2' ⟨rfl,rfl⟩
    have HP:=hid (put_any19 v1.heap.size [] ⟨#[115]⟩ ⟨#[117]⟩ cr (.slice aM M.length cM) (.slice aN N.length cN) M N al ag 50 v2 HI2.out (by decide) HTM.out HTN.out hlen hlen2 HFa.out.2.2.1 (by decide) (by have:=HFa.out.2.2.2.1;omega))
    go_wp2_with fail
    refine HP.out.mono ?_;rintro e v3 ⟨rfl,hI3,hq3⟩
    have HI3:=hid hI3;have HB3v:=hid (show Below w.heap.size w v3 from HQ2.out.trans (hq3.1.mono HV1.out));have HG3:=hid (tq_kept hq3 HG2.out (by decide) (by decide));have HT1:=hid (putsT_len ag 50 (rtsV [115] [117] cr M N al) [] (by decide));have HAl:Hid (∀ Y,Below v3.heap.size v3 Y→Calls Tryz.prog 36 #[.pointer (some ⟨v1.heap.size,0,none⟩),.string ⟨#[115]⟩,.string ⟨#[117]⟩,.bool cr,.string mt,.slice qa n0 qk,.int .i64 (50+tm)] Y fun e w'=>e = .returned (.bool (decide (tm<ag)||(simM mt.data.toList&&decide (n0=0))))∧Below Y.heap.size Y w'):=fun Y hY=>by
     have h9:=HlF.out;have:=allows19_any v1.heap.size _ ⟨#[115]⟩ ⟨#[117]⟩ mt cr (.slice qa n0 qk) Q (50+tm) Y (HI3.out.kept hY) (by have:=HT1.out;omega) (by omega) (HQ8.out.kept (below2 HB3v.out hY)) (by have:=HQl.out;have:=Hqn.out;omega) Hq8.out
     rw [show (⟨#[115]⟩:ByteArray).data.toList=[115] from rfl,show (⟨#[117]⟩:ByteArray).data.toList=[117] from rfl,grants_plain cr mt.data.toList Q M N al ag tm HFa.out.2.2.2.1.1 HtB.out.1 (by omega) HFa.out.2.2.2.2.1 HFa.out.2.2.2.2.2.1 (HFa.out.2.2.2.2.2.2 (by first | trivial | rfl)) [115] [117],HQd.out] at this;exact this
    clear hI3 hq3 g0 g1 g2 g3 hwr;by_cases h1:mt.data.toList=[71,69,84]
    ·as_aux_lemma=>
      have hsm:simM mt.data.toList=true:=by rw [h1];rfl
      rw [hsm] at HAl;have e1:=lst_yes h1;clear h1 hsm;subst e1
      go_upto_region 14 with fail
      refine wp_reg (rr_h19 _ _ _ _ _ _ _ _ _ _ _ _ _ _ _ _ _ _ _ _ _ _ _ _ _ _ _ _ _ _ _ _ _ _ _ _ _ _ _ _ _ _ _ _ _ _ _ _ _ _ _ _ _ _ _ _ _ _ _ _ _ _ _ _ _ _ _ _ _ _ _ _ _ _ _ _ _ _ _ _ _ _ _ _ _ _ _ _ _ _ _ _ _ _ _ _ _ _ _ _ _ _ _ _ _ _ _ _ _ _ _ _ v3 v1.heap.size b cr _ qa n0 qk tm ag (.slice aM M.length cM) (.slice aN N.length cN) (.bool al) true HG3.out HtB.out Hqn.out HAl _ ?hk1)
      case hk1=>
       intro y70 y71 y72 y73 y74 y75 y76 y77 y78 y79 y80 y81 y82 y83 y84 y85 y86 y87 y88 v5 hb5;have HB5:=hid (below2 HB3v.out hb5);clear hb5
       go_wp2_with fail
       refine (known19_any _ (HG.out.kept HB5.out)).mono ?_;rintro e vk ⟨rfl,hbk⟩
       have HF:=hid (below2 (HB5.out) hbk);clear hbk
       go_wp2_with fail
       go_ret
       exact ⟨rfl,HF.out⟩
    by_cases h2:mt.data.toList=[72,69,65,68]
    ·as_aux_lemma=>
      have hsm:simM mt.data.toList=true:=by rw [h2];rfl
      rw [hsm] at HAl;have e1:=lst_yes h2;clear h2 hsm;subst e1
      go_upto_region 14 with fail
      refine wp_reg (rr_h19 _ _ _ _ _ _ _ _ _ _ _ _ _ _ _ _ _ _ _ _ _ _ _ _ _ _ _ _ _ _ _ _ _ _ _ _ _ _ _ _ _ _ _ _ _ _ _ _ _ _ _ _ _ _ _ _ _ _ _ _ _ _ _ _ _ _ _ _ _ _ _ _ _ _ _ _ _ _ _ _ _ _ _ _ _ _ _ _ _ _ _ _ _ _ _ _ _ _ _ _ _ _ _ _ _ _ _ _ _ _ _ _ v3 v1.heap.size b cr _ qa n0 qk tm ag (.slice aM M.length cM) (.slice aN N.length cN) (.bool al) true HG3.out HtB.out Hqn.out HAl _ ?hk2)
      case hk2=>
       intro y70 y71 y72 y73 y74 y75 y76 y77 y78 y79 y80 y81 y82 y83 y84 y85 y86 y87 y88 v5 hb5;have HB5:=hid (below2 HB3v.out hb5);clear hb5
       go_wp2_with fail
       refine (known19_any _ (HG.out.kept HB5.out)).mono ?_;rintro e vk ⟨rfl,hbk⟩
       have HF:=hid (below2 (HB5.out) hbk);clear hbk
       go_wp2_with fail
       go_ret
       exact ⟨rfl,HF.out⟩
    by_cases h3:mt.data.toList=[80,79,83,84]
    ·as_aux_lemma=>
      have hsm:simM mt.data.toList=true:=by rw [h3];rfl
      rw [hsm] at HAl;have e1:=lst_yes h3;clear h3 hsm;subst e1
      go_upto_region 14 with fail
      refine wp_reg (rr_h19 _ _ _ _ _ _ _ _ _ _ _ _ _ _ _ _ _ _ _ _ _ _ _ _ _ _ _ _ _ _ _ _ _ _ _ _ _ _ _ _ _ _ _ _ _ _ _ _ _ _ _ _ _ _ _ _ _ _ _ _ _ _ _ _ _ _ _ _ _ _ _ _ _ _ _ _ _ _ _ _ _ _ _ _ _ _ _ _ _ _ _ _ _ _ _ _ _ _ _ _ _ _ _ _ _ _ _ _ _ _ _ _ v3 v1.heap.size b cr _ qa n0 qk tm ag (.slice aM M.length cM) (.slice aN N.length cN) (.bool al) true HG3.out HtB.out Hqn.out HAl _ ?hk3)
      case hk3=>
       intro y70 y71 y72 y73 y74 y75 y76 y77 y78 y79 y80 y81 y82 y83 y84 y85 y86 y87 y88 v5 hb5;have HB5:=hid (below2 HB3v.out hb5);clear hb5
       go_wp2_with fail
       refine (known19_any _ (HG.out.kept HB5.out)).mono ?_;rintro e vk ⟨rfl,hbk⟩
       have HF:=hid (below2 (HB5.out) hbk);clear hbk
       go_wp2_with fail
       go_ret
       exact ⟨rfl,HF.out⟩
    have m1:=lst_ne h1;have m2:=lst_ne h2;have m3:=lst_ne h3;have hsm:simM mt.data.toList=false:=by unfold simM;simp [h1,h2,h3]
    rw [hsm] at HAl;have HNo:Hid (∀ (S U:ByteArray) (c':Bool) (Y:World),¬ (S.data.toList=[115]∧U.data.toList=[117]∧c'=cr)→Below w.heap.size w Y→TbI Y v1.heap.size (putsT ag 50 (rtsV [115] [117] cr M N al) [])→Calls Tryz.prog 36 #[.pointer (some ⟨v1.heap.size,0,none⟩),.string S,.string U,.bool c',.string mt,.slice qa n0 qk,.int .i64 50] Y fun e w'=>e = .returned (.bool false)∧Below Y.heap.size Y w'):=fun S U c' Y hne hY hI=>by
     have h9:=HlF.out;have:=allows19_any v1.heap.size _ S U mt c' (.slice qa n0 qk) Q 50 Y hI (by have:=HT1.out;omega) (by omega) (HQ8.out.kept hY) (by have:=HQl.out;have:=Hqn.out;omega) Hq8.out
     rw [grants_other cr mt.data.toList Q M N al ag HFa.out.2.2.2.1.1 (by omega) hsm [115] [117] S.data.toList U.data.toList c' hne] at this;exact this
    clear h1 h2 h3 hsm
    go_upto_region 14 with fail
    refine wp_reg (rr_h19 _ _ _ _ _ _ _ _ _ _ _ _ _ _ _ _ _ _ _ _ _ _ _ _ _ _ _ _ _ _ _ _ _ _ _ _ _ _ _ _ _ _ _ _ _ _ _ _ _ _ _ _ _ _ _ _ _ _ _ _ _ _ _ _ _ _ _ _ _ _ _ _ _ _ _ _ _ _ _ _ _ _ _ _ _ _ _ _ _ _ _ _ _ _ _ _ _ _ _ _ _ _ _ _ _ _ _ _ _ _ _ _ v3 v1.heap.size b cr mt qa n0 qk tm ag (.slice aM M.length cM) (.slice aN N.length cN) (.bool al) false HG3.out HtB.out Hqn.out HAl _ ?hk4)
    case hk4=>
     intro y70 y71 y72 y73 y74 y75 y76 y77 y78 y79 y80 y81 y82 y83 y84 y85 y86 y87 y88 v5 hb5;have HB5:=hid (below2 HB3v.out hb5);have HI5:=hid (HI3.out.kept hb5);clear hb5
     go_wp2_with fail
     refine (HNo.out ⟨#[116]⟩ ⟨#[117]⟩ cr _ (fun h=>absurd h.1 (by decide)) HB5.out HI5.out).mono ?_;rintro e v6 ⟨rfl,hb6⟩
     have HB6:=hid (below2 HB5.out hb6);have HI6:=hid (HI5.out.kept hb6);clear hb6
     go_wp2_with fail
     refine (HNo.out ⟨#[115]⟩ ⟨#[118]⟩ cr _ (fun h=>absurd h.2.1 (by decide)) HB6.out HI6.out).mono ?_;rintro e v7 ⟨rfl,hb7⟩
     have HB7:=hid (below2 HB6.out hb7);have HI7:=hid (HI6.out.kept hb7);clear hb7
     go_wp2_with fail
     refine (HNo.out ⟨#[115]⟩ ⟨#[117]⟩ (!cr) _ (fun h=>by cases cr<;>exact absurd h.2.2 (by decide)) HB7.out HI7.out).mono ?_;rintro e v8 ⟨rfl,hb8⟩
     have HB8:=hid (below2 HB7.out hb8);clear hb8
     go_wp2_with fail
     refine (known19_any _ (HG.out.kept HB8.out)).mono ?_;rintro e vk ⟨rfl,hbk⟩
     have HF:=hid (below2 (HB8.out) hbk);clear hbk
     go_wp2_with fail
     go_ret
     exact ⟨rfl,HF.out⟩

end Go.Proofs.YtolioccofbhliaaGreatDoor
