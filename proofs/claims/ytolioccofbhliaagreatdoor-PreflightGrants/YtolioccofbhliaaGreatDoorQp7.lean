/-
  Walks and plain facts that this claim leans on, put together out of 1 texts: Th.
-/
import Derived.Test.YtolioccofbhliaaGreatDoorProg
import Derived.Test.YtolioccofbhliaaGreatDoorQp1
import Derived.Test.YtolioccofbhliaaGreatDoorQp2
import Derived.Test.YtolioccofbhliaaGreatDoorQp3
import Derived.Test.YtolioccofbhliaaGreatDoorQp4
import Derived.Test.YtolioccofbhliaaGreatDoorQp5
import Derived.Test.YtolioccofbhliaaGreatDoorQp6
import Derived.Lib.IndexMore
import Derived.Lib.Join
import Derived.Lib.LastIndexByte
import Derived.WalkKit
import Derived.Lib.Strings
import Derived.Lib.UnsafeStr
import Derived.Laws.IdiomStrings
import Derived.Laws.AppendOwn
import Derived.Laws.BitsAllLaws
import Derived.Lib.Bytealg
import Derived.Lib.BufferMore
import Derived.LoopN
import Derived.RegionTactic
import Derived.Deep.RegionWith
import Derived.Deep.QuietTactic
import Derived.BigQuiet
import Derived.Laws.OwnMore
import Derived.Shelf.Strings.Builder1
import Derived.Shelf.Strings.Builder2
import Derived.Shelf.Strings.OnBuilder
import Derived.Shelf.Strings.Trim
import Derived.Shelf.Small.Utf8
import Derived.Shelf.Small.Bits
import Derived.Shelf.Small.Strs
import Derived.Shelf.Small.Wraps
import Derived.Shelf.Strings.BuilderF
import Derived.Shelf.Strings.BuilderK
import Derived.Shelf.Strings.Builder2Cap
import Derived.Shelf.Strconv.Itoa0
import Derived.Shelf.Strconv.Itoa1
import Derived.Shelf.LaysM
import Derived.Shelf.Strconv.Itoa2
import Derived.Shelf.Strconv.Itoa3
import Derived.Shelf.Strings.Search1
import Derived.Shelf.Strings.Search2
import Derived.Shelf.Strings.Cut
import Derived.Shelf.Strings.Shaped
import Derived.Shelf.Sort.Plain
import Derived.Shelf.Strings.Prefix
import Derived.Shelf.Strings.Runes
import Derived.Shelf.Strings.IndexAny
import Derived.Shelf.Strings.AsciiSet
import Derived.Shelf.Strings.IndexAnyAll
import Derived.Shelf.Unicode.DecodeSlow
import Derived.Shelf.Unicode.DecodeAny
import Derived.Shelf.Unicode.DecodeLast
import Derived.Shelf.Slices.CompactS
import Derived.Shelf.Slices.In.SortNone
import Derived.Ground.SlgnProg
import Derived.Shelf.SlicesE.Compact
import Derived.Ground.SlgfProg
import Derived.Shelf.SlicesE.IndexFunc
import Derived.Shelf.SlicesE.DeleteFunc
import Derived.Laws.AppendOwnNone
import Derived.Scope
import Derived.ScopeJumps
import Derived.WalkMore
import Derived.Lib.IndexAny
import Derived.Lib.Replace
import Derived.Lib.TrimByte
import Derived.Lib.ItoaNum
import Derived.Laws.RangeAny
import Derived.Lib.DecodeN
import Derived.Lib.OthersKept
import Derived.Deep.LoopGhost
import Derived.Laws.BytesString
import Derived.Deep.WholeRow
import Derived.BigRegion
import Derived.WalkSpells
import Derived.WalkLawsBesides
import Derived.Lib.AppendIntMem
import Derived.Lib.SmallJoins
import Derived.WalkSmall
import Derived.OwnWalk
import Derived.Laws.CopyOwn
import Derived.Laws.ResultCell
import Derived.Deep.MidRow
import Derived.Lib.FrozenHead2
import Derived.Lib.Builder
import Derived.Deep.RegionLaw
set_option linter.unusedSimpArgs false
set_option linter.unusedVariables false

namespace Go.Proofs.YtolioccofbhliaaGreatDoor
open Go.RowKit

set_option maxHeartbeats 2000000 in
set_option maxRecDepth 100000 in
theorem rcut_own (s:ByteArray) (c:UInt8) (w:World) (hs:s.size≤1000000):
 Calls Tryz.prog 254 #[.string s,.int .u8 (c.toNat:Int)] w (OwnPost (cutL c s.data.toList) w):=by
 obtain ⟨i0,hi,hz0,hz1,hz2⟩:=info_parts infoStr
 have hc8:=c.toNat_lt
 go_enter Tryz.func254,Tryz.ntmps254
 go_wp2
 go_loopw [5,6,7] (fun v fr i wr=> ∃ (k j:Nat) (out:List (List UInt8)),j≤k∧k≤s.size+1∧i = .int .i64 k∧fr = .int .i64 j∧out.length≤k∧wr.ownsRow w.heap.size 9 1 v out.length (cellsS out)∧Below w.heap.size w wr ∧
  ((k≤s.size∧cutL c s.data.toList=out++cutL c (s.data.toList.drop j)∧c ∉ (s.extract j k).data.toList)∨(k=s.size+1∧out=cutL c s.data.toList)))
  (fun _ _ i _=>s.size+1 - (intOf i).toNat)
 case atStart=>exact ⟨0,0,[],Nat.le_refl _,by omega,rfl,rfl,Nat.le_refl _,own_nil _ _ _,Below.refl _ w,.inl ⟨by omega,rfl,by rw [ext_take];simp⟩⟩
 case round=>
  obtain ⟨k,j,out,hjk,hk,rfl,rfl,hol,hown,hbw,hor⟩:=hrel
  have HO:=hid hown;clear hown;have hbs:=hbw.size;rcases hor with ⟨hks,hcut,hno⟩ | ⟨hks,hout⟩
  ·have HC:=hid hcut
   have HN:=hid hno;clear hcut hno;have hks':(k:Int)≤(s.size:Int):=by omega
   have hjk':(j:Int)≤(k:Int):=by omega
   obtain ⟨X,hX⟩: ∃ X:ByteArray,X=s.extract j k:=⟨_,rfl⟩
   by_cases hlt:k<s.size
   ·have hlt':((k:Int)==(s.size:Int))=false:=by rw [beq_eq_false_iff_ne];omega
    have hb8:s[k].toNat<256:=s[k].toNat_lt;have HD:=hid (drop_split s j k hjk hlt);by_cases he:s[k]=c
    ·have he':(s[k].toNat:Int)=(c.toNat:Int):=by rw [he]
     have HE:=hid he;have HX:=hid hX;clear hX he
     go_wp2_with (at_builtin;go_must (refine wpList_append_own _ rfl _ _ 50 rfl w.heap.size 9 i0 (.string ⟨#[]⟩) 1 16 Tryz.underlying50 hi hz0 hz1 hz2 rfl (by decide) _ _ _ rfl (HO.out.alloc _) ⟨wr.heap.size,0,none⟩ 1 1 [.string (s.extract j k)] rfl rfl ?c1 ?c2 ?c3 ?c4 ?c5 ?_))
     case c1=>
      intro q u hq
      match q,hq with
      | 0,hq=>simp at hq;subst hq;simp [Addr.add]
     case c2=>intro u hu;simp at hu;subst hu;rfl
     case c3=>unfold maxLen;omega
     case c4=>omega
     case c5=>simp;omega
     intro v' w2 hown' hgrow hnil;have HO2:=hid hown';have HB2:=hid (show Below w.heap.size w w2 from (hbw.alloc hbw.size _).grown hgrow (by simp;omega) (fun g hg=>(HO.out.lt g hg).1));clear hown' hgrow hnil
     go_wp2
     go_roundw
     case rel=>
      refine ⟨k+1,k+1,out++[(s.extract j k).data.toList],by omega,by omega,by go_num,by go_num,by simp;omega,?_,HB2.out,.inl ⟨by omega,?_,by rw [ext_take];simp⟩⟩
      ·rw [cellsS_app,cellsS_one,List.length_append]
       exact HO2.out
      ·have h1:=HC.out
       rw [HD.out,HE.out,cutL_some c _ _ HN.out] at h1
       rw [h1];simp
     case measure=>simp [intOf];omega
    ·have he':((s[k].toNat:Int)==(c.toNat:Int))=false:=by
      rw [beq_eq_false_iff_ne];intro e;exact he (UInt8.toNat_inj.1 (by omega))
     have HE:=hid he;clear he hX
     go_wp2
     go_roundw
     case rel=>
      refine ⟨k+1,j,out,by omega,by omega,by go_num,rfl,by omega,HO.out,hbw,.inl ⟨by omega,HC.out,?_⟩⟩;rw [ext_take,show k+1 - j=(k - j)+1 by omega,List.take_add_one]
      have h2:=HN.out;rw [ext_take] at h2;rw [List.mem_append];rintro (h | h)
      ·exact h2 h
      ·rw [List.getElem?_drop,show j+(k - j)=k by omega] at h
       have h3:s.data.toList[k]? = some s[k]:=by
        rw [List.getElem?_eq_getElem (by simpa using hlt)];rfl
       rw [h3] at h;simp at h;exact HE.out h.symm
     case measure=>simp [intOf];omega
   ·have hke:k=s.size:=by omega
    subst hke;have HX:=hid hX;clear hX
    go_wp2_with (at_builtin;go_must (refine wpList_append_own _ rfl _ _ 50 rfl w.heap.size 9 i0 (.string ⟨#[]⟩) 1 16 Tryz.underlying50 hi hz0 hz1 hz2 rfl (by decide) _ _ _ rfl (HO.out.alloc _) ⟨wr.heap.size,0,none⟩ 1 1 [.string (s.extract j s.size)] rfl rfl ?c1 ?c2 ?c3 ?c4 ?c5 ?_))
    case c1=>
     intro q u hq
     match q,hq with
     | 0,hq=>simp at hq;subst hq;simp [Addr.add]
    case c2=>intro u hu;simp at hu;subst hu;rfl
    case c3=>unfold maxLen;omega
    case c4=>omega
    case c5=>simp;omega
    intro v' w2 hown' hgrow hnil;have HO2:=hid hown';have HB2:=hid (show Below w.heap.size w w2 from (hbw.alloc hbw.size _).grown hgrow (by simp;omega) (fun g hg=>(HO.out.lt g hg).1));clear hown' hgrow hnil
    go_wp2
    go_roundw
    case rel=>
     refine ⟨s.size+1,s.size+1,out++[(s.extract j s.size).data.toList],by omega,by omega,by go_num,by go_num,by simp;omega,?_,HB2.out,.inr ⟨rfl,?_⟩⟩
     ·rw [cellsS_app,cellsS_one,List.length_append]
      exact HO2.out
     ·have h1:=HC.out
      have e:(s.extract j s.size).data.toList=s.data.toList.drop j:=by rw [ext_take];exact List.take_of_length_le (by simp)
      rw [e];have h2:=HN.out;rw [e] at h2;rw [cutL_none c _ h2] at h1;exact h1.symm
    case measure=>simp [intOf]
  ·subst hks
   have hks': ¬ (((s.size+1:Nat):Int)≤(s.size:Int)):=by omega
   have HX:=hid hout;clear hout
   go_wp2
   go_ret
   unfold OwnPost;rw [← HX.out];exact ⟨_,rfl,HO.out,hbw⟩

theorem txt_grown {w w':World} {b:Nat} {L:List (List UInt8)} {v:Value} {o:Obj} (h:TxtS w b L) (hg:World.grownBy (w.alloc o) w' v.ownBlock) (hb:b<(w.alloc o).heap.size) (hne:v.ownBlock≠some b):TxtS w' b L:=fun j hj=>by
 have h1:=h j hj;have h2:=World.block_lt_of_cell? w _ h1;rw [World.cell?_of_block (w:=w.alloc o) (hg.block b hb (fun e=>hne e.symm))];rw [← h1];exact ((Below.refl _ w).alloc (Nat.le_refl _) o).cell h2

theorem app_ne {w:World} {v v':Value} {n b:Nat} (h:AppAt w v v' n) (hne:v.ownBlock≠some b) (hb:b<w.heap.size):v'.ownBlock≠some b:=by
 obtain ⟨g,cap,rfl,hg⟩:=h
 intro e;have e2:g=b:=by simpa [Value.ownBlock] using e
 subst e2;rcases hg with h | h
 ·exact hne h
 ·omega

theorem pathL_nil (out:List (List UInt8)):pathL out []=out:=by rw [pathL]

theorem pathL_at (out L:List (List UInt8)) (k:Nat) (hk:k<L.length):pathL out (L.drop k)=pathL (stepP out L[k] (decide (k+1<L.length))) (L.drop (k+1)):=by
 rw [List.drop_eq_getElem_cons hk];by_cases h:k+1<L.length
 ·rw [pathL_more _ _ _ (by intro e;have:=congrArg List.length e;simp at this;omega)]
  rw [decide_eq_true h]
 ·have e:L.drop (k+1)=[]:=List.drop_eq_nil_of_le (by omega)
  rw [e,pathL_last,pathL_nil,decide_eq_false h]

theorem cutL_len (c:UInt8) (l:List UInt8):(cutL c l).length≤l.length+1:=by
 induction l with
 | nil=>simp [cutL]
 | cons x l ih=>
   rw [cutL];split
   ·simp;omega
   ·cases hc:cutL c l with
    | nil=>simp
    | cons h t=>rw [hc] at ih;simp at ih ⊢;omega

theorem cutL_each (c:UInt8) (l:List UInt8): ∀ p ∈ cutL c l,p.length≤l.length:=by
 induction l with
 | nil=>simp [cutL]
 | cons x l ih=>
   rw [cutL];split
   ·intro p hp
    rcases List.mem_cons.1 hp with rfl | h
    ·simp
    ·have:=ih p h;simp;omega
   ·cases hc:cutL c l with
    | nil=>simp
    | cons h t=>
      rw [hc] at ih;intro p hp;rcases List.mem_cons.1 hp with rfl | h2
      ·have:=ih h (by simp);simp;omega
      ·have:=ih p (by simp [h2]);simp;omega

theorem own_empty (w:World):(w.alloc (.cells #[] 9)).ownsRow w.heap.size 9 1 (.slice (some ⟨w.heap.size,0,none⟩) 0 0) 0 (cellsS []):=
 ⟨rfl,.inr ⟨w.heap.size,0,#[],rfl,Nat.le_refl _,heap_alloc_new w _,Nat.le_refl _,Nat.zero_le _,rfl,rfl⟩⟩

theorem path_cells {w:World} {b:Nat} {L:List (List UInt8)} (h:TxtS w b L): ∀ j u,(cellsS L)[j]? = some u→w.cell? (Addr.add ⟨b,0,none⟩ j)=some u:=by
 intro j u hu;rw [List.getElem?_eq_some_iff] at hu;obtain ⟨hj,rfl⟩:=hu
 rw [cellsS_len] at hj;have:=h j hj;rw [show Addr.add ⟨b,0,none⟩ j=⟨b,j,none⟩ by unfold Addr.add;split<;>simp_all,this];simp [cellsS]

theorem cells_one (L:List (List UInt8)): ∀ u ∈ cellsS L,u.oneCell'=true:=by
 intro u hu;simp only [cellsS,List.mem_map] at hu
 obtain ⟨_,_,rfl⟩:=hu
 rfl

set_option maxHeartbeats 4000000 in
set_option maxRecDepth 100000 in
theorem rpath_any (s:ByteArray) (va:Value) (hv:List (List UInt8)) (w:World) (hs:s.size≤100000) (ha:PathAt w va hv) (hl:hv.length≤100000):
 Calls Tryz.prog 241 #[va,.string s] w (OwnPost (pathL hv (cutL 47 s.data.toList)) w):=by
 obtain ⟨i0,hi,hz0,hz1,hz2⟩:=info_parts infoStr
 obtain ⟨L,hL⟩: ∃ L,L=cutL 47 s.data.toList:=⟨_,rfl⟩
 have hLn:L.length≤s.size+1:=by rw [hL];have:=cutL_len 47 s.data.toList;rw [← Lib.size_eq] at this;exact this
 have HLe:=hid (show ∀ p ∈ L,p.length≤s.size by rw [hL];have:=cutL_each 47 s.data.toList;rw [← Lib.size_eq] at this;exact this);have HCut:Hid (∀ w:World,Calls Tryz.prog 254 #[.string s,.int .u8 47] w (OwnPost L w)):=fun w=>by rw [hL];exact rcut_own s 47 w (by omega)
 have HL0:=hid (show 0<L.length by rw [hL];exact List.length_pos_iff.2 (cutL_ne _ _));rw [← hL];clear hL;have HA:=hid ha;clear ha
 go_enter Tryz.func241,Tryz.ntmps241
 rcases HA.out with ⟨hva,hhv⟩ | ⟨b,cap,hva,h2,h3,h4,h5⟩
 ·subst hva
  have HHv:=hid hhv;clear hhv
  go_wp2_with (at_builtin;go_must (refine wpList_append_own_none rfl _ _ 50 rfl w.heap.size 9 i0 1 Tryz.underlying50 hi _ _ _ rfl (own_empty w) rfl ?_))
  have HO1':=hid (own_empty w);have HB1:=hid (show Below w.heap.size w (w.alloc (.cells #[] 9)) from (Below.refl _ w).alloc (Nat.le_refl _) _);generalize (w.alloc (.cells #[] 9))=w1 at *
  obtain ⟨v1,hv1⟩: ∃ v,v=Value.slice (some ⟨w.heap.size,0,none⟩) 0 0:=⟨_,rfl⟩
  rw [← hv1] at HO1' ⊢;clear hv1;have HO1:=hid (show w1.ownsRow w.heap.size 9 1 v1 hv.length (cellsS hv) by rw [HHv.out];exact HO1'.out);clear HO1'
  go_wp2_with fail
  refine (HCut.out _).mono ?_;rintro e w2 ⟨vl,rfl,hownL,hb2⟩
  have HB2:=hid (below2 HB1.out hb2);have HO2:=hid (own_below HO1.out hb2);have hpl:=own_path hownL;rcases hownL.2 with ⟨_,hn0⟩ | ⟨g2,cap2,cur,hvl,hg2,hrow,hnc,hcm,_,_⟩
  ·exact absurd HL0.out (by omega)
  subst hvl;have HTxt:=hid (show TxtS w2 g2 L by
   rcases hpl with ⟨h,_⟩ | ⟨b',cap',h,_,_,_,h5⟩
   ·cases h
   ·cases h;exact h5)
  have HNe:=hid (show v1.ownBlock≠some g2 by
   intro e;have:=(HO1.out.lt g2 e).2
   omega)
  have hg2lt:g2<w2.heap.size:=(Array.getElem?_eq_some_iff.1 hrow).1;clear hpl hrow hownL hb2 hg2
  go_wp2
  go_loopw [5,7] (fun v i wr=> ∃ (out:List (List UInt8)) (k:Nat),i = .int .i64 k∧k≤L.length∧out.length≤hv.length+k∧wr.ownsRow w.heap.size 9 1 v out.length (cellsS out)∧v.ownBlock≠some g2∧TxtS wr g2 L∧g2<wr.heap.size∧Below w.heap.size w wr∧pathL out (L.drop k)=pathL hv L) (fun _ i _=>L.length - (intOf i).toNat)
  case atStart=>exact ⟨hv,0,rfl,Nat.zero_le _,Nat.le_refl _,HO2.out,HNe.out,HTxt.out,hg2lt,HB2.out,rfl⟩
  case round=>
   obtain ⟨out,k,rfl,hk,hol,hown,hne,htx,hg2r,hbw,hpath⟩:=hrel
   have HO:=hid hown;have HPa:=hid hpath;have hwr:=hbw.size;by_cases hlt:k<L.length
   ·have hlt':(k:Int)<(L.length:Int):=by omega
    obtain ⟨X,hX⟩: ∃ X:ByteArray,X=⟨L[k].toArray⟩:=⟨_,rfl⟩
    have hXl:X.data.toList=L[k]:=by rw [hX]
    have hXs:X.size≤100000:=by rw [Lib.size_eq,hXl];have:=HLe.out L[k] (List.getElem_mem hlt);omega
    have hcell:wr.cell? ⟨g2,k,none⟩=some (.string X):=by rw [hX];exact htx k hlt
    have HTx:=hid htx;have HNe2:=hid hne;have HPc:=hid (show pathL (stepP out X.data.toList (decide (k+1<L.length))) (L.drop (k+1))=pathL hv L by rw [hXl,← pathL_at out L k hlt];exact HPa.out);clear hX hXl hown hne htx hpath
    go_wp2_with fail
    refine (rdots_any X wr (by omega)).mono ?_;rintro e w3 ⟨rfl,hb3⟩
    have hcell3:w3.cell? ⟨g2,k,none⟩=some (.string X):=(hb3.cell hg2r).trans hcell
    have hbw3:=below2 hbw hb3;have HB3:=hid hbw3;have hsz3:=hb3.size;have HO3:=hid (own_below HO.out hb3);have HTx4:=hid (HTx.out.kept hb3);have HNe4:=HNe2;have hrd:=rd_dots X.data.toList;generalize (rdV X.data.toList).getD 0=nd at hrd ⊢;clear hbw3 hcell hb3;rcases dotsV_cases X.data.toList with hd | hd | hd
    ·have hn1:((nd:Int)==1)=false:=by rw [beq_eq_false_iff_ne];intro e;have:=hrd.1.1 (by omega);omega
     have hn2:((nd:Int)==2)=false:=by rw [beq_eq_false_iff_ne];intro e;have:=hrd.2.1 (by omega);omega
     have HPd:=hid (show pathL (out++[pct 5 X.data.toList]) (L.drop (k+1))=pathL hv L by rw [← HPc.out,stepP0 hd]);have hpl:=pct_le 5 X.data.toList;clear hd hrd
     go_wp2_with fail
     refine (rpctS_any X 5 w3 (by omega)).mono ?_;rintro e w4 ⟨rfl,hb4⟩
     have HB4:=hid (below2 HB3.out hb4);have hsz4:=hb4.size;have HO4:=hid (own_below HO3.out hb4);have HTx4:=hid (HTx4.out.kept hb4);clear hb4
     go_wp2_with (at_builtin;go_must (refine wpList_append_where _ rfl _ _ 50 rfl w.heap.size 9 i0 (.string ⟨#[]⟩) 1 16 Tryz.underlying50 hi hz0 hz1 hz2 rfl (by decide) _ _ _ rfl (HO4.out.alloc _) ⟨w4.heap.size,0,none⟩ 1 1 [.string ⟨(pct 5 X.data.toList).toArray⟩] rfl rfl ?c1 ?c2 ?c3 ?c4 ?c5 ?c6 ?_))
     case c1=>
      intro q u hq
      match q,hq with
      | 0,hq=>simp at hq;subst hq;simp [Addr.add]
     case c2=>intro u hu;simp at hu;subst hu;rfl
     case c3=>unfold maxLen;first | omega | (simp<;>omega)
     case c4=>first | omega | (simp<;>omega)
     case c5=>simp;omega
     case c6=>exact Nat.one_pos
     intro v' w5 hown' hgrow hat';have HO5:=hid hown';have HB5:=hid (show Below w.heap.size w w5 from (HB4.out.alloc HB4.out.size _).grown hgrow (by simp;omega) (fun g hg=>(HO4.out.lt g hg).1));have HT5:=hid (txt_grown HTx4.out hgrow (by simp;omega) HNe4.out);have HN5:=hid (app_ne hat' HNe4.out (by simp;omega));have hsz5:g2<w5.heap.size:=by have:=hgrow.size;simp at this;omega
     clear hown' hgrow hat'
     go_wp2
     go_roundw
     case rel=>
      refine ⟨out++[pct 5 X.data.toList],k+1,by go_num,by omega,by first | omega | (simp<;>omega),?_,HN5.out,HT5.out,hsz5,HB5.out,HPd.out⟩;rw [cellsS_app,List.length_append]
      exact HO5.out
     case measure=>simp [intOf];omega
    ·obtain rfl:nd=1:=hrd.1.2 hd
     clear hrd;by_cases hlast:k+1<L.length
     ·have hl9:((k:Int)==(L.length:Int) - 1)=false:=by rw [beq_eq_false_iff_ne];omega
      have HPd:=hid (show pathL out (L.drop (k+1))=pathL hv L by rw [← HPc.out,decide_eq_true hlast,stepP1 hd]<;>rfl);clear hd
      go_wp2
      go_roundw
      case rel=>exact ⟨out,k+1,by go_num,by omega,by first | omega | (simp<;>omega),HO3.out,HNe4.out,HTx4.out,by omega,HB3.out,HPd.out⟩
      case measure=>simp [intOf];omega
     ·have hl9:((k:Int)==(L.length:Int) - 1)=true:=by rw [beq_iff_eq];omega
      have HPd:=hid (show pathL (out++[[]]) (L.drop (k+1))=pathL hv L by rw [← HPc.out,decide_eq_false hlast,stepP1' hd]<;>rfl);have HO4:=HO3;have HB4:=HB3;clear hd
      go_wp2_with (at_builtin;go_must (refine wpList_append_where _ rfl _ _ 50 rfl w.heap.size 9 i0 (.string ⟨#[]⟩) 1 16 Tryz.underlying50 hi hz0 hz1 hz2 rfl (by decide) _ _ _ rfl (HO4.out.alloc _) ⟨w3.heap.size,0,none⟩ 1 1 [.string ⟨#[]⟩] rfl rfl ?c1 ?c2 ?c3 ?c4 ?c5 ?c6 ?_))
      case c1=>
       intro q u hq
       match q,hq with
       | 0,hq=>simp at hq;subst hq;simp [Addr.add]
      case c2=>intro u hu;simp at hu;subst hu;rfl
      case c3=>unfold maxLen;first | omega | (simp<;>omega)
      case c4=>first | omega | (simp<;>omega)
      case c5=>simp;omega
      case c6=>exact Nat.one_pos
      intro v' w5 hown' hgrow hat';have HO5:=hid hown';have HB5:=hid (show Below w.heap.size w w5 from (HB4.out.alloc HB4.out.size _).grown hgrow (by simp;omega) (fun g hg=>(HO4.out.lt g hg).1));have HT5:=hid (txt_grown HTx4.out hgrow (by simp;omega) HNe4.out);have HN5:=hid (app_ne hat' HNe4.out (by simp;omega));have hsz5:g2<w5.heap.size:=by have:=hgrow.size;simp at this;omega
      clear hown' hgrow hat'
      go_wp2
      go_roundw
      case rel=>
       refine ⟨out++[[]],k+1,by go_num,by omega,by first | omega | (simp<;>omega),?_,HN5.out,HT5.out,hsz5,HB5.out,HPd.out⟩;rw [cellsS_app,List.length_append]
       exact HO5.out
      case measure=>simp [intOf];omega
    ·obtain rfl:nd=2:=hrd.2.2 hd
     clear hrd
     cases out with
     | nil=>
       obtain ⟨sa,sc,hsv⟩:=own_zero HO3.out
       subst hsv;by_cases hlast:k+1<L.length
       ·have hl9:((k:Int)==(L.length:Int) - 1)=false:=by rw [beq_eq_false_iff_ne];omega
        have HPd:=hid (show pathL ([]:List (List UInt8)) (L.drop (k+1))=pathL hv L by rw [← HPc.out,decide_eq_true hlast,stepP2 hd]<;>rfl);clear hd
        go_wp2
        go_roundw
        case rel=>exact ⟨([]:List (List UInt8)),k+1,by go_num,by omega,by first | omega | (simp<;>omega),HO3.out,HNe4.out,HTx4.out,by omega,HB3.out,HPd.out⟩
        case measure=>simp [intOf];omega
       ·have hl9:((k:Int)==(L.length:Int) - 1)=true:=by rw [beq_iff_eq];omega
        have HPd:=hid (show pathL (([]:List (List UInt8))++[[]]) (L.drop (k+1))=pathL hv L by rw [← HPc.out,decide_eq_false hlast,stepP2' hd]<;>rfl);have HO4:=HO3;have HB4:=HB3;clear hd
        go_wp2_with (at_builtin;go_must (refine wpList_append_where _ rfl _ _ 50 rfl w.heap.size 9 i0 (.string ⟨#[]⟩) 1 16 Tryz.underlying50 hi hz0 hz1 hz2 rfl (by decide) _ _ _ rfl (HO4.out.alloc _) ⟨w3.heap.size,0,none⟩ 1 1 [.string ⟨#[]⟩] rfl rfl ?c1 ?c2 ?c3 ?c4 ?c5 ?c6 ?_))
        case c1=>
         intro q u hq
         match q,hq with
         | 0,hq=>simp at hq;subst hq;simp [Addr.add]
        case c2=>intro u hu;simp at hu;subst hu;rfl
        case c3=>unfold maxLen;first | omega | (simp<;>omega)
        case c4=>first | omega | (simp<;>omega)
        case c5=>simp;omega
        case c6=>exact Nat.one_pos
        intro v' w5 hown' hgrow hat';have HO5:=hid hown';have HB5:=hid (show Below w.heap.size w w5 from (HB4.out.alloc HB4.out.size _).grown hgrow (by simp;omega) (fun g hg=>(HO4.out.lt g hg).1));have HT5:=hid (txt_grown HTx4.out hgrow (by simp;omega) HNe4.out);have HN5:=hid (app_ne hat' HNe4.out (by simp;omega));have hsz5:g2<w5.heap.size:=by have:=hgrow.size;simp at this;omega
        clear hown' hgrow hat'
        go_wp2
        go_roundw
        case rel=>
         refine ⟨([]:List (List UInt8))++[[]],k+1,by go_num,by omega,by first | omega | (simp<;>omega),?_,HN5.out,HT5.out,hsz5,HB5.out,HPd.out⟩;rw [cellsS_app,List.length_append]
         exact HO5.out
        case measure=>simp [intOf];omega
     | cons x xs=>
       obtain ⟨g,cap,hvv,hc1,hc2⟩:=own_nonnil (n:=xs.length) HO3.out
       subst hvv;have HO3b:=hid (show w3.ownsRow w.heap.size 9 1 (.slice (some ⟨g,0,none⟩) xs.length cap) ((x::xs).dropLast).length (cellsS (x::xs).dropLast) by
        have:=own_drop HO3.out rfl;rw [List.length_dropLast];exact this)
       have hdl:((x::xs).dropLast).length=xs.length:=by simp
       have hxl:xs.length+1≤hv.length+k:=by simpa using hol
       have HNe4:=hid (show (Value.slice (some ⟨g,0,none⟩) xs.length cap).ownBlock≠some g2 from HNe4.out);by_cases hlast:k+1<L.length
       ·have hl9:((k:Int)==(L.length:Int) - 1)=false:=by rw [beq_eq_false_iff_ne];omega
        have HPd:=hid (show pathL (x::xs).dropLast (L.drop (k+1))=pathL hv L by rw [← HPc.out,decide_eq_true hlast,stepP2 hd]<;>rfl);clear hd
        go_wp2
        go_roundw
        case rel=>exact ⟨(x::xs).dropLast,k+1,by go_num,by omega,by first | omega | (simp<;>omega),HO3b.out,HNe4.out,HTx4.out,by omega,HB3.out,HPd.out⟩
        case measure=>simp [intOf];omega
       ·have hl9:((k:Int)==(L.length:Int) - 1)=true:=by rw [beq_iff_eq];omega
        have HPd:=hid (show pathL ((x::xs).dropLast++[[]]) (L.drop (k+1))=pathL hv L by rw [← HPc.out,decide_eq_false hlast,stepP2' hd]<;>rfl);have HO4:=HO3b;have HB4:=HB3;clear hd
        go_wp2_with (at_builtin;go_must (refine wpList_append_where _ rfl _ _ 50 rfl w.heap.size 9 i0 (.string ⟨#[]⟩) 1 16 Tryz.underlying50 hi hz0 hz1 hz2 rfl (by decide) _ _ _ rfl (HO4.out.alloc _) ⟨w3.heap.size,0,none⟩ 1 1 [.string ⟨#[]⟩] rfl rfl ?c1 ?c2 ?c3 ?c4 ?c5 ?c6 ?_))
        case c1=>
         intro q u hq
         match q,hq with
         | 0,hq=>simp at hq;subst hq;simp [Addr.add]
        case c2=>intro u hu;simp at hu;subst hu;rfl
        case c3=>unfold maxLen;first | omega | (simp<;>omega)
        case c4=>first | omega | (simp<;>omega)
        case c5=>simp;omega
        case c6=>exact Nat.one_pos
        intro v' w5 hown' hgrow hat';have HO5:=hid hown';have HB5:=hid (show Below w.heap.size w w5 from (HB4.out.alloc HB4.out.size _).grown hgrow (by simp;omega) (fun g hg=>(HO4.out.lt g hg).1));have HT5:=hid (txt_grown HTx4.out hgrow (by simp;omega) HNe4.out);have HN5:=hid (app_ne hat' HNe4.out (by simp;omega));have hsz5:g2<w5.heap.size:=by have:=hgrow.size;simp at this;omega
        clear hown' hgrow hat'
        go_wp2
        go_roundw
        case rel=>
         refine ⟨(x::xs).dropLast++[[]],k+1,by go_num,by omega,by first | omega | (simp<;>omega),?_,HN5.out,HT5.out,hsz5,HB5.out,HPd.out⟩;rw [cellsS_app,List.length_append]
         rw [hdl];exact HO5.out
        case measure=>simp [intOf];omega
   ·have hlt': ¬ (k:Int)<(L.length:Int):=by omega
    have HE:=hid (show out=pathL hv L by rw [← HPa.out,List.drop_eq_nil_of_le (by omega),pathL_nil]);clear hown hne htx hpath
    go_wp2
    go_ret
    unfold OwnPost;rw [← HE.out];exact ⟨_,rfl,HO.out,hbw⟩
 ·subst hva
  have HTh:=hid h5;clear h5
  go_wp2_with (at_builtin;go_must (refine wpList_append_own _ rfl _ _ 50 rfl w.heap.size 9 i0 (.string ⟨#[]⟩) 1 16 Tryz.underlying50 hi hz0 hz1 hz2 rfl (by decide) _ _ _ rfl (own_empty w) ⟨b,0,none⟩ hv.length cap (cellsS hv) rfl ?d0 ?d1 ?d2 ?d3 ?d4 ?d5 ?_))
  case d0=>rw [cellsS_len];omega
  case d1=>exact path_cells (HTh.out.kept ((Below.refl _ w).alloc (Nat.le_refl _) _))
  case d2=>exact cells_one hv
  case d3=>unfold maxLen;omega
  case d4=>omega
  case d5=>simp
  intro v1 w1 hown1 hgrow1 hnil1;have HO1:=hid (show w1.ownsRow w.heap.size 9 1 v1 hv.length (cellsS hv) by
   have:=hown1;simpa [cellsS] using this)
  have HB1:=hid (show Below w.heap.size w w1 from ((Below.refl _ w).alloc (Nat.le_refl _) _).grown hgrow1 (by simp) (fun g hg=>by
   have:w.heap.size=g:=by simpa [Value.ownBlock] using hg
   omega))
  clear hown1 hgrow1 hnil1
  go_wp2_with fail
  refine (HCut.out _).mono ?_;rintro e w2 ⟨vl,rfl,hownL,hb2⟩
  have HB2:=hid (below2 HB1.out hb2);have HO2:=hid (own_below HO1.out hb2);have hpl:=own_path hownL;rcases hownL.2 with ⟨_,hn0⟩ | ⟨g2,cap2,cur,hvl,hg2,hrow,hnc,hcm,_,_⟩
  ·exact absurd HL0.out (by omega)
  subst hvl;have HTxt:=hid (show TxtS w2 g2 L by
   rcases hpl with ⟨h,_⟩ | ⟨b',cap',h,_,_,_,h5⟩
   ·cases h
   ·cases h;exact h5)
  have HNe:=hid (show v1.ownBlock≠some g2 by
   intro e;have:=(HO1.out.lt g2 e).2
   omega)
  have hg2lt:g2<w2.heap.size:=(Array.getElem?_eq_some_iff.1 hrow).1;clear hpl hrow hownL hb2 hg2
  go_wp2
  go_loopw [5,7] (fun v i wr=> ∃ (out:List (List UInt8)) (k:Nat),i = .int .i64 k∧k≤L.length∧out.length≤hv.length+k∧wr.ownsRow w.heap.size 9 1 v out.length (cellsS out)∧v.ownBlock≠some g2∧TxtS wr g2 L∧g2<wr.heap.size∧Below w.heap.size w wr∧pathL out (L.drop k)=pathL hv L) (fun _ i _=>L.length - (intOf i).toNat)
  case atStart=>exact ⟨hv,0,rfl,Nat.zero_le _,Nat.le_refl _,HO2.out,HNe.out,HTxt.out,hg2lt,HB2.out,rfl⟩
  case round=>
   obtain ⟨out,k,rfl,hk,hol,hown,hne,htx,hg2r,hbw,hpath⟩:=hrel
   have HO:=hid hown;have HPa:=hid hpath;have hwr:=hbw.size;by_cases hlt:k<L.length
   ·have hlt':(k:Int)<(L.length:Int):=by omega
    obtain ⟨X,hX⟩: ∃ X:ByteArray,X=⟨L[k].toArray⟩:=⟨_,rfl⟩
    have hXl:X.data.toList=L[k]:=by rw [hX]
    have hXs:X.size≤100000:=by rw [Lib.size_eq,hXl];have:=HLe.out L[k] (List.getElem_mem hlt);omega
    have hcell:wr.cell? ⟨g2,k,none⟩=some (.string X):=by rw [hX];exact htx k hlt
    have HTx:=hid htx;have HNe2:=hid hne;have HPc:=hid (show pathL (stepP out X.data.toList (decide (k+1<L.length))) (L.drop (k+1))=pathL hv L by rw [hXl,← pathL_at out L k hlt];exact HPa.out);clear hX hXl hown hne htx hpath
    go_wp2_with fail
    refine (rdots_any X wr (by omega)).mono ?_;rintro e w3 ⟨rfl,hb3⟩
    have hcell3:w3.cell? ⟨g2,k,none⟩=some (.string X):=(hb3.cell hg2r).trans hcell
    have hbw3:=below2 hbw hb3;have HB3:=hid hbw3;have hsz3:=hb3.size;have HO3:=hid (own_below HO.out hb3);have HTx4:=hid (HTx.out.kept hb3);have HNe4:=HNe2;have hrd:=rd_dots X.data.toList;generalize (rdV X.data.toList).getD 0=nd at hrd ⊢;clear hbw3 hcell hb3;rcases dotsV_cases X.data.toList with hd | hd | hd
    ·have hn1:((nd:Int)==1)=false:=by rw [beq_eq_false_iff_ne];intro e;have:=hrd.1.1 (by omega);omega
     have hn2:((nd:Int)==2)=false:=by rw [beq_eq_false_iff_ne];intro e;have:=hrd.2.1 (by omega);omega
     have HPd:=hid (show pathL (out++[pct 5 X.data.toList]) (L.drop (k+1))=pathL hv L by rw [← HPc.out,stepP0 hd]);have hpl:=pct_le 5 X.data.toList;clear hd hrd
     go_wp2_with fail
     refine (rpctS_any X 5 w3 (by omega)).mono ?_;rintro e w4 ⟨rfl,hb4⟩
     have HB4:=hid (below2 HB3.out hb4);have hsz4:=hb4.size;have HO4:=hid (own_below HO3.out hb4);have HTx4:=hid (HTx4.out.kept hb4);clear hb4
     go_wp2_with (at_builtin;go_must (refine wpList_append_where _ rfl _ _ 50 rfl w.heap.size 9 i0 (.string ⟨#[]⟩) 1 16 Tryz.underlying50 hi hz0 hz1 hz2 rfl (by decide) _ _ _ rfl (HO4.out.alloc _) ⟨w4.heap.size,0,none⟩ 1 1 [.string ⟨(pct 5 X.data.toList).toArray⟩] rfl rfl ?c1 ?c2 ?c3 ?c4 ?c5 ?c6 ?_))
     case c1=>
      intro q u hq
      match q,hq with
      | 0,hq=>simp at hq;subst hq;simp [Addr.add]
     case c2=>intro u hu;simp at hu;subst hu;rfl
     case c3=>unfold maxLen;first | omega | (simp<;>omega)
     case c4=>first | omega | (simp<;>omega)
     case c5=>simp;omega
     case c6=>exact Nat.one_pos
     intro v' w5 hown' hgrow hat';have HO5:=hid hown';have HB5:=hid (show Below w.heap.size w w5 from (HB4.out.alloc HB4.out.size _).grown hgrow (by simp;omega) (fun g hg=>(HO4.out.lt g hg).1));have HT5:=hid (txt_grown HTx4.out hgrow (by simp;omega) HNe4.out);have HN5:=hid (app_ne hat' HNe4.out (by simp;omega));have hsz5:g2<w5.heap.size:=by have:=hgrow.size;simp at this;omega
     clear hown' hgrow hat'
     go_wp2
     go_roundw
     case rel=>
      refine ⟨out++[pct 5 X.data.toList],k+1,by go_num,by omega,by first | omega | (simp<;>omega),?_,HN5.out,HT5.out,hsz5,HB5.out,HPd.out⟩;rw [cellsS_app,List.length_append]
      exact HO5.out
     case measure=>simp [intOf];omega
    ·obtain rfl:nd=1:=hrd.1.2 hd
     clear hrd;by_cases hlast:k+1<L.length
     ·have hl9:((k:Int)==(L.length:Int) - 1)=false:=by rw [beq_eq_false_iff_ne];omega
      have HPd:=hid (show pathL out (L.drop (k+1))=pathL hv L by rw [← HPc.out,decide_eq_true hlast,stepP1 hd]<;>rfl);clear hd
      go_wp2
      go_roundw
      case rel=>exact ⟨out,k+1,by go_num,by omega,by first | omega | (simp<;>omega),HO3.out,HNe4.out,HTx4.out,by omega,HB3.out,HPd.out⟩
      case measure=>simp [intOf];omega
     ·have hl9:((k:Int)==(L.length:Int) - 1)=true:=by rw [beq_iff_eq];omega
      have HPd:=hid (show pathL (out++[[]]) (L.drop (k+1))=pathL hv L by rw [← HPc.out,decide_eq_false hlast,stepP1' hd]<;>rfl);have HO4:=HO3;have HB4:=HB3;clear hd
      go_wp2_with (at_builtin;go_must (refine wpList_append_where _ rfl _ _ 50 rfl w.heap.size 9 i0 (.string ⟨#[]⟩) 1 16 Tryz.underlying50 hi hz0 hz1 hz2 rfl (by decide) _ _ _ rfl (HO4.out.alloc _) ⟨w3.heap.size,0,none⟩ 1 1 [.string ⟨#[]⟩] rfl rfl ?c1 ?c2 ?c3 ?c4 ?c5 ?c6 ?_))
      case c1=>
       intro q u hq
       match q,hq with
       | 0,hq=>simp at hq;subst hq;simp [Addr.add]
      case c2=>intro u hu;simp at hu;subst hu;rfl
      case c3=>unfold maxLen;first | omega | (simp<;>omega)
      case c4=>first | omega | (simp<;>omega)
      case c5=>simp;omega
      case c6=>exact Nat.one_pos
      intro v' w5 hown' hgrow hat';have HO5:=hid hown';have HB5:=hid (show Below w.heap.size w w5 from (HB4.out.alloc HB4.out.size _).grown hgrow (by simp;omega) (fun g hg=>(HO4.out.lt g hg).1));have HT5:=hid (txt_grown HTx4.out hgrow (by simp;omega) HNe4.out);have HN5:=hid (app_ne hat' HNe4.out (by simp;omega));have hsz5:g2<w5.heap.size:=by have:=hgrow.size;simp at this;omega
      clear hown' hgrow hat'
      go_wp2
      go_roundw
      case rel=>
       refine ⟨out++[[]],k+1,by go_num,by omega,by first | omega | (simp<;>omega),?_,HN5.out,HT5.out,hsz5,HB5.out,HPd.out⟩;rw [cellsS_app,List.length_append]
       exact HO5.out
      case measure=>simp [intOf];omega
    ·obtain rfl:nd=2:=hrd.2.2 hd
     clear hrd
     cases out with
     | nil=>
       obtain ⟨sa,sc,hsv⟩:=own_zero HO3.out
       subst hsv;by_cases hlast:k+1<L.length
       ·have hl9:((k:Int)==(L.length:Int) - 1)=false:=by rw [beq_eq_false_iff_ne];omega
        have HPd:=hid (show pathL ([]:List (List UInt8)) (L.drop (k+1))=pathL hv L by rw [← HPc.out,decide_eq_true hlast,stepP2 hd]<;>rfl);clear hd
        go_wp2
        go_roundw
        case rel=>exact ⟨([]:List (List UInt8)),k+1,by go_num,by omega,by first | omega | (simp<;>omega),HO3.out,HNe4.out,HTx4.out,by omega,HB3.out,HPd.out⟩
        case measure=>simp [intOf];omega
       ·have hl9:((k:Int)==(L.length:Int) - 1)=true:=by rw [beq_iff_eq];omega
        have HPd:=hid (show pathL (([]:List (List UInt8))++[[]]) (L.drop (k+1))=pathL hv L by rw [← HPc.out,decide_eq_false hlast,stepP2' hd]<;>rfl);have HO4:=HO3;have HB4:=HB3;clear hd
        go_wp2_with (at_builtin;go_must (refine wpList_append_where _ rfl _ _ 50 rfl w.heap.size 9 i0 (.string ⟨#[]⟩) 1 16 Tryz.underlying50 hi hz0 hz1 hz2 rfl (by decide) _ _ _ rfl (HO4.out.alloc _) ⟨w3.heap.size,0,none⟩ 1 1 [.string ⟨#[]⟩] rfl rfl ?c1 ?c2 ?c3 ?c4 ?c5 ?c6 ?_))
        case c1=>
         intro q u hq
         match q,hq with
         | 0,hq=>simp at hq;subst hq;simp [Addr.add]
        case c2=>intro u hu;simp at hu;subst hu;rfl
        case c3=>unfold maxLen;first | omega | (simp<;>omega)
        case c4=>first | omega | (simp<;>omega)
        case c5=>simp;omega
        case c6=>exact Nat.one_pos
        intro v' w5 hown' hgrow hat';have HO5:=hid hown';have HB5:=hid (show Below w.heap.size w w5 from (HB4.out.alloc HB4.out.size _).grown hgrow (by simp;omega) (fun g hg=>(HO4.out.lt g hg).1));have HT5:=hid (txt_grown HTx4.out hgrow (by simp;omega) HNe4.out);have HN5:=hid (app_ne hat' HNe4.out (by simp;omega));have hsz5:g2<w5.heap.size:=by have:=hgrow.size;simp at this;omega
        clear hown' hgrow hat'
        go_wp2
        go_roundw
        case rel=>
         refine ⟨([]:List (List UInt8))++[[]],k+1,by go_num,by omega,by first | omega | (simp<;>omega),?_,HN5.out,HT5.out,hsz5,HB5.out,HPd.out⟩;rw [cellsS_app,List.length_append]
         exact HO5.out
        case measure=>simp [intOf];omega
     | cons x xs=>
       obtain ⟨g,cap,hvv,hc1,hc2⟩:=own_nonnil (n:=xs.length) HO3.out
       subst hvv;have HO3b:=hid (show w3.ownsRow w.heap.size 9 1 (.slice (some ⟨g,0,none⟩) xs.length cap) ((x::xs).dropLast).length (cellsS (x::xs).dropLast) by
        have:=own_drop HO3.out rfl;rw [List.length_dropLast];exact this)
       have hdl:((x::xs).dropLast).length=xs.length:=by simp
       have hxl:xs.length+1≤hv.length+k:=by simpa using hol
       have HNe4:=hid (show (Value.slice (some ⟨g,0,none⟩) xs.length cap).ownBlock≠some g2 from HNe4.out);by_cases hlast:k+1<L.length
       ·have hl9:((k:Int)==(L.length:Int) - 1)=false:=by rw [beq_eq_false_iff_ne];omega
        have HPd:=hid (show pathL (x::xs).dropLast (L.drop (k+1))=pathL hv L by rw [← HPc.out,decide_eq_true hlast,stepP2 hd]<;>rfl);clear hd
        go_wp2
        go_roundw
        case rel=>exact ⟨(x::xs).dropLast,k+1,by go_num,by omega,by first | omega | (simp<;>omega),HO3b.out,HNe4.out,HTx4.out,by omega,HB3.out,HPd.out⟩
        case measure=>simp [intOf];omega
       ·have hl9:((k:Int)==(L.length:Int) - 1)=true:=by rw [beq_iff_eq];omega
        have HPd:=hid (show pathL ((x::xs).dropLast++[[]]) (L.drop (k+1))=pathL hv L by rw [← HPc.out,decide_eq_false hlast,stepP2' hd]<;>rfl);have HO4:=HO3b;have HB4:=HB3;clear hd
        go_wp2_with (at_builtin;go_must (refine wpList_append_where _ rfl _ _ 50 rfl w.heap.size 9 i0 (.string ⟨#[]⟩) 1 16 Tryz.underlying50 hi hz0 hz1 hz2 rfl (by decide) _ _ _ rfl (HO4.out.alloc _) ⟨w3.heap.size,0,none⟩ 1 1 [.string ⟨#[]⟩] rfl rfl ?c1 ?c2 ?c3 ?c4 ?c5 ?c6 ?_))
        case c1=>
         intro q u hq
         match q,hq with
         | 0,hq=>simp at hq;subst hq;simp [Addr.add]
        case c2=>intro u hu;simp at hu;subst hu;rfl
        case c3=>unfold maxLen;first | omega | (simp<;>omega)
        case c4=>first | omega | (simp<;>omega)
        case c5=>simp;omega
        case c6=>exact Nat.one_pos
        intro v' w5 hown' hgrow hat';have HO5:=hid hown';have HB5:=hid (show Below w.heap.size w w5 from (HB4.out.alloc HB4.out.size _).grown hgrow (by simp;omega) (fun g hg=>(HO4.out.lt g hg).1));have HT5:=hid (txt_grown HTx4.out hgrow (by simp;omega) HNe4.out);have HN5:=hid (app_ne hat' HNe4.out (by simp;omega));have hsz5:g2<w5.heap.size:=by have:=hgrow.size;simp at this;omega
        clear hown' hgrow hat'
        go_wp2
        go_roundw
        case rel=>
         refine ⟨(x::xs).dropLast++[[]],k+1,by go_num,by omega,by first | omega | (simp<;>omega),?_,HN5.out,HT5.out,hsz5,HB5.out,HPd.out⟩;rw [cellsS_app,List.length_append]
         rw [hdl];exact HO5.out
        case measure=>simp [intOf];omega
   ·have hlt': ¬ (k:Int)<(L.length:Int):=by omega
    have HE:=hid (show out=pathL hv L by rw [← HPa.out,List.drop_eq_nil_of_le (by omega),pathL_nil]);clear hown hne htx hpath
    go_wp2
    go_ret
    unfold OwnPost;rw [← HE.out];exact ⟨_,rfl,HO.out,hbw⟩

end Go.Proofs.YtolioccofbhliaaGreatDoor
