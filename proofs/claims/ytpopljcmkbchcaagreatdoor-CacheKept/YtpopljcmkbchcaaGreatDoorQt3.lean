/-
  Walks and plain facts that this claim leans on, put together out of 7 texts: Xk, Xm, Xr, Xs, Xt, Wh, Xu.
-/
import Derived.Test.YtpopljcmkbchcaaGreatDoorProg
import Derived.Test.YtpopljcmkbchcaaGreatDoorQt1
import Derived.Test.YtpopljcmkbchcaaGreatDoorQt2
import Derived.WalkKit
import Derived.Lib.Strings
import Derived.Lib.UnsafeStr
import Derived.Laws.IdiomStrings
import Derived.Laws.AppendOwn
import Derived.Laws.BitsAllLaws
import Derived.Lib.Bytealg
import Derived.Lib.BufferMore
import Derived.Shelf.Strings.Builder1
import Derived.Shelf.Strings.Builder2
import Derived.Shelf.Strings.OnBuilder
import Derived.Shelf.Strings.Trim
import Derived.Shelf.Small.Utf8
import Derived.Shelf.Small.Bits
import Derived.Shelf.Small.Strs
import Derived.Shelf.Small.Wraps
import Derived.Shelf.Strings.BuilderF
import Derived.Shelf.Strings.BuilderK
import Derived.Shelf.Strings.BuilderRune
import Derived.Shelf.Utf8.AppendRune
import Derived.Shelf.Utf8.AppendRunePlain
import Derived.Shelf.Strings.Builder2Cap
import Derived.Shelf.Strconv.Itoa0
import Derived.Shelf.Strconv.Itoa1
import Derived.Shelf.LaysM
import Derived.Shelf.Strconv.Itoa2
import Derived.Shelf.Strconv.Itoa3
import Derived.Shelf.Strings.Search1
import Derived.Shelf.Strings.Search2
import Derived.Shelf.Strings.Cut
import Derived.Shelf.Strings.Shaped
import Derived.Shelf.Sort.Plain
import Derived.Shelf.Strings.Prefix
import Derived.Shelf.Unicode.Latin
import Derived.Shelf.Strings.Runes
import Derived.Shelf.Strings.IndexAny
import Derived.Shelf.Strings.AsciiSet
import Derived.Shelf.Strings.IndexAnyAll
import Derived.Shelf.Unicode.DecodeSlow
import Derived.Shelf.Unicode.DecodeAny
import Derived.Shelf.Unicode.DecodeLast
import Derived.Shelf.Unicode.CaseLookup
import Derived.Shelf.Unicode.CaseConvert
import Derived.Shelf.Unicode.CaseTo
import Derived.Shelf.Unicode.CaseLaid
import Derived.Shelf.Slices.CompactS
import Derived.Shelf.Slices.In.SortNone
import Derived.WalkSpells
import Derived.WalkLawsBesides
import Derived.Lib.SlTrimSet
import Derived.Lib.Join
import Derived.Lib.IndexMore
import Derived.Laws.OwnMore
import Derived.Below
import Derived.WalkSmall
import Derived.Lib.SmallJoins
import Derived.Deep.QuietTactic
import Derived.BigQuiet
import Derived.Deep.LoopGhost
import Derived.Deep.MidRow
import Derived.Shelf.Strings.SlTrimAscii
import Derived.Deep.CutRange
import Derived.Laws.Rows
import Derived.Laws.CopyOwn
import Derived.Laws.MakeOwn
import Derived.Laws.RangeAny
import Derived.Lib.DecodeN
import Derived.Lib.OthersKept
import Derived.RegionTactic
import Derived.Deep.RegionWith
import Derived.Laws.Runes
import Derived.Deep.WholeRow
set_option linter.unusedSimpArgs false
set_option linter.unusedVariables false

namespace Go.Proofs.YtpopljcmkbchcaaGreatDoor
open Go.RowKit

def restP (out:List (List UInt8)) (r:List UInt8) (mo:Bool):List (List UInt8):=if mo then out++(pcs r).map trimB else out

theorem pcs_cut (r:List UInt8):pcs r=if cutB r then cutA r::pcs (cutR r) else [cutA r]:=by
 unfold cutA cutR cutB
 cases h:cutQ false r with
 | none=>rw [pcs_none r h];rfl
 | some k=>rw [pcs_some r k h];rfl

theorem restP_step (out:List (List UInt8)) (r:List UInt8):restP out r true=restP (out++[trimB (cutA r)]) (cutR r) (cutB r):=by
 unfold restP;rw [if_pos rfl,pcs_cut]
 cases cutB r<;>simp

theorem cutR_len (r:List UInt8) (h:cutB r=true):(cutR r).length+1≤r.length:=by
 unfold cutB at h;unfold cutR
 cases hc:cutQ false r with
 | none=>rw [hc] at h;cases h
 | some k=>
   have:=cutQ_lt r.length false r k (Nat.le_refl _) hc
   simp;omega

theorem cutA_len (r:List UInt8):(cutA r).length≤r.length:=by
 unfold cutA;split<;>simp<;>omega

theorem cutR_le (r:List UInt8):(cutR r).length≤r.length:=by
 unfold cutR;split<;>simp

def SplitPost (L:List (List UInt8)) (w:World) (e:Ending) (w':World):Prop:=
 ∃ v,e = .returned (.tuple #[v,.bool true])∧w'.ownsRow w.heap.size 9 1 v L.length (cellsT L)∧Below w.heap.size w w'

set_option maxHeartbeats 2000000 in
set_option maxRecDepth 100000 in
theorem hsplit_any (v:Value) (L:List Hd) (n:ByteArray) (w:World) (h:HdAt w v L) (hs:n.size≤140737488351232) (hz:Szd 140737488351232 L) (hl:L.length≤1000000) (hb:bulkV L≤1000000000) (hh:getB L n.data.toList=true):
 Calls Tryz.prog 85 #[v,.string n] w (SplitPost (splitV L n.data.toList) w):=by
 obtain ⟨i0,hi,hz0,hz1,hz2⟩:=info3 infoTx
 have HG:=hid (get_any v L n w h hs hz hl (by omega));have hgl:=getT_len L n.data.toList;obtain ⟨T,hT⟩: ∃ T:ByteArray,T=⟨(getT L n.data.toList).toArray⟩:=⟨_,rfl⟩
 rw [← hT,hh] at HG;have hTs:T.size≤1000000000:=by rw [hT,xsize];omega
 have HV:=hid (show splitV L n.data.toList=restP [] T.data.toList true by rw [hT];rfl);clear hT hgl h hz hb hh
 go_enter Tryz.func85,Tryz.ntmps85
 go_wp2_with fail
 refine HG.out.mono ?_;rintro e w0 ⟨rfl,hb0⟩
 go_wp2
 go_loopw [6,7,8,9] (fun r m vv x wr=> ∃ (R:ByteArray) (mo:Bool) (out:List (List UInt8)),r = .string R∧m = .bool mo∧out.length+R.size≤1000000001∧(mo=true→out.length+R.size≤1000000000)∧R.size≤1000000000∧restP out R.data.toList mo=restP [] T.data.toList true∧wr.ownsRow w.heap.size 9 1 vv out.length (cellsT out)∧Below w.heap.size w wr)
  (fun r m _ _ _=>match r,m with | .string R,.bool true=>R.size+1 | _,_=>0)
 case atStart=>exact ⟨T,true,[],rfl,rfl,by simp;omega,fun _=>by simp;omega,hTs,rfl,World.ownsRow_nil _ _ _ _,hb0⟩
 case round=>
  obtain ⟨R,mo,out,rfl,rfl,hol,holm,hRs,hrest,hown,hbw⟩:=hrel
  have HO:=hid hown;have hwr:=hbw.size;have HR:=hid hrest;clear hown hrest
  cases mo with
  | false=>
    have HE:=hid (show out=splitV L n.data.toList by rw [HV.out,← HR.out];rfl)
    go_wp2
    go_ret2
    unfold SplitPost;rw [← HE.out];exact ⟨_,rfl,HO.out,hbw⟩
  | true=>
    have hol':=holm rfl;obtain ⟨A,hA⟩: ∃ x:ByteArray,x=⟨(cutA R.data.toList).toArray⟩:=⟨_,rfl⟩
    obtain ⟨B,hB⟩: ∃ x:ByteArray,x=⟨(cutR R.data.toList).toArray⟩:=⟨_,rfl⟩
    obtain ⟨mo,hmo⟩: ∃ x,x=cutB R.data.toList:=⟨_,rfl⟩
    have HCP:Hid (∀ w:World,Calls Tryz.prog 132 #[.string R] w fun e w'=>e = .returned (.tuple #[.string A,.string B,.bool mo])∧Below w.heap.size w w'):=fun w=>by
     have:=cutPiece_any R w (by omega)
     rw [← hA,← hB,← hmo] at this;exact this
    have hAs:A.size≤1000000000:=by have:=cutA_len R.data.toList;rw [hA,xsize];simp at this;omega
    have hBs:B.size≤R.size:=by have:=cutR_le R.data.toList;rw [hB,xsize];simpa using this
    have hBm:mo=true→B.size+1≤R.size:=fun h=>by have:=cutR_len R.data.toList (by rw [← hmo];exact h);rw [hB,xsize];simpa using this
    obtain ⟨P,hP⟩: ∃ x:ByteArray,x=⟨(trimB A.data.toList).toArray⟩:=⟨_,rfl⟩
    have HTr:Hid (∀ w:World,Calls Tryz.prog 133 #[.string A,.string ⟨#[9,32]⟩] w fun e w'=>e = .returned (.string P)∧Below w.heap.size w w'):=fun w=>by
     have:=trimB_any A w (by omega)
     rw [← hP] at this;exact this
    have HS:=hid (show restP (out++[P.data.toList]) B.data.toList mo=restP [] T.data.toList true by
     rw [← HR.out,restP_step,hP,hB,hmo,hA])
    clear hA hB hmo hP holm
    go_wp2_with fail
    refine (HCP.out _).mono ?_;rintro e w1 ⟨rfl,hb1⟩
    have hbw1:=hbw.trans (hb1.mono hwr);have hw1:=hbw1.size;have HO1:=hid (own_same HO.out hb1)
    go_wp2_with fail
    refine (HTr.out _).mono ?_;rintro e w2 ⟨rfl,hb2⟩
    have hbw2:=hbw1.trans (hb2.mono hw1);have hw2:=hbw2.size;have HO2:=hid (own_same HO1.out hb2)
    go_wp2_with (at_builtin;go_must (refine wpList_append_own _ rfl _ _ 50 rfl w.heap.size 9 i0 (.string ByteArray.empty) 1 16 Tryz.underlying50 hi hz0 hz1 hz2 rfl (by decide) _ _ _ rfl (HO2.out.alloc _) ⟨w2.heap.size,0,none⟩ 1 1 [.string P] rfl rfl ?c1 ?c2 ?c3 ?c4 ?c5 ?_))
    case c1=>
     intro q u hq
     match q,hq with
     | 0,hq=>simp at hq;subst hq;simp [Addr.add]
    case c2=>intro u hu;simp at hu;subst hu;rfl
    case c3=>unfold maxLen;omega
    case c4=>omega
    case c5=>simp;omega
    intro v' w3 hown' hgrow hnil;have HO3:=hid hown';have HB3:=hid (show Below w.heap.size w w3 from (hbw2.alloc hw2 _).grown hgrow (by simp;omega) (fun g hg=>(HO2.out.lt g hg).1));clear hown' hgrow hnil
    go_wp2
    go_roundw
    case rel=>
     refine ⟨B,mo,out++[P.data.toList],rfl,rfl,by simp;omega,fun h=>by have:=hBm h;simp;omega,by omega,HS.out,?_,HB3.out⟩
     rw [cellsT_app,cellsT_one,List.length_append]
     exact HO3.out
    case measure=>
     cases mo with
     | false=>simp
     | true=>have:=hBm rfl;simp;omega

end Go.Proofs.YtpopljcmkbchcaaGreatDoor

namespace Go.Proofs.YtpopljcmkbchcaaGreatDoor
open Go.RowKit

theorem belowA {w w':World} (h:Below w.heap.size w w') (o:Obj):Below w.heap.size w (w'.alloc o):=h.alloc h.size o

end Go.Proofs.YtpopljcmkbchcaaGreatDoor

namespace Go.Proofs.YtpopljcmkbchcaaGreatDoor
open Go.RowKit

theorem run_copy_two {P:Program} (w:World) (dT sT ty elem:TypeId) (g n dCap:Nat) (a:Option Addr) (sCap:Nat) (cur:Array Value) (t:TypeId) (cs:List Value)
 (hu:P.underlying dT=some (.slice elem)) (hs:(P.info? elem).map (·.size)=some 2)
 (hg:w.heap[g]? = some (.cells cur t (0,0))) (hn:cs.length=n*2)
 (hsrc: ∀ j v,cs[j]? = some v → ∃ ad,a=some ad∧w.cell? (ad.add j)=some v) (hfit:cs.length≤cur.size) (h1: ∀ v ∈ cs,v.oneCell'=true):
 (Builtin.copy_ #[dT,sT] ty #[.slice (some ⟨g,0,none⟩) n dCap,.slice a n sCap]).run P w =
   .ok (goInt n) (w.setRow g (cs++cur.toList.drop cs.length).toArray):=by
 have hst:=run_storeCells_at P g 0 t cs 0 cur w hg (by simpa using hfit) h1
 simp only [Nat.add_zero,Nat.zero_add,List.take_zero,List.nil_append] at hst
 cases hq:P.info? elem with
 | none=>simp [hq] at hs
 | some i=>
   have hi:i.size=2:=by simpa [hq] using hs
   by_cases h0:n=0
   ·subst h0
    have:cs=[]:=List.eq_nil_of_length_eq_zero (by simpa using hn)
    subst this;have hl: ∀ (x:Addr),(loadCells x 0).run P w = .ok #[] w:=fun x=>by simpa using run_loadCells_list (P:=P) w x [] (by simp)
    have hsr:w.setRow g cur=w:=setRow_self w g cur t (0,0) hg
    cases a<;>simp [Builtin.copy_,run_underlying hu,Builtin.lenOf,Builtin.firstCells,sizeOf,typeInfo,hq,storeCells,hl,hsr]
   ·have hpos:0<cs.length:=by omega
    obtain ⟨ad,rfl,_⟩:=hsrc 0 cs[0] (by rw [List.getElem?_eq_getElem hpos])
    have hl:=run_loadCells_list (P:=P) w ad cs (fun j v hv=>by obtain ⟨ad',e,h⟩:=hsrc j v hv;cases e;exact h);rw [hn] at hl;simp [Builtin.copy_,run_underlying hu,Builtin.lenOf,Builtin.firstCells,sizeOf,typeInfo,hq,hi,hl,hst]

theorem cellsH_cell (L:List Hd) (j:Nat) (u:Value) (h:(cellsH L)[j]? = some u): ∃ k,∃ hk:k<L.length,(j=k*2∧u = .string ⟨L[k].name.toArray⟩)∨(j=k*2+1∧u = .string ⟨L[k].value.toArray⟩):=by
 have hj:j<L.length*2:=by
  rw [← cellsH_len];exact (List.getElem?_eq_some_iff.1 h).1
 refine ⟨j / 2,by omega,?_⟩;have h2:=cellsH_at L (j / 2) (by omega)
 rcases (show j=j / 2*2∨j=j / 2*2+1 by omega) with e | e
 ·left
  refine ⟨e,?_⟩
  rw [e,h2.1] at h
  exact (Option.some.inj h).symm
 ·right
  refine ⟨e,?_⟩
  rw [e,h2.2] at h
  exact (Option.some.inj h).symm

theorem cellsH_oneCell (L:List Hd): ∀ u ∈ cellsH L,u.oneCell'=true:=fun u hu=>by
 obtain ⟨j,hj⟩:=List.getElem?_of_mem hu
 obtain ⟨k,hk,⟨_,rfl⟩ | ⟨_,rfl⟩⟩:=cellsH_cell L j u hj<;>rfl

theorem add_of (b off j:Nat):(⟨b,off,none⟩:Addr).add j=⟨b,off+j,none⟩:=by unfold Addr.add;split<;>simp_all

theorem HdAt.cells {w:World} {a:Option Addr} {n cap:Nat} {L:List Hd} (h:HdAt w (.slice a n cap) L):n=L.length ∧ ∀ j u,(cellsH L)[j]? = some u → ∃ x,a=some x∧w.cell? (x.add j)=some u:=by
 obtain ⟨a',cap',e,_,_,hc⟩:=h
 cases e
 refine ⟨rfl,fun j u hu=> ?_⟩
 obtain ⟨k,hk,h⟩:=cellsH_cell L j u hu
 obtain ⟨b,off,rfl,c1,c2⟩:=hc k hk
 refine ⟨_,rfl,?_⟩
 rw [add_of];rcases h with ⟨rfl,rfl⟩ | ⟨rfl,rfl⟩
 ·exact c1
 ·rw [← Nat.add_assoc];exact c2

def HdPost (L:List Hd) (w:World) (e:Ending) (w':World):Prop:= ∃ v,e = .returned v∧w'.ownsRow w.heap.size 45 2 v L.length (cellsH L)∧Below w.heap.size w w'

set_option maxHeartbeats 2000000 in
set_option maxRecDepth 100000 in
theorem with_any (v:Value) (L:List Hd) (nm vl:ByteArray) (w:World) (h:HdAt w v L) (hl:L.length≤1000000):
 Calls Tryz.prog 166 #[v,hdVal nm vl] w (HdPost (L++[⟨nm.data.toList,vl.data.toList⟩]) w):=by
 obtain ⟨i0,hi,hz0,hz1,hz2⟩:=info3 infoHd
 have hbx:=h.kept (belowA (Below.refl _ w) (.cells #[.string nm,.string vl] 45));obtain ⟨a1,c1,rfl,hc1,hm1,hv1⟩:=h.view
 clear h hv1;have hmk:=run_make (P:=Tryz.prog) (w.alloc (.cells #[.string nm,.string vl] 45)) 27 45 i0 _ Tryz.underlying27 hi hz0 .i64 .i64 (L.length:Int) ((L.length:Int)+1) (by omega) (by omega) (by rw [hz2];omega) (by omega)
 have hcp: ∃ W3,(Builtin.copy_ #[27,27] 3 #[.slice (some ⟨w.heap.size+1,0,none⟩) L.length (L.length+1),.slice a1 L.length c1]).run Tryz.prog ((w.alloc (.cells #[.string nm,.string vl] 45)).alloc (.cells (madeCells #[.string ByteArray.empty,.string ByteArray.empty] ((L.length+1)*2)) 45)) = .ok (goInt L.length) W3 ∧
  W3.ownsRow w.heap.size 45 2 (.slice (some ⟨w.heap.size+1,0,none⟩) L.length (L.length+1)) L.length (cellsH L)∧Below w.heap.size w W3∧W3.cell? ⟨w.heap.size,0,none⟩=some (.string nm)∧W3.cell? ⟨w.heap.size,1,none⟩=some (.string vl):=by
  obtain ⟨W1,hW1⟩: ∃ W1,W1=w.alloc (.cells #[.string nm,.string vl] 45):=⟨_,rfl⟩
  obtain ⟨cur,hcur⟩: ∃ c,c=madeCells #[Value.string ByteArray.empty,.string ByteArray.empty] ((L.length+1)*2):=⟨_,rfl⟩
  rw [← hW1,← hcur];have hcs:cur.size=(L.length+1)*2:=by rw [hcur,size_madeCells]
  have hsz1:W1.heap.size=w.heap.size+1:=by rw [hW1];simp
  have hg2:(W1.alloc (.cells cur 45)).heap[w.heap.size+1]? = some (.cells cur 45 (0,0)):=by
   rw [← hsz1];exact heap_alloc_new _ _
  have hx2:HdAt (W1.alloc (.cells cur 45)) (.slice a1 L.length c1) L:=by
   rw [← hW1] at hbx;exact hbx.kept (belowA (Below.refl _ _) _)
  have hb2:Below w.heap.size w (W1.alloc (.cells cur 45)):=by
   rw [hW1];exact belowA (belowA (Below.refl _ _) _) _
  have hr:=run_copy_two (P:=Tryz.prog) (W1.alloc (.cells cur 45)) 27 27 3 45 (w.heap.size+1) L.length (L.length+1) a1 c1 cur 45 (cellsH L) Tryz.underlying27 (by kernel_rfl) hg2 (cellsH_len L) hx2.cells.2 (by rw [cellsH_len];omega) (cellsH_oneCell L)
  have hg3:=setRow_heap (W1.alloc (.cells cur 45)) (w.heap.size+1) _ (cellsH L++cur.toList.drop (cellsH L).length).toArray 45 _ hg2;have ho: ∀ k,k≠w.heap.size+1→((W1.alloc (.cells cur 45)).setRow (w.heap.size+1) (cellsH L++cur.toList.drop (cellsH L).length).toArray).heap[k]? = (W1.alloc (.cells cur 45)).heap[k]? :=fun k hk=>setRow_other _ _ k _ hk
  refine ⟨_,hr,⟨cellsH_len L,.inr ⟨w.heap.size+1,L.length+1,_,rfl,by omega,hg3,by omega,by unfold maxLen;omega,by simp [cellsH_len,hcs];omega,?_⟩⟩,below_setRow hb2 (by omega) _,?_,?_⟩
  ·rw [List.toList_toArray,List.take_append,← cellsH_len L];simp
  ·rw [World.cell?_of_block (ho w.heap.size (by omega)),hW1];simp [go_sem]
  ·rw [World.cell?_of_block (ho w.heap.size (by omega)),hW1];simp [go_sem]
 obtain ⟨W3,hcopy,hown3,hb3,g0,g1⟩:=hcp
 have HO:=hid hown3;have HB:=hid hb3;have hw3:=hb3.size;clear hown3 hb3 hbx;unfold hdVal
 go_enter Tryz.func166,Tryz.ntmps166
 go_wp2_with (at_builtin;go_must (refine wpList_append_own _ rfl _ _ 27 rfl w.heap.size 45 i0 _ 2 32 Tryz.underlying27 hi hz0 hz1 hz2 rfl (by decide) _ _ _ rfl (HO.out.alloc _) ⟨W3.heap.size,0,none⟩ 1 1 [.string nm,.string vl] rfl rfl ?c1 ?c2 ?c3 ?c4 ?c5 ?_))
 case c1=>
  intro q u hq
  match q,hq with
  | 0,hq=>simp at hq;subst hq;simp [Addr.add]
  | 1,hq=>simp at hq;subst hq;simp [Addr.add]
 case c2=>intro u hu;simp at hu;rcases hu with rfl | rfl<;>rfl
 case c3=>unfold maxLen;omega
 case c4=>omega
 case c5=>simp;omega
 intro v' w4 hown' hgrow hnil;have HO4:=hid hown';have HB4:=hid (show Below w.heap.size w w4 from (HB.out.alloc hw3 _).grown hgrow (by simp;omega) (fun g hg=>(HO.out.lt g hg).1));clear hown' hgrow hnil
 go_wp2
 go_ret
 refine ⟨_,rfl,?_,HB4.out⟩
 rw [cellsH_app,List.length_append]
 have:=HO4.out;exact this

end Go.Proofs.YtpopljcmkbchcaaGreatDoor

namespace Go.Proofs.YtpopljcmkbchcaaGreatDoor
open Go.RowKit

theorem xget_bang (s:ByteArray) (i:Nat) (h:i<s.size):s.get! i=s[i]:=by
 show s.data[i]! = s.data[i];exact getElem!_pos s.data i h

set_option maxRecDepth 100000 in
theorem xdecode_skip (s:ByteArray) (i:Nat) (h:i<s.size) (ha:128≤(s[i]'h).toNat): ∃ r n,Utf8.decode s i=(r,n)∧128≤r∧r≤1114111∧1≤n∧i+n≤s.size ∧ ∀ j,i≤j→j<i+n→128≤(s.get! j).toNat:=by
 have h0:128≤(s.get! i).toNat:=by rw [xget_bang s i h];exact ha
 rw [Lib.decode_at];unfold Lib.decodeN;rw [if_neg (by omega)];have one: ∀ j,i≤j→j<i+1→128≤(s.get! j).toNat:=fun j h1 h2=>by
  have:j=i:=by omega
  rw [this];exact h0
 split
 ·split
  ·refine ⟨_,_,rfl,by omega,by omega,by omega,by omega,fun j h1 h2=> ?_⟩
   have:j=i∨j=i+1:=by omega
   rcases this with rfl | rfl
   ·exact h0
   ·omega
  ·exact ⟨_,_,rfl,by omega,by omega,by omega,by omega,one⟩
 ·split
  ·split
   ·refine ⟨_,_,rfl,by omega,by omega,by omega,by omega,fun j h1 h2=> ?_⟩
    have:j=i∨j=i+1∨j=i+2:=by omega
    rcases this with rfl | rfl | rfl
    ·exact h0
    ·omega
    ·omega
   ·exact ⟨_,_,rfl,by omega,by omega,by omega,by omega,one⟩
  ·split
   ·split
    ·refine ⟨_,_,rfl,by omega,by omega,by omega,by omega,fun j h1 h2=> ?_⟩
     have:j=i∨j=i+1∨j=i+2∨j=i+3:=by omega
     rcases this with rfl | rfl | rfl | rfl
     ·exact h0
     ·omega
     ·omega
     ·omega
    ·exact ⟨_,_,rfl,by omega,by omega,by omega,by omega,one⟩
   ·exact ⟨_,_,rfl,by omega,by omega,by omega,by omega,one⟩

theorem xnoAny_skip (s:ByteArray) (i n:Nat) (h:Lib.NoAny s.data.toList [0,10,13] i) (hn:i+n≤s.size) (hj: ∀ j,i≤j→j<i+n→128≤(s.get! j).toNat):Lib.NoAny s.data.toList [0,10,13] (i+n):=by
 intro j b hjn hb;by_cases h1:j<i
 ·exact h j b h1 hb
 ·have h2:=hj j (by omega) hjn
  have hjs:j<s.size:=by omega
  rw [xget_bang s j hjs] at h2;rw [Lib.data_getElem? s j hjs] at hb
  cases hb
  simp;refine ⟨?_,?_,?_⟩<;>(intro e;rw [e] at h2;revert h2;decide)

theorem xbelow_iter (w:World) (s:ByteArray) (i:Nat):Below w.heap.size w (w.iter s i):=(Below.refl _ w).alloc (Nat.le_refl _) _

set_option maxHeartbeats 2000000 in
set_option maxRecDepth 100000 in
theorem xindexRune_high (r:Int) (w:World) (hr1:128≤r) (h2:r≤1114111):
 Calls Tryz.prog 251 #[.string ⟨#[0,10,13]⟩,.int .i32 r] w fun e w'=>e = .returned (.int .i64 (-1))∧Below w.heap.size w w':=by
 have hr0:(0:Int)≤r:=by omega
 by_cases he:r=65533
 ·subst he
  go_enter Tryz.func251,Tryz.ntmps251
  go_wp2
  go_loopg [5,6] 3 (fun g _ _ wx=> ∃ i:Nat,i+g=3∧wx=w.iter ⟨#[0,10,13]⟩ i)
  case atStart=>exact ⟨0,by omega,rfl⟩
  case round=>
   obtain ⟨i,hig,rfl⟩:=hrel
   match gk,hig with
   | 0,hig=>
     obtain rfl:i=3:=by omega
     have hnx:=run_next_end (P:=Tryz.prog) w ⟨#[0,10,13]⟩ 3
     go_wp2
     go_ret
     exact ⟨rfl,xbelow_iter w _ _⟩
   | 1,hig=>
     obtain rfl:i=2:=by omega
     have hnx:=fun ty=>run_next_ascii (P:=Tryz.prog) w ⟨#[0,10,13]⟩ 2 ty (by decide) (by decide)
     go_wp2
     go_roundg 0
     case measure=>omega
     case rel=>exact ⟨3,by omega,rfl⟩
   | 2,hig=>
     obtain rfl:i=1:=by omega
     have hnx:=fun ty=>run_next_ascii (P:=Tryz.prog) w ⟨#[0,10,13]⟩ 1 ty (by decide) (by decide)
     go_wp2
     go_roundg 1
     case measure=>omega
     case rel=>exact ⟨2,by omega,rfl⟩
   | 3,hig=>
     obtain rfl:i=0:=by omega
     have hnx:=fun ty=>run_next_ascii (P:=Tryz.prog) w ⟨#[0,10,13]⟩ 0 ty (by decide) (by decide)
     go_wp2
     go_roundg 2
     case measure=>omega
     case rel=>exact ⟨1,by omega,rfl⟩
   | g+4,hig=>omega
 ·have he':(r==65533)=false:=by rw [beq_eq_false_iff_ne];exact he
  have hcv: ∀ w:World,Calls Tryz.prog 266 #[.int .i32 r] w fun e w'=>e = .returned (.bool (Lib.validRune r))∧w'=w:=fun w=>Tryz.utf8_ValidRune _ w
  have hvv:Lib.validRune r=true∨Lib.validRune r=false:=by cases Lib.validRune r<;>simp
  rcases hvv with hv | hv
  rotate_left
  ·rw [hv] at hcv
   clear hv h2 he
   go_enter Tryz.func251,Tryz.ntmps251
   go_wp2_with (go_at_call 266;refine (hcv _).mono ?_;rintro e w' ⟨rfl,rfl⟩)
   go_ret
   exact ⟨rfl,Below.refl _ _⟩
  ·obtain ⟨X,hX⟩: ∃ X,Utf8.encode r=X:=⟨_,rfl⟩
   have hvu:Utf8.valid r=true:=by
    have:=of_decide_eq_true hv;simp only [Utf8.valid,Bool.or_eq_true,Bool.and_eq_true,decide_eq_true_eq]
    omega
   have hf:=encode_facts r hvu (by omega)
   rw [hX] at hf;obtain ⟨f1,f2,f3⟩:=hf
   have HF:=hid f3;rw [hv] at hcv;clear f3 hv hvu h2 he;by_cases hx:X.size=2
   ·obtain ⟨a,b,rfl⟩: ∃ a b:UInt8,X=⟨#[a,b]⟩:=by
     obtain ⟨⟨L⟩⟩:=X
     match L,hx with
     | [a,b],_=>exact ⟨a,b,rfl⟩
    have hb:128≤b.toNat:=HF.out (show 1<2 by decide);have hb8:b.toNat<256:=b.toNat_lt;have hb1:((((⟨#[0,10,13]⟩:ByteArray)[1]'(show 1<3 by decide)).toNat:Int) != (((⟨#[a,b]⟩:ByteArray)[1]'(show 1<2 by decide)).toNat:Int))=true:=by
     show (((10:UInt8).toNat:Int) != (b.toNat:Int))=true;have:(10:UInt8).toNat=10:=rfl;simp only [bne_iff_ne,ne_eq]
     omega
    have HIB:=hid (show Lib.indexByte ((⟨#[0,10,13]⟩:ByteArray).extract 2 3).data.toList ((((⟨#[a,b]⟩:ByteArray)[1]'(show 1<2 by decide)).toNat:Int)).toNat.toUInt8 = -1 by
     have e1:((⟨#[0,10,13]⟩:ByteArray).extract 2 3).data.toList=[13]:=by rw [Lib.extract_data];rfl
     have e2:((((⟨#[a,b]⟩:ByteArray)[1]'(show 1<2 by decide)).toNat:Int)).toNat.toUInt8=b:=by
      show ((b.toNat:Int)).toNat.toUInt8=b;simp
     rw [e1,e2]
     have hne:(13:UInt8)≠b:=fun e=>by rw [← e] at hb;revert hb;decide
     simp [Lib.indexByte,hne])
    clear hx f1 f2 HF
    go_enter Tryz.func251,Tryz.ntmps251
    go_wp2_with (go_at_call 266;refine (hcv _).mono ?_;rintro e w' ⟨rfl,rfl⟩)
    go_step3
    go_wp2
    go_loop [9] (fun i=>i = .int .i64 1) (fun _=>0)
    case atStart=>rfl
    case round=>
     subst hrel
     go_wp2
     go_step3
     go_wp2
     go_region
     go_wp2
     go_region_with (go_at_call 265;refine (Tryz.strings_IndexByte _ _ _).mono ?_;rintro e w'' ⟨rfl,rfl⟩;rw [HIB.out])
     all_goals
      go_wp2
      rw [Exit.noGoto_ret]
      go_wp2
      rw [Exit.noGoto_ret]
      go_wp2
      go_ret
      exact ⟨rfl,(Below.refl _ _).drew.drew⟩
   ·by_cases hx3:X.size=3
    ·obtain ⟨a,b,c,rfl⟩: ∃ a b c:UInt8,X=⟨#[a,b,c]⟩:=by
      obtain ⟨⟨L⟩⟩:=X
      match L,hx3 with
      | [a,b,c],_=>exact ⟨a,b,c,rfl⟩
     have hb:128≤c.toNat:=HF.out (show 2<3 by decide);have hb8:c.toNat<256:=c.toNat_lt;have hb1:((((⟨#[0,10,13]⟩:ByteArray)[2]'(show 2<3 by decide)).toNat:Int) != (((⟨#[a,b,c]⟩:ByteArray)[2]'(show 2<3 by decide)).toNat:Int))=true:=by
      show (((13:UInt8).toNat:Int) != (c.toNat:Int))=true;have:(13:UInt8).toNat=13:=rfl;simp only [bne_iff_ne,ne_eq]
      omega
     clear hx hx3 f1 f2 HF
     go_enter Tryz.func251,Tryz.ntmps251
     go_wp2_with (go_at_call 266;refine (hcv _).mono ?_;rintro e w' ⟨rfl,rfl⟩)
     go_step3
     go_wp2
     go_loop [9] (fun i=>i = .int .i64 2) (fun _=>0)
     case atStart=>rfl
     case round=>
      subst hrel
      go_wp2
      go_step3
      go_wp2
      go_region
      go_wp2
      go_region_with (go_at_call 265;refine (Tryz.strings_IndexByte _ _ _).mono ?_;rintro e w'' ⟨rfl,rfl⟩)
      all_goals
       go_wp2
       rw [Exit.noGoto_ret]
       go_wp2
       rw [Exit.noGoto_ret]
       go_wp2
       go_ret
       exact ⟨rfl,(Below.refl _ _).drew.drew⟩
    ·have f1':(4:Int)≤(X.size:Int):=by omega
     have f2':(X.size:Int)≤4:=by omega
     go_enter Tryz.func251,Tryz.ntmps251
     go_wp2_with (go_at_call 266;refine (hcv _).mono ?_;rintro e w' ⟨rfl,rfl⟩)
     go_step3
     go_wp2
     go_loop [9] (fun i=>i = .int .i64 ((X.size:Int) - 1)) (fun _=>0)
     case atStart=>rfl
     case round=>
      subst hrel
      go_wp2
      go_ret
      exact ⟨rfl,Below.refl _ _⟩

set_option maxHeartbeats 2000000 in
set_option maxRecDepth 100000 in
theorem xindexAny2_short (s:ByteArray) (w:World) (h8:s.size≤8):
 Calls Tryz.prog 264 #[.string s,.string ⟨#[0,10,13]⟩] w fun e w'=>e = .returned (.int .i64 (Lib.indexAny s.data.toList [0,10,13]))∧Below w.heap.size w w':=by
 have h8z:decide ((8:Int)<(s.size:Int))=false:=decide_eq_false (by omega)
 go_enter Tryz.func264,Tryz.ntmps264
 go_wp2_with (go_at_call 272;refine (Tryz.strings_shouldUseASCIISet _ _).mono ?_;rintro e w' ⟨rfl,hw⟩;rw [hw,h8z])
 go_loopg [9,10] s.size (fun g _ _ wx=> ∃ i:Nat,i+g=s.size∧wx.heap[w.heap.size]? = some (.stringIter s i)∧Below w.heap.size w wx∧Lib.NoAny s.data.toList [0,10,13] i)
 case atStart=>exact ⟨0,by omega,by simp [World.iter_heap],xbelow_iter w _ _,Lib.NoAny.zero _ _⟩
 case round=>
  obtain ⟨i,hig,hit,hbw,hno⟩:=hrel
  have HN:=hid hno;have HI:=hid hit;clear hno hit;by_cases hi:i<s.size
  ·obtain ⟨x,hx⟩: ∃ x:UInt8,s[i]'hi=x:=⟨_,rfl⟩
   have hxl:s.data.toList[i]? = some x:=by rw [← hx];exact Lib.data_getElem? s i hi
   by_cases ha:x.toNat<128
   ·have hnx:=fun ty=>Lib.run_next_ascii_at (P:=Tryz.prog) wr w.heap.size s i ty HI.out hi (by rw [hx];exact ha)
    rw [hx] at hnx;have HK:=hid (Lib.iterAt_heap wr w.heap.size s i (i+1) HI.out);have HB2:=hid (Lib.below_iterAt hbw (Nat.le_refl _) s (i+1));have Hx:=hid hxl;clear hxl hx;have hcon:=Lib.contains_iff_indexByte [0,10,13] x
    have hback:((x.toNat:Int)).toNat.toUInt8=x:=by simp
    cases hin:[(0:UInt8),10,13].contains x
    ·rw [hin] at hcon
     have hlt: ¬ ((0:Int)≤Lib.indexByte [0,10,13] x):=of_decide_eq_false hcon.symm;have Hin:=hid hin;clear hcon hin
     go_wp2_with (go_at_call 251;refine (Tryz.strings_IndexRune_ascii _ _ _ (by omega) (by omega)).mono ?_;rintro e w' ⟨rfl,hw⟩;rw [hw,hback])
     go_roundg (gk - 1)
     case measure=>omega
     case rel=>exact ⟨i+1,by omega,HK.out,HB2.out,HN.out.succ Hx.out Hin.out⟩
    ·rw [hin] at hcon
     have hge:(0:Int)≤Lib.indexByte [0,10,13] x:=of_decide_eq_true hcon.symm
     have Hin:=hid hin;clear hcon hin
     go_wp2_with (go_at_call 251;refine (Tryz.strings_IndexRune_ascii _ _ _ (by omega) (by omega)).mono ?_;rintro e w' ⟨rfl,hw⟩;rw [hw,hback])
     go_ret
     exact ⟨by rw [Lib.indexAny_hit HN.out Hx.out Hin.out];rfl,HB2.out⟩
   ·obtain ⟨r,n,hd,hr1,hr2,hn1,hn2,hj⟩:=xdecode_skip s i hi (by rw [hx];omega)
    have hnx:=fun ty=>Lib.run_next_any_at (P:=Tryz.prog) wr w.heap.size s i ty HI.out hi
    rw [hd] at hnx;have HK:=hid (Lib.iterAt_heap wr w.heap.size s i (i+n) HI.out);have HB2:=hid (Lib.below_iterAt hbw (Nat.le_refl _) s (i+n));have HN2:=hid (xnoAny_skip s i n HN.out hn2 hj);clear hxl hx hj hd;have hr1':(128:Int)≤(r:Int):=by omega
    have HRx:=hid (show (r:Int)≤1114111 by omega);clear hr2
    go_wp2_with (go_at_call 251;refine (xindexRune_high _ _ hr1' HRx.out).mono ?_;rintro e w2 ⟨rfl,hb2⟩)
    go_roundg (gk - n)
    case measure=>omega
    case rel=>
     refine ⟨i+n,by omega,?_,HB2.out.trans (hb2.mono ?_),HN2.out⟩
     ·rw [hb2.block _ (Array.getElem?_eq_some_iff.1 HK.out).1];exact HK.out
     ·exact HB2.out.size
  ·obtain rfl:i=s.size:=by omega
   have hnx:=fun ty=>Lib.run_next_end_at (P:=Tryz.prog) wr w.heap.size s s.size ty HI.out hi
   go_wp2
   go_ret
   exact ⟨by rw [Lib.indexAny_none (by rw [← Lib.size_eq];exact HN.out)];rfl,hbw⟩

theorem xzero87 (w:World):(zeroValue 209).run Tryz.prog w = .ok (.agg (Array.replicate 256 (.bool false))) w:=(zero_of_info (P:=Tryz.prog) (n:=256) (by kernel_rfl)).1 w

end Go.Proofs.YtpopljcmkbchcaaGreatDoor

namespace Go.Proofs.YtpopljcmkbchcaaGreatDoor
open Go.RowKit

set_option maxHeartbeats 2000000 in
set_option maxRecDepth 100000 in
theorem xindexAny3_long (s:ByteArray) (w:World) (h8:8<s.size) (hs:s.size≤9223372036854775807):
 Calls Tryz.prog 264 #[.string s,.string ⟨#[0,10,13]⟩] w fun e w'=>e = .returned (.int .i64 (Lib.indexAny s.data.toList [0,10,13]))∧Below w.heap.size w w':=by
 have hM:=Tryz.strings_makeASCIISet xzero87 ⟨#[0,10,13]⟩ w (by decide) (ascii_of_all (by decide))
 rw [show (⟨#[0,10,13]⟩:ByteArray).data.toList=[0,10,13] from rfl] at hM;have h8z:decide ((8:Int)<(s.size:Int))=true:=decide_eq_true (by omega)
 obtain ⟨C,hC⟩: ∃ C,C=Lib.setCells [0,10,13]:=⟨_,rfl⟩
 have hsz:C.size=256:=by rw [hC];exact Lib.setCells_size _
 have hat: ∀ x:UInt8,C[x.toNat]? = some (.bool ([(0:UInt8),10,13].contains x)):=fun x=>by rw [hC];exact Lib.setCells_at _ _
 rw [← hC] at hM;have HA:=hid hat;have hi256:(Tryz.prog.info? 209).map (·.size)=some 256:=by kernel_rfl
 have hall:C.all (·.oneCell')=true:=by
  rw [Array.all_eq_true];intro i hi;have:=HA.out (UInt8.ofNat i);rw [show (UInt8.ofNat i).toNat=i by simp [UInt8.toNat_ofNat'];omega,Array.getElem?_eq_getElem hi] at this;rw [Option.some.inj this];rfl
 have hsc:(storeCells ⟨w.heap.size+1,0,none⟩ C.toList 0).run Tryz.prog ((w.alloc (.cells C 209)).alloc (.cells Tryz.zeroCells209 209)) = .ok () ((w.alloc (.cells C 209)).alloc (.cells C 209)):=by
  have:=run_storeCells_new (P:=Tryz.prog) (w.alloc (.cells C 209)) 209 Tryz.zeroCells209 C (by rw [hsz];exact hi256) (by rw [hsz];kernel_rfl) hall
  simpa using this
 clear hat hC hall
 go_enter Tryz.func264,Tryz.ntmps264
 go_wp2_with (first
  | (go_at_call 272;refine (Tryz.strings_shouldUseASCIISet _ _).mono ?_;rintro e w' ⟨rfl,hw⟩;rw [hw,h8z])
  | (go_at_call 183;refine hM.mono ?_;rintro e w' ⟨rfl,hw⟩;rw [hw]))
 clear hM hsc;obtain ⟨W2,hW2⟩: ∃ W2,W2=(w.alloc (.cells C 209)).alloc (.cells C 209):=⟨_,rfl⟩
 have hb2:Below w.heap.size w W2:=by rw [hW2];exact belowA (belowA (Below.refl _ _) _) _
 have hc2: ∀ x:UInt8,W2.cell? ⟨w.heap.size+1,x.toNat,none⟩=some (.bool ([(0:UInt8),10,13].contains x)):=fun x=>by
  have hh:W2.heap[w.heap.size+1]? = some (.cells C 209 (0,0)):=by
   rw [hW2];have:=heap_alloc_new (w.alloc (.cells C 209)) (.cells C 209);simpa using this
  rw [Lib.cell_of_heap hh];exact HA.out x
 rw [← hW2];have HC:=hid hc2;have HB:=hid hb2;clear hW2 hc2 hb2
 go_loopg [8] s.size (fun g s8 wx=> ∃ i:Nat,i+g=s.size∧s8 = .int .i64 i∧wx=W2∧Lib.NoAny s.data.toList [0,10,13] i)
 case atStart=>exact ⟨0,by omega,rfl,rfl,Lib.NoAny.zero _ _⟩
 case round=>
  obtain ⟨i,hig,rfl,rfl,hno⟩:=hrel
  have HN:=hid hno;clear hno;by_cases hi:i<s.size
  ·have hiz:(i:Int)<(s.size:Int):=by omega
   obtain ⟨x,hx⟩: ∃ x:UInt8,s[i]'hi=x:=⟨_,rfl⟩
   have Hx:=hid (show s.data.toList[i]? = some x by rw [← hx];exact Lib.data_getElem? s i hi);have hcx:=HC.out x
   cases hin:[(0:UInt8),10,13].contains x<;>rw [hin] at hcx
   ·have Hin:=hid hin
    clear hin
    go_wp2_with (go_at_call 225;refine (Tryz.asciiSet_contains _ x _ _ hcx).mono ?_;rintro e w' ⟨rfl,hw⟩;rw [hw])
    go_roundg (gk - 1)
    case measure=>omega
    case rel=>exact ⟨i+1,by omega,by go_num,rfl,HN.out.succ Hx.out Hin.out⟩
   ·have Hin:=hid hin
    clear hin
    go_wp2_with (go_at_call 225;refine (Tryz.asciiSet_contains _ x _ _ hcx).mono ?_;rintro e w' ⟨rfl,hw⟩;rw [hw])
    go_ret
    exact ⟨by rw [Lib.indexAny_hit HN.out Hx.out Hin.out];rfl,HB.out⟩
  ·obtain rfl:i=s.size:=by omega
   have hiz: ¬ ((s.size:Int)<(s.size:Int)):=by omega
   go_wp2
   go_ret
   exact ⟨by rw [Lib.indexAny_none (by rw [← Lib.size_eq];exact HN.out)];rfl,HB.out⟩

theorem xindexAny3_any (s:ByteArray) (w:World) (hs:s.size≤9223372036854775807):
 Calls Tryz.prog 264 #[.string s,.string ⟨#[0,10,13]⟩] w fun e w'=>e = .returned (.int .i64 (Lib.indexAny s.data.toList [0,10,13]))∧Below w.heap.size w w':=by
 by_cases h:s.size≤8
 ·exact xindexAny2_short s w h
 ·exact xindexAny3_long s w (by omega) hs

def badC (c:UInt8):Bool:=c==0||(c==10||c==13)

theorem indexAny_bad (l:List UInt8):decide ((0:Int)≤Lib.indexAny l [0,10,13])=l.any badC:=by
 induction l with
 | nil=>rfl
 | cons c l ih=>
   have hge:=Lib.indexAny_ge [0,10,13] l
   have hc:[(0:UInt8),10,13].contains c=badC c:=by
    rw [Bool.eq_iff_iff];simp [badC]
   have e:Lib.indexAny (c::l) [0,10,13]=if [(0:UInt8),10,13].contains c then 0 else if Lib.indexAny l [0,10,13] == -1 then -1 else Lib.indexAny l [0,10,13]+1:=rfl
   rw [List.any_cons,← ih,← hc,e]
   generalize Lib.indexAny l [0,10,13]=q at hge
   cases [(0:UInt8),10,13].contains c with
   | true=>simp
   | false=>
     by_cases h:q = -1
     ·subst h;rfl
     ·have h':(q == -1)=false:=by simpa using h
      rw [h'];simp;omega

set_option maxHeartbeats 1000000 in
theorem containsAny3_any (s:ByteArray) (w:World) (hs:s.size≤9223372036854775807):
 Calls Tryz.prog 245 #[.string s,.string ⟨#[0,10,13]⟩] w fun e w'=>e = .returned (.bool (s.data.toList.any badC))∧Below w.heap.size w w':=by
 have hI:=hid (indexAny_bad s.data.toList)
 go_enter Tryz.func245,Tryz.ntmps245
 go_wp2_with fail
 refine (xindexAny3_any s _ hs).mono ?_;rintro e w1 ⟨rfl,hb1⟩
 go_wp2
 go_ret
 exact ⟨ret_bool hI.out,hb1⟩

def valT (l:List UInt8):List UInt8:=Lib.trimS l [9,10,13,32]

def valB (l:List UInt8):Bool:= !(valT l).any badC

theorem trimS_le (l c:List UInt8):(Lib.trimS l c).length≤l.length:=by
 unfold Lib.trimS Lib.trimLeftS Lib.trimRightS;have h1:=(List.dropWhile_sublist (l:=l.reverse) (c.contains ·)).length_le;have h2:=(List.dropWhile_sublist (l:=(l.reverse.dropWhile (c.contains ·)).reverse) (c.contains ·)).length_le;simp at h1 h2 ⊢;omega

def valA (l:List UInt8):List UInt8:=if valB l then valT l else []

set_option maxHeartbeats 1000000 in
theorem value_any (s:ByteArray) (w:World) (hs:s.size≤9223372036854775807):
 Calls Tryz.prog 215 #[.string s] w fun e w'=>e = .returned (.tuple #[.string ⟨(valA s.data.toList).toArray⟩,.bool (valB s.data.toList)])∧Below w.heap.size w w':=by
 obtain ⟨T,hT⟩: ∃ x:ByteArray,x=⟨(valT s.data.toList).toArray⟩:=⟨_,rfl⟩
 have hTs:T.size≤9223372036854775807:=by have:=trimS_le s.data.toList [9,10,13,32];rw [hT,xsize];unfold valT;simp at this;omega
 obtain ⟨bd,hbd⟩: ∃ x,x=T.data.toList.any badC:=⟨_,rfl⟩
 have HB:=hid (show valB s.data.toList = !bd by rw [hbd,hT];rfl);have HA:=hid (show valA s.data.toList=if (!bd)=true then T.data.toList else [] by unfold valA;rw [HB.out,hT]);have HTr:Hid (∀ w:World,Calls Tryz.prog 133 #[.string s,.string ⟨#[9,10,13,32]⟩] w fun e w'=>e = .returned (.string T)∧Below w.heap.size w w'):=fun w=>by
  have:=trim5_any s ⟨#[9,10,13,32]⟩ w hs (by decide) (by decide)
  rw [show (⟨#[9,10,13,32]⟩:ByteArray).data.toList=[9,10,13,32] from rfl,show (⟨(Lib.trimS s.data.toList [9,10,13,32]).toArray⟩:ByteArray)=T from hT.symm] at this;exact this
 have HCo:Hid (∀ w:World,Calls Tryz.prog 245 #[.string T,.string ⟨#[0,10,13]⟩] w fun e w'=>e = .returned (.bool bd)∧Below w.heap.size w w'):=fun w=>by
  have:=containsAny3_any T w hTs;rw [← hbd] at this;exact this
 clear hT hbd
 cases bd with
 | true=>
   go_enter Tryz.func215,Tryz.ntmps215
   go_wp2_with fail
   refine (HTr.out _).mono ?_;rintro e w1 ⟨rfl,hb1⟩
   go_wp2_with fail
   refine (HCo.out _).mono ?_;rintro e w2 ⟨rfl,hb2⟩
   go_wp2
   go_ret2
   exact ⟨xret_sb (xext (by rw [HA.out];rfl)) (by rw [HB.out];rfl),belowT hb1 hb2⟩
 | false=>
   go_enter Tryz.func215,Tryz.ntmps215
   go_wp2_with fail
   refine (HTr.out _).mono ?_;rintro e w1 ⟨rfl,hb1⟩
   go_wp2_with fail
   refine (HCo.out _).mono ?_;rintro e w2 ⟨rfl,hb2⟩
   go_wp2
   go_ret2
   exact ⟨xret_sb (xext (by rw [HA.out];rfl)) (by rw [HB.out];rfl),belowT hb1 hb2⟩

end Go.Proofs.YtpopljcmkbchcaaGreatDoor

namespace Go.Proofs.YtpopljcmkbchcaaGreatDoor
open Go.RowKit

def tokC (c:UInt8):Bool:=tokI c.toNat

def tokL (l:List UInt8):Bool:=l.all tokC && !l.isEmpty

set_option maxHeartbeats 400000 in
theorem token_any (s:ByteArray) (w:World) (hs:s.size≤140737488351232):
 Calls Tryz.prog 82 #[.string s] w fun e w'=>e = .returned (.bool (tokL s.data.toList))∧w=w':=by
 go_enter Tryz.func82,Tryz.ntmps82
 go_wp2
 go_loop [6] (fun i=> ∃ k:Nat,k≤s.size∧i = .int .i64 k∧(s.data.toList.take k).all tokC=true) (fun i=>s.size - (intOf i).toNat)
 case atStart=>exact ⟨0,Nat.zero_le _,rfl,rfl⟩
 case round=>
  obtain ⟨k,hk,rfl,hall⟩:=hrel
  have HA:=hid hall;clear hall;by_cases hlt:k<s.size
  ·have HT:=hid (take_snoc s k hlt)
   by_cases ht:tokI (s[k].toNat:Int)=true
   ·go_wp2_with (go_at_call 125;refine (tokenByte_any _ _).mono ?_;rintro e w' ⟨rfl,rfl⟩)
    go_round
    case rel=>exact ⟨k+1,by omega,by go_num,by rw [HT.out,List.all_append,HA.out];simp [tokC,ht]⟩
    case measure=>simp [intOf];omega
   ·have ht':tokI (s[k].toNat:Int)=false:=by simpa using ht
    clear ht
    go_wp2_with (go_at_call 125;refine (tokenByte_any _ _).mono ?_;rintro e w' ⟨rfl,rfl⟩)
    go_ret
    refine ⟨ret_bool ?_,rfl⟩;have:s.data.toList.all tokC=false:=by
     rw [List.all_eq_false];refine ⟨s[k],?_,by simp [tokC,ht']⟩
     have:s[k]=s.data.toList[k]'(by simpa using hlt):=rfl
     rw [this];exact List.getElem_mem _
    simp [tokL,this]
  ·have ha:=HA.out
   rw [take_all s k hlt] at ha
   go_wp2
   go_ret
   exact ⟨ret_bool (by rw [Lib.toList_data];simp [tokL,ha]),rfl⟩

end Go.Proofs.YtpopljcmkbchcaaGreatDoor

namespace Go.Proofs.YtpopljcmkbchcaaGreatDoor
open Go.RowKit

theorem results_h2 {fn:Func} {p q:Tmp} (h:fn.results = #[.cell p 45,.tmp q]) (tmps:Array Value) (w:World) (b:Nat) (n v:ByteArray) (hp:tmps.getD p undef = .pointer (some ⟨b,0,none⟩)) (hc:w.rangeAt b 0 [.string n,.string v]):(results fn tmps).run Tryz.prog w = .ok (.tuple #[hdVal n v,tmps.getD q undef]) w:=by
 rw [Array.getD_eq_getD_getElem?] at hp;simp only [results,h]
 simp [Sem.run_bind,Result.andThen,hp,asAddr,run_loadVar_mid w b 0 45 [.string n,.string v] _ hc Tryz.underlying45 rfl (by kernel_rfl),hdVal]

def hdE (n v:List UInt8):Nat:=if valB v=false∨tokL n=false then 1 else if 4096<n.length∨4096<(valT v).length then 3 else 0

def Two (w:World) (b:Nat) (n v:ByteArray):Prop:=w.heap[b]? = some (.cells #[.string n,.string v] 45 (0,0))

theorem Two.range {w:World} {b:Nat} {n v:ByteArray} (h:Two w b n v):w.rangeAt b 0 [.string n,.string v]:=fun j u hu=>by
 rw [Nat.zero_add,Lib.cell_of_heap h]
 match j,hu with
 | 0,hu=>simpa using hu
 | 1,hu=>simpa using hu
 | j+2,hu=>simp at hu

theorem Two.cells {w:World} {b:Nat} {n v:ByteArray} (h:Two w b n v):w.cell? ⟨b,0,none⟩=some (.string n)∧w.cell? ⟨b,1,none⟩=some (.string v)∧w.frozen? ⟨b,0,none⟩=false∧w.frozen? ⟨b,1,none⟩=false:=
 ⟨by rw [Lib.cell_of_heap h];rfl,by rw [Lib.cell_of_heap h];rfl,Lib.frozen_of_heap h 0,Lib.frozen_of_heap h 1⟩

theorem Two.set {w:World} {b:Nat} {n v n' v':ByteArray} (h:Two w b n v):Two ((w.setCell ⟨b,0,none⟩ (.string n')).setCell ⟨b,1,none⟩ (.string v')) b n' v':=by
 have h1:=Lib.heap_setCell_same h (i:=0) (.string n');have h2:=Lib.heap_setCell_same h1 (i:=1) (.string v');exact h2

set_option maxHeartbeats 1000000 in
theorem header_any (n v:ByteArray) (w:World) (hn:n.size≤140737488351232) (hv:v.size≤9223372036854775807):
 Calls Tryz.prog 165 #[.string n,.string v] w fun e w'=> ∃ N V:ByteArray,e = .returned (.tuple #[hdVal N V,.int .i64 (hdE n.data.toList v.data.toList:Int)])∧Below w.heap.size w w'∧(hdE n.data.toList v.data.toList=0→N=n∧V.data.toList=valT v.data.toList):=by
 obtain ⟨T,hT⟩: ∃ x:ByteArray,x=⟨(valA v.data.toList).toArray⟩:=⟨_,rfl⟩
 obtain ⟨ok,hok⟩: ∃ x,x=valB v.data.toList:=⟨_,rfl⟩
 obtain ⟨tk,htk⟩: ∃ x,x=tokL n.data.toList:=⟨_,rfl⟩
 have HV:Hid (∀ w:World,Calls Tryz.prog 215 #[.string v] w fun e w'=>e = .returned (.tuple #[.string T,.bool ok])∧Below w.heap.size w w'):=fun w=>by
  have:=value_any v w hv;rw [← hT,← hok] at this;exact this
 have HTk:Hid (∀ w:World,Calls Tryz.prog 82 #[.string n] w fun e w'=>e = .returned (.bool tk)∧w=w'):=fun w=>by
  have:=token_any n w hn;rw [← htk] at this;exact this
 have HE:=hid (show hdE n.data.toList v.data.toList=if ok=false∨tk=false then 1 else if 4096<n.size∨4096<(valT v.data.toList).length then 3 else 0 by unfold hdE;rw [hok,htk];simp);have HT:=hid (show ok=true→T.data.toList=valT v.data.toList by intro h;rw [hT];show valA _=_;unfold valA;rw [← hok,if_pos h]);have hTs:T.size≤9223372036854775807:=by
  rw [hT,xsize];unfold valA
  split
  ·have:=trimS_le v.data.toList [9,10,13,32];unfold valT;simp at this;omega
  ·simp
 clear hT hok htk;have h0:Two (w.alloc (.cells #[.string ByteArray.empty,.string ByteArray.empty] 45)) w.heap.size ByteArray.empty ByteArray.empty:=heap_alloc_new _ _;have H0:=hid h0;clear h0
 cases ok with
 | false=>
   have HEk:=hid (show hdE n.data.toList v.data.toList=1 by rw [HE.out,if_pos (.inl rfl)])
   go_enter Tryz.func165,Tryz.ntmps165
   go_wp2_with fail
   refine (HV.out _).mono ?_;rintro e w1 ⟨rfl,hb1⟩
   have hh1:Two w1 w.heap.size ByteArray.empty ByteArray.empty:=(hb1.block _ (by simp)).trans H0.out;obtain ⟨c0,c1,f0,f1⟩:=hh1.cells
   have hbw:Below w.heap.size w w1:=(belowA (Below.refl _ w) _).trans (hb1.mono (by simp));have HH:=hid hh1;clear hh1
   go_wp2
   refine bodyPost_ret (results_h2 rfl _ _ w.heap.size ⟨#[]⟩ ⟨#[]⟩ rfl HH.out.set.range) rfl ⟨⟨#[]⟩,⟨#[]⟩,?_,((hbw.setCell (p:=⟨w.heap.size,0,none⟩) (Nat.le_refl _) _).setCell (p:=⟨w.heap.size,1,none⟩) (Nat.le_refl _) _),?_⟩
   ·rw [HEk.out];rfl
   ·intro h;rw [HEk.out] at h;cases h
 | true=>
   cases tk with
   | false=>
     have HEk:=hid (show hdE n.data.toList v.data.toList=1 by rw [HE.out,if_pos (.inr rfl)])
     go_enter Tryz.func165,Tryz.ntmps165
     go_wp2_with fail
     refine (HV.out _).mono ?_;rintro e w1 ⟨rfl,hb1⟩
     have hh1:Two w1 w.heap.size ByteArray.empty ByteArray.empty:=(hb1.block _ (by simp)).trans H0.out;obtain ⟨c0,c1,f0,f1⟩:=hh1.cells
     have hbw:Below w.heap.size w w1:=(belowA (Below.refl _ w) _).trans (hb1.mono (by simp));have HH:=hid hh1;clear hh1
     go_wp2_with (go_at_call 82;refine (HTk.out _).mono ?_;rintro e w' ⟨rfl,rfl⟩)
     refine bodyPost_ret (results_h2 rfl _ _ w.heap.size ⟨#[]⟩ ⟨#[]⟩ rfl HH.out.set.range) rfl ⟨⟨#[]⟩,⟨#[]⟩,?_,((hbw.setCell (p:=⟨w.heap.size,0,none⟩) (Nat.le_refl _) _).setCell (p:=⟨w.heap.size,1,none⟩) (Nat.le_refl _) _),?_⟩
     ·rw [HEk.out];rfl
     ·intro h;rw [HEk.out] at h;cases h
   | true=>
     have hTl:T.data.toList=valT v.data.toList:=HT.out rfl;have hTz:T.size=(valT v.data.toList).length:=by rw [← hTl];simp
     have hE2:hdE n.data.toList v.data.toList=if 4096<n.size∨4096<T.size then 3 else 0:=by rw [HE.out,if_neg (by simp),hTz]
     have HTl:=hid hTl;clear hTl hTz;by_cases h1:4096<n.size
     ·have HEk:=hid (show hdE n.data.toList v.data.toList=3 by rw [hE2,if_pos (.inl h1)])
      have h1':(4096:Int)<(n.size:Int):=by omega
      clear hE2
      go_enter Tryz.func165,Tryz.ntmps165
      go_wp2_with fail
      refine (HV.out _).mono ?_;rintro e w1 ⟨rfl,hb1⟩
      have hh1:Two w1 w.heap.size ByteArray.empty ByteArray.empty:=(hb1.block _ (by simp)).trans H0.out;obtain ⟨c0,c1,f0,f1⟩:=hh1.cells
      have hbw:Below w.heap.size w w1:=(belowA (Below.refl _ w) _).trans (hb1.mono (by simp));have HH:=hid hh1;clear hh1
      go_wp2_with (go_at_call 82;refine (HTk.out _).mono ?_;rintro e w' ⟨rfl,rfl⟩)
      refine bodyPost_ret (results_h2 rfl _ _ w.heap.size ⟨#[]⟩ ⟨#[]⟩ rfl HH.out.set.range) rfl ⟨⟨#[]⟩,⟨#[]⟩,?_,((hbw.setCell (p:=⟨w.heap.size,0,none⟩) (Nat.le_refl _) _).setCell (p:=⟨w.heap.size,1,none⟩) (Nat.le_refl _) _),?_⟩
      ·rw [HEk.out];rfl
      ·intro h;rw [HEk.out] at h;cases h
     ·have h1':decide ((4096:Int)<(n.size:Int))=false:=by rw [decide_eq_false_iff_not];omega
      by_cases h2:4096<T.size
      ·have HEk:=hid (show hdE n.data.toList v.data.toList=3 by rw [hE2,if_pos (.inr h2)])
       have h2':(4096:Int)<(T.size:Int):=by omega
       clear hE2
       go_enter Tryz.func165,Tryz.ntmps165
       go_wp2_with fail
       refine (HV.out _).mono ?_;rintro e w1 ⟨rfl,hb1⟩
       have hh1:Two w1 w.heap.size ByteArray.empty ByteArray.empty:=(hb1.block _ (by simp)).trans H0.out;obtain ⟨c0,c1,f0,f1⟩:=hh1.cells
       have hbw:Below w.heap.size w w1:=(belowA (Below.refl _ w) _).trans (hb1.mono (by simp));have HH:=hid hh1;clear hh1
       go_wp2_with (go_at_call 82;refine (HTk.out _).mono ?_;rintro e w' ⟨rfl,rfl⟩)
       refine bodyPost_ret (results_h2 rfl _ _ w.heap.size ⟨#[]⟩ ⟨#[]⟩ rfl HH.out.set.range) rfl ⟨⟨#[]⟩,⟨#[]⟩,?_,((hbw.setCell (p:=⟨w.heap.size,0,none⟩) (Nat.le_refl _) _).setCell (p:=⟨w.heap.size,1,none⟩) (Nat.le_refl _) _),?_⟩
       ·rw [HEk.out];rfl
       ·intro h;rw [HEk.out] at h;cases h
      ·have HEk:=hid (show hdE n.data.toList v.data.toList=0 by rw [hE2,if_neg (by omega)])
       have h2': ¬ (4096:Int)<(T.size:Int):=by omega
       clear hE2
       go_enter Tryz.func165,Tryz.ntmps165
       go_wp2_with fail
       refine (HV.out _).mono ?_;rintro e w1 ⟨rfl,hb1⟩
       have hh1:Two w1 w.heap.size ByteArray.empty ByteArray.empty:=(hb1.block _ (by simp)).trans H0.out;obtain ⟨c0,c1,f0,f1⟩:=hh1.cells
       have hbw:Below w.heap.size w w1:=(belowA (Below.refl _ w) _).trans (hb1.mono (by simp));have HH:=hid hh1;clear hh1
       go_wp2_with (go_at_call 82;refine (HTk.out _).mono ?_;rintro e w' ⟨rfl,rfl⟩)
       refine bodyPost_ret (results_h2 rfl _ _ w.heap.size n T rfl HH.out.set.range) rfl ⟨n,T,?_,((hbw.setCell (p:=⟨w.heap.size,0,none⟩) (Nat.le_refl _) _).setCell (p:=⟨w.heap.size,1,none⟩) (Nat.le_refl _) _),?_⟩
       ·rw [HEk.out];rfl
       ·exact fun _=>⟨rfl,HTl.out⟩

def addE (L:List Hd) (n v:List UInt8):Nat:=if hdE n v≠0 then hdE n v else if 64≤L.length then 4 else 0

def AddPost (L:List Hd) (n v:List UInt8) (w:World) (e:Ending) (w':World):Prop:=
 Below w.heap.size w w'∧((addE L n v≠0∧e = .returned (.tuple #[.slice none 0 0,.int .i64 (addE L n v:Int)])) ∨
  (addE L n v=0 ∧ ∃ vv,e = .returned (.tuple #[vv,.int .i64 0])∧w'.ownsRow w.heap.size 45 2 vv (L.length+1) (cellsH (L++[⟨n,valT v⟩]))))

set_option maxHeartbeats 1000000 in
theorem add_any (vv:Value) (L:List Hd) (n v:ByteArray) (w:World) (h:HdAt w vv L) (hl:L.length≤1000000) (hn:n.size≤140737488351232) (hv:v.size≤9223372036854775807):
 Calls Tryz.prog 164 #[vv,.string n,.string v] w (AddPost L n.data.toList v.data.toList w):=by
 have HL:=hid h;obtain ⟨a1,c1,rfl,hc1,hm1,hv1⟩:=h.view
 clear h hv1;obtain ⟨k,hk⟩: ∃ k,k=hdE n.data.toList v.data.toList:=⟨_,rfl⟩
 have hk3:k=0∨k=1∨k=3:=by rw [hk];unfold hdE;split;exact .inr (.inl rfl);split;exact .inr (.inr rfl);exact .inl rfl
 have HK:=hid hk;clear hk
 go_enter Tryz.func164,Tryz.ntmps164
 go_wp2_with fail
 refine (header_any n v _ hn hv).mono ?_;rintro e w1 ⟨N,V,rfl,hb1,hNV⟩
 rw [← HK.out] at hNV;rw [← HK.out];unfold hdVal;rcases hk3 with rfl | hk3
 ·obtain ⟨rfl,hV⟩:=hNV rfl
  have HV:=hid hV;clear hV hNV;by_cases h64:64≤L.length
  ·have h64':(64:Int)≤(L.length:Int):=by omega
   have HA:=hid (show addE L N.data.toList v.data.toList=4 by unfold addE;rw [← HK.out];simp [h64])
   go_wp2
   go_ret2
   refine ⟨belowA hb1 _,.inl ⟨by rw [HA.out];decide,by rw [HA.out];rfl⟩⟩
  ·have h64': ¬ (64:Int)≤(L.length:Int):=by omega
   have HA:=hid (show addE L N.data.toList v.data.toList=0 by unfold addE;rw [← HK.out];simp [h64]);have hba:=belowA hb1 (.cells #[.string N,.string V] 45);have HW:=hid (with_any _ L N V _ (HL.out.kept hba) hl);unfold hdVal at HW
   go_wp2_with fail
   refine HW.out.mono ?_;rintro e w2 ⟨v2,rfl,hown2,hb2⟩
   have HO:=hid hown2;clear hown2
   go_wp2
   go_ret2
   refine ⟨belowT hba hb2,.inr ⟨HA.out,_,rfl,?_⟩⟩;have:=HO.out;rw [HV.out,List.length_append] at this
   rcases this.2 with ⟨h1,h2⟩ | ⟨g,cap,cur,e1,e2,e3⟩
   ·simp at h2
   ·exact ⟨this.1,.inr ⟨g,cap,cur,e1,Nat.le_trans hba.size e2,e3⟩⟩
 ·have hkz:k≠0:=by omega
  have HA:=hid (show addE L n.data.toList v.data.toList=k by unfold addE;rw [← HK.out,if_pos hkz]);rcases hk3 with rfl | rfl
  ·go_wp2
   go_ret2
   refine ⟨belowA hb1 _,.inl ⟨by rw [HA.out];decide,by rw [HA.out];rfl⟩⟩
  ·go_wp2
   go_ret2
   refine ⟨belowA hb1 _,.inl ⟨by rw [HA.out];decide,by rw [HA.out];rfl⟩⟩

end Go.Proofs.YtpopljcmkbchcaaGreatDoor
