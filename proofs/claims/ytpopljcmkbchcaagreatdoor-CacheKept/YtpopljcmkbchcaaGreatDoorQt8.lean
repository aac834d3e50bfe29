/-
  Walks and plain facts that this claim leans on, put together out of 4 texts: Ehd, Ehe, Ehf, Ehg.
-/
import Derived.Test.YtpopljcmkbchcaaGreatDoorProg
import Derived.Test.YtpopljcmkbchcaaGreatDoorQt1
import Derived.Test.YtpopljcmkbchcaaGreatDoorQt2
import Derived.Test.YtpopljcmkbchcaaGreatDoorQt3
import Derived.Test.YtpopljcmkbchcaaGreatDoorQt4
import Derived.Test.YtpopljcmkbchcaaGreatDoorQt5
import Derived.Test.YtpopljcmkbchcaaGreatDoorQt6
import Derived.Test.YtpopljcmkbchcaaGreatDoorQt7
import Derived.BigRegion
import Derived.Deep.RegionHeld
import Derived.Deep.RegionHeldLaw
import Derived.Lib.IndexAny
import Derived.WalkKit
import Derived.Lib.UnsafeStr
import Derived.Lib.BufferRead
import Derived.Lib.RuneBytes
import Derived.Laws.RangeAny
import Derived.Deep.LoopGhost
import Derived.Maps.OwnSet
import Derived.Maps.OwnOps
import Derived.Maps.AppendAt
import Derived.StringKeys
import Derived.BigQuiet
import Derived.Deep.QuietTactic
import Derived.LoopN
import Derived.RegionTactic
import Derived.Deep.RegionLaw
import Derived.Deep.RegionWith
import Derived.WalkSpells
import Derived.WalkLawsBesides
import Derived.Lib.FieldsP
import Derived.Lib.DecodeN
import Derived.Lib.IndexMore
import Derived.Lib.Join
import Derived.Lib.SmallJoins
import Derived.Laws.CopyOwn
import Derived.Laws.ResultCell
import Derived.Deep.MidRow
import Derived.Laws.OwnMore
import Derived.Below
import Derived.WalkSmall
import Derived.Lib.LaidTab
import Derived.Lib.AppendIntMem
import Derived.Laws.AppendOwn
import Derived.Laws.Runes
import Derived.Lib.OthersKept
import Derived.Lib.FrozenHead2
import Derived.Lib.Builder
import Derived.Lib.AppendStr
import Derived.Lib.Replace
import Derived.Shelf.GgClosure.GivesRunes
import Derived.Laws.BitsAll
import Derived.Laws.Shifts
import Derived.Deep.DeepAppendRoom
import Derived.Laws.IdiomStrings
import Derived.Laws.BytesString
import Derived.Laws.CopyRow
import Derived.Sort.OwnSorted
import Derived.Lib.SlicesCompact
import Derived.Shelf.Slices.In.SortNone
import Derived.Shelf.Slices.CompactS
import Derived.Lib.Strings
import Derived.Laws.BitsAllLaws
import Derived.Lib.Bytealg
import Derived.Lib.BufferMore
import Derived.Shelf.Strings.Builder1
import Derived.Shelf.Strings.Builder2
import Derived.Shelf.Strings.OnBuilder
import Derived.Shelf.Strings.Trim
import Derived.Shelf.Small.Utf8
import Derived.Shelf.Small.Bits
import Derived.Shelf.Small.Strs
import Derived.Shelf.Small.Wraps
import Derived.Shelf.Strings.BuilderF
import Derived.Shelf.Strings.BuilderK
import Derived.Shelf.Strings.BuilderRune
import Derived.Shelf.Utf8.AppendRune
import Derived.Shelf.Utf8.AppendRunePlain
import Derived.Shelf.Strings.Builder2Cap
import Derived.Shelf.Strconv.Itoa0
import Derived.Shelf.Strconv.Itoa1
import Derived.Shelf.LaysM
import Derived.Shelf.Strconv.Itoa2
import Derived.Shelf.Strconv.Itoa3
import Derived.Shelf.Strings.Search1
import Derived.Shelf.Strings.Search2
import Derived.Shelf.Strings.Cut
import Derived.Shelf.Strings.Shaped
import Derived.Shelf.Sort.Plain
import Derived.Shelf.Strings.Prefix
import Derived.Shelf.Unicode.Latin
import Derived.Shelf.Strings.Runes
import Derived.Shelf.Strings.IndexAny
import Derived.Shelf.Strings.AsciiSet
import Derived.Shelf.Strings.IndexAnyAll
import Derived.Shelf.Unicode.DecodeSlow
import Derived.Shelf.Unicode.DecodeAny
import Derived.Shelf.Unicode.DecodeLast
import Derived.Shelf.Unicode.CaseLookup
import Derived.Shelf.Unicode.CaseConvert
import Derived.Shelf.Unicode.CaseTo
import Derived.Shelf.Unicode.CaseLaid
import Derived.Lib.SlTrimSet
import Derived.Shelf.Strings.SlTrimAscii
import Derived.Deep.CutRange
import Derived.Laws.Rows
import Derived.Laws.MakeOwn
import Derived.Deep.WholeRow
import Derived.Laws.AppendOwnNone
import Derived.Lib.SliceRun
set_option linter.unusedSimpArgs false
set_option linter.unusedVariables false

namespace Go.Proofs.YtpopljcmkbchcaaGreatDoor
open Go.RowKit

variable {G : Nat → Prop}

def chCells (c:Cho):List Value:=[.string ⟨c.name.toArray⟩,.string ⟨c.value.toArray⟩,.bool c.there]

def ChAt (w:World) (v:Value) (L:List Cho):Prop:=
 ∃ a cap,v = .slice a L.length cap∧L.length≤cap∧cap≤maxLen ∧ ∀ i (h:i<L.length),∃ g o,a=some ⟨g,o,none⟩∧w.rangeAt g (o+i*3) (chCells L[i])

theorem ChAt.view {w:World} {v:Value} {L:List Cho} (h:ChAt w v L): ∃ a cap,v = .slice a L.length cap∧L.length≤cap∧cap≤maxLen ∧ ∀ i (h:i<L.length),∃ g o,a=some ⟨g,o,none⟩∧w.rangeAt g (o+i*3) (chCells L[i]):=h

theorem ChAt.kept {w w':World} {v:Value} {L:List Cho} (h:ChAt w v L) (hb:Below w.heap.size w w'):ChAt w' v L:=by
 obtain ⟨a,cap,e,h1,h2,h3⟩:=h
 refine ⟨a,cap,e,h1,h2,fun i hi=> ?_⟩
 obtain ⟨g,o,e1,e2⟩:=h3 i hi
 exact ⟨g,o,e1,range_kept17 e2 hb⟩

theorem own_ch {w:World} {B:Nat} {v:Value} {L:List Cho} (h:w.ownsRow B 145 3 v L.length (cellsC L)):ChAt w v L:=by
 rcases h.2 with ⟨rfl,h0⟩ | ⟨g,cap,cur,rfl,hb,hg,h1,h2,h3,h4⟩
 ·have:L=[]:=List.eq_nil_of_length_eq_zero h0
  subst this;exact ⟨none,0,rfl,Nat.le_refl _,by decide,fun j hj=>by simp at hj⟩
 ·refine ⟨_,cap,rfl,h1,h2,fun i hi=>⟨g,0,rfl,fun j u hu=> ?_⟩⟩
  have hc:=cellsC_at L i hi j u hu;have:=h.cellAt (i*3+j) (by
   have:=(List.getElem?_eq_some_iff.1 hc).1;rw [cellsC_len] at this;exact this)
  rw [Nat.zero_add,this]
  exact hc

set_option maxHeartbeats 4000000 in
theorem indexC17_any (pa:Nat) (q:Cho→Bool) (v:Value) (L:List Cho) (w:World) (hv:ChAt w v L) (hl:L.length≤1000000001) (hq: ∀ (X:World) (x:Cho),x ∈ L→Below w.heap.size w X→Calls Tryz.prog 106 #[choVal x,.pointer (some ⟨pa,0,none⟩)] X fun e w'=>e = .returned (.bool (q x))∧Below X.heap.size X w'):
 Calls Tryz.prog 160 #[v,.func (.func 106) #[] #[.pointer (some ⟨pa,0,none⟩)]] w fun e w'=> ∃ z:Int,e = .returned (.int .i64 z)∧decide (0≤z)=L.any q∧Below w.heap.size w w':=by
 obtain ⟨a1,c1,rfl,hc1,hm1,hv1⟩:=hv.view
 have HV:=hid hv1;have HQ:=hid hq;obtain ⟨n,hn⟩: ∃ n,n=L.length:=⟨_,rfl⟩
 have HN:=hid hn;rw [← hn] at hc1 hl ⊢;clear hv hv1 hq hn
 go_enter Tryz.func160,Tryz.ntmps160
 go_wp2_with fail
 go_loopw [8] (fun v8 wr=> ∃ k:Nat,k≤n∧v8 = .int .i64 k∧Hid (((L.take k).any q)=false∧Below w.heap.size w wr)) (fun v8 _=>n - (intOf v8).toNat)
 case atStart=>exact ⟨0,Nat.zero_le _,rfl,rfl,Below.refl _ w⟩
 case round=>
  obtain ⟨k,hk,rfl,HR⟩:=hrel
  by_cases hlt:k<n
  ·have hkL:k<L.length:=by have:=HN.out;omega
   obtain ⟨b1,o1,rfl,e1⟩:=HV.out k hkL
   have e2:=range_kept17 e1 HR.out.2;obtain ⟨x,hx⟩: ∃ x,x=L[k]:=⟨_,rfl⟩
   rw [← hx] at e2;have HXM:=hid (show x ∈ L by rw [hx];exact List.getElem_mem hkL);have HT:=hid (show (L.take (k+1)).any q=q x by rw [List.take_succ_eq_append_getElem hkL,List.any_append,HR.out.1,← hx];simp);have HTA:=hid (show q x=true→L.any q=true from fun h=>List.any_eq_true.2 ⟨x,HXM.out,h⟩);have hcl:=HQ.out wr x HXM.out HR.out.2;obtain ⟨y,hy⟩: ∃ y,y=q x:=⟨_,rfl⟩
   rw [← hy] at hcl HT HTA;obtain ⟨N',V',t⟩:=x
   obtain ⟨N,hN⟩: ∃ V:ByteArray,(⟨N'.toArray⟩:ByteArray)=V:=⟨_,rfl⟩
   obtain ⟨V,hV⟩: ∃ V:ByteArray,(⟨V'.toArray⟩:ByteArray)=V:=⟨_,rfl⟩
   have hcs:chCells ⟨N',V',t⟩=[.string N,.string V,.bool t]:=by unfold chCells;rw [← hN,← hV]
   have hcv:choVal ⟨N',V',t⟩ = .agg #[.string N,.string V,.bool t]:=by unfold choVal;rw [← hN,← hV]
   rw [hcs] at e2;rw [hcv] at hcl;have HRg:=hid e2;have HCL:=hid hcl;have HBr:=hid HR.out.2;have hin:(k:Int)<(n:Int):=by omega
   clear e1 e2 hx hkL hN hV hcs hcv hcl hy HXM HR
   cases y with
   | false=>
     go_wp2_with (first | (refine wpList_load_mid rfl 145 (.tmp 14) rfl b1 (o1+k*3) rfl [.string N,.string V,.bool t] _ HRg.out Tryz.underlying145 rfl sizeCh ?_) | (go_at_call 106;refine HCL.out.mono ?_;rintro e w2 ⟨rfl,hb2⟩;have HB2:=hid (below2_Efc HBr.out hb2);clear hb2))
     go_roundw
     case rel=>
      have e4:((L.take (k+1)).any q)=false∧Below w.heap.size w w2:=⟨HT.out,HB2.out⟩
      first
       | exact ⟨k+1,by omega,by go_num,e4⟩
       | ((repeat apply Exists.intro);refine ⟨?_,rfl⟩;exact ⟨k+1,by omega,by go_num,e4⟩)
       | ((repeat apply Exists.intro);exact ⟨⟨k+1,by omega,by go_num,e4⟩,rfl⟩)
     case measure=>simp [intOf];omega
   | true=>
     go_wp2_with (first | (refine wpList_load_mid rfl 145 (.tmp 14) rfl b1 (o1+k*3) rfl [.string N,.string V,.bool t] _ HRg.out Tryz.underlying145 rfl sizeCh ?_) | (go_at_call 106;refine HCL.out.mono ?_;rintro e w2 ⟨rfl,hb2⟩;have HB2:=hid (below2_Efc HBr.out hb2);clear hb2))
     go_ret
     exact ⟨(k:Int),rfl,by rw [HTA.out (by first | rfl | trivial)];simp,HB2.out⟩
  ·obtain rfl:k=n:=by omega
   have HA:=hid (show L.any q=false by have h:=HR.out.1;rwa [List.take_of_length_le (by have:=HN.out;omega)] at h);have HB:=hid HR.out.2;clear HR hk hlt
   go_wp2_with fail
   go_ret
   exact ⟨-1,rfl,by rw [HA.out];rfl,HB.out⟩

set_option maxHeartbeats 1000000 in
theorem containsC17_any (pa:Nat) (q:Cho→Bool) (v:Value) (L:List Cho) (w:World) (hv:ChAt w v L) (hl:L.length≤1000000001) (hq: ∀ (X:World) (x:Cho),x ∈ L→Below w.heap.size w X→Calls Tryz.prog 106 #[choVal x,.pointer (some ⟨pa,0,none⟩)] X fun e w'=>e = .returned (.bool (q x))∧Below X.heap.size X w'):
 Calls Tryz.prog 108 #[v,.func (.func 106) #[] #[.pointer (some ⟨pa,0,none⟩)]] w fun e w'=>e = .returned (.bool (L.any q))∧Below w.heap.size w w':=by
 have HI:=hid (indexC17_any pa q v L w hv hl hq);obtain ⟨a1,c1,rfl,_,_,_⟩:=hv.view
 clear hv hl hq
 go_enter Tryz.func108,Tryz.ntmps108
 go_wp2_with fail
 refine HI.out.mono ?_;rintro e w2 ⟨z,rfl,hz,hb⟩
 have HZ:=hid hz;have HB:=hid hb;clear hz hb
 go_wp2_with fail
 go_ret
 exact ⟨ret_bool HZ.out,HB.out⟩

def MfAt (w:World) (pa pu:Nat) (v:Value) (u:ByteArray):Prop:=w.heap[pa]? = some (.cells #[v] 27 (0,0))∧w.heap[pu]? = some (.cells #[.string u] 9 (0,0))

theorem MfAt.kept {w w':World} {pa pu:Nat} {v:Value} {u:ByteArray} (h:MfAt w pa pu v u) (hb:Below w.heap.size w w'):MfAt w' pa pu v u:=
 ⟨(hb.block pa (Array.getElem?_eq_some_iff.1 h.1).1).trans h.1,(hb.block pu (Array.getElem?_eq_some_iff.1 h.2).1).trans h.2⟩

theorem MfAt.tq {p:Nat} {w w':World} {pa pu:Nat} {v:Value} {u:ByteArray} (h:MfAt w pa pu v u) (hq:TqC p w w'):MfAt w' pa pu v u:=
 ⟨(hq.2 pa _ _ _ h.1 (by decide) (by decide)).trans h.1,(hq.2 pu _ _ _ h.2 (by decide) (by decide)).trans h.2⟩

set_option maxHeartbeats 4000000 in
theorem meant1_any (pa pu:Nat) (v:Value) (A:List Hd) (U:ByteArray) (z:Zr) (w:World) (B M:Nat) (hm:MfAt w pa pu v U) (h:HdAt w v A) (hz:Szo A) (hd:DenZ G w B M z) (hl:z.r.ch.length≤1000000) (hn: ∀ c ∈ z.r.ch,c.name.length≤140737488351232):
 Calls Tryz.prog 105 #[zVal z,.pointer (some ⟨pa,0,none⟩),.pointer (some ⟨pu,0,none⟩)] w fun e w'=>e = .returned (.bool (meantV U.data.toList A z.r))∧Below w.heap.size w w':=by
 obtain ⟨ca,cc,ha,hc,ba,bc,e1,e2,e3⟩:=hd.form
 obtain ⟨R,zc,zh,zb⟩:=z
 dsimp only at e1 e2 e3 hl hn;subst e1 e2 e3;have HCh:=hid (show ChAt w (.slice ca R.ch.length cc) R.ch from own_ch hd.1.1);obtain ⟨X,hX⟩: ∃ X:ByteArray,(⟨R.url.toArray⟩:ByteArray)=X:=⟨_,rfl⟩
 have hXl:X.data.toList=R.url:=by rw [← hX]
 have hv:zVal ⟨R,.slice ca R.ch.length cc,.slice ha R.rp.hd.length hc,.slice ba R.rp.bd.length bc⟩ = .agg #[.string X,.slice ca R.ch.length cc,.int .i64 R.rp.st,.slice ha R.rp.hd.length hc,.slice ba R.rp.bd.length bc,.int .i64 R.sto,.int .i64 R.tn]:=by unfold zVal zCells;rw [← hX]
 rw [hv];dsimp only;have HCC:=hid (fun (Y:World) (hY:Below w.heap.size w Y)=>containsC17_any pa (fun c=>decide (choV A c.name≠c)) (.slice ca R.ch.length cc) R.ch Y (HCh.out.kept hY) (by omega) (fun Z x hx hZ=>meant11_any pa v A x Z (h.kept (below2_Efc hY hZ)) hz (by
  have h1:=(hm.kept (below2_Efc hY hZ)).1;rw [Lib.cell_of_heap h1];rfl) (hn x hx)))
 have HM:=hid (show meantV U.data.toList A R=(decide (X=U) && !(R.ch.any fun c=>decide (choV A c.name≠c))) by
  unfold meantV;have e:(R.url=U.data.toList) ↔ X=U:=by
   rw [← hXl];exact ⟨fun h=>xba h,fun h=>by rw [h]⟩
  simp only [e])
 have HMf:=hid hm;obtain ⟨y,hy⟩: ∃ y,y=(R.ch.any fun c=>decide (choV A c.name≠c)):=⟨_,rfl⟩
 rw [← hy] at HCC HM;obtain ⟨n1,hn1⟩: ∃ n,n=R.ch.length:=⟨_,rfl⟩
 obtain ⟨n2,hn2⟩: ∃ n,n=R.rp.hd.length:=⟨_,rfl⟩
 obtain ⟨n3,hn3⟩: ∃ n,n=R.rp.bd.length:=⟨_,rfl⟩
 obtain ⟨s1,hs1⟩: ∃ n,n=R.rp.st:=⟨_,rfl⟩
 obtain ⟨s2,hs2⟩: ∃ n,n=R.sto:=⟨_,rfl⟩
 obtain ⟨s3,hs3⟩: ∃ n,n=R.tn:=⟨_,rfl⟩
 rw [← hn1] at HCC;rw [← hn1,← hn2,← hn3,← hs1,← hs2,← hs3];have HB0:=hid ((Below.refl w.heap.size w).alloc (Nat.le_refl _) (.cells #[.string X,.slice ca n1 cc,.int .i64 s1,.slice ha n2 hc,.slice ba n3 bc,.int .i64 s2,.int .i64 s3] 92));have HR0:=hid (heap_alloc_new w (.cells #[.string X,.slice ca n1 cc,.int .i64 s1,.slice ha n2 hc,.slice ba n3 bc,.int .i64 s2,.int .i64 s3] 92));clear hn1 hn2 hn3 hs1 hs2 hs3 hy hX hXl hv h hz hd hl hn hm;obtain ⟨W1,hW1⟩: ∃ Y,w.alloc (.cells #[.string X,.slice ca n1 cc,.int .i64 s1,.slice ha n2 hc,.slice ba n3 bc,.int .i64 s2,.int .i64 s3] 92)=Y:=⟨_,rfl⟩
 rw [hW1] at HB0 HR0;have d0:W1.cell? ⟨w.heap.size,0,none⟩=some (.string X):=by rw [Lib.cell_of_heap HR0.out];rfl
 have d1:W1.cell? ⟨w.heap.size,1,none⟩=some (.slice ca n1 cc):=by rw [Lib.cell_of_heap HR0.out];rfl
 have hmu:=(HMf.out.kept HB0.out).2;have d2:W1.cell? ⟨pu,0,none⟩=some (.string U):=by rw [Lib.cell_of_heap hmu];rfl
 clear hmu;by_cases hu:X=U
 ·subst hu
  have hMM:=HM.out;rw [decide_eq_true rfl,Bool.true_and] at hMM;have HMM:=hid hMM;clear hMM HM
  go_enter Tryz.func105,Tryz.ntmps105
  go_wp2_with fail
  refine (HCC.out _ HB0.out).mono ?_;rintro e w2 ⟨rfl,hb2⟩
  have HB2:=hid (below2_Efc HB0.out hb2)
  go_wp2_with fail
  go_ret
  exact ⟨ret_bool HMM.out.symm,HB2.out⟩
 ·have hne:(X.toList==U.toList)=false:=strNe hu
  have hMM:=HM.out;rw [decide_eq_false hu,Bool.false_and] at hMM;have HMM:=hid hMM;clear hMM HM hu
  go_enter Tryz.func105,Tryz.ntmps105
  go_wp2_with fail
  go_ret
  exact ⟨ret_bool HMM.out.symm,HB0.out⟩

set_option maxHeartbeats 1000000 in
theorem meant_any (U:ByteArray) (a:Option Addr) (n c:Nat) (w:World):
 Calls Tryz.prog 53 #[.string U,.slice a n c] w fun e w'=>e = .returned (.func (.func 105) #[] #[.pointer (some ⟨w.heap.size+1,0,none⟩),.pointer (some ⟨w.heap.size,0,none⟩)])∧MfAt w' (w.heap.size+1) w.heap.size (.slice a n c) U∧Below w.heap.size w w':=by
 have H:=hid (show MfAt ((w.alloc (.cells #[.string U] 9)).alloc (.cells #[.slice a n c] 27)) (w.heap.size+1) w.heap.size (.slice a n c) U by
  refine ⟨?_,(Lib.alloc_old _ _ _ (by simp)).trans (heap_alloc_new w _)⟩
  have:=heap_alloc_new (w.alloc (.cells #[.string U] 9)) (.cells #[.slice a n c] 27);simpa using this)
 have HB:=hid (show Below w.heap.size w ((w.alloc (.cells #[.string U] 9)).alloc (.cells #[.slice a n c] 27)) from ((Below.refl _ w).alloc (Nat.le_refl _) _).alloc (by simp) _)
 go_enter Tryz.func53,Tryz.ntmps53
 go_wp2
 go_ret
 exact ⟨rfl,H.out,HB.out⟩

end Go.Proofs.YtpopljcmkbchcaaGreatDoor

namespace Go.Proofs.YtpopljcmkbchcaaGreatDoor
open Go.RowKit

theorem sizeRw:(Tryz.prog.info? 92).map (·.size)=some 7:=by kernel_rfl

theorem infoRw:(Tryz.prog.info? 92).map (fun i=>(i.zero,i.size,i.bytes))=some (some (.agg #[.string ByteArray.empty,.slice none 0 0,.int .i64 0,.slice none 0 0,.slice none 0 0,.int .i64 0,.int .i64 0]),7,112):=by kernel_rfl

def ZlAt (w:World) (v:Value) (Z:List Zr):Prop:=
 ∃ a cap,v = .slice a Z.length cap∧Z.length≤cap∧cap≤maxLen ∧ ∀ i (h:i<Z.length),∃ g o,a=some ⟨g,o,none⟩∧w.rangeAt g (o+i*7) (zCells Z[i])

theorem own_zl {w:World} {B:Nat} {v:Value} {Z:List Zr} (h:w.ownsRow B 92 7 v Z.length (cellsZ Z)):ZlAt w v Z:=by
 have h2:=h.2;rcases h2 with ⟨rfl,h0⟩ | ⟨g,cap,cur,rfl,hb,hg,h1,h2,h3,h4⟩
 ·have:Z=[]:=List.eq_nil_of_length_eq_zero h0
  subst this;exact ⟨none,0,rfl,Nat.le_refl _,by decide,fun j hj=>by simp at hj⟩
 ·refine ⟨_,cap,rfl,h1,h2,fun i hi=>⟨g,0,rfl,?_⟩⟩
  obtain ⟨g',e,hr⟩:=own_range17 h i hi
  injection e with e
  subst e;rw [Nat.zero_add];exact hr

theorem ZlAt.view {w:World} {v:Value} {Z:List Zr} (h:ZlAt w v Z): ∃ a cap,v = .slice a Z.length cap∧Z.length≤cap∧cap≤maxLen ∧ ∀ i (h:i<Z.length),∃ g o,a=some ⟨g,o,none⟩∧w.rangeAt g (o+i*7) (zCells Z[i]):=h

def idxZ (q:RowC→Bool) (Z:List Zr):Int:=match Z.findIdx? (fun z=>q z.r) with
 | none=> -1
 | some k=>(k:Int)

set_option maxHeartbeats 4000000 in
theorem indexZ17_any (f:Nat) (lb:Array Value) (eg: ∀ args w,(callFunc f args).run Tryz.prog w = .ok (.enter f args) w) (q:RowC→Bool) (v:Value) (Z:List Zr) (w:World) (hv:ZlAt w v Z) (hl:Z.length≤1000000) (hform: ∀ z ∈ Z,∃ ca cn cc ha hn hc ba bn bc,z.c = .slice ca cn cc∧z.h = .slice ha hn hc∧z.b = .slice ba bn bc)
 (hq: ∀ (X:World) (z:Zr),z ∈ Z→Below w.heap.size w X→Calls Tryz.prog f (#[zVal z]++lb) X fun e w'=>e = .returned (.bool (q z.r))∧Below X.heap.size X w'):
 Calls Tryz.prog 104 #[v,.func (.func f) #[] lb] w fun e w'=>e = .returned (.int .i64 (idxZ q Z))∧Below w.heap.size w w':=by
 obtain ⟨a1,c1,rfl,hc1,hm1,hv1⟩:=hv.view
 have HV:=hid hv1;have HQ:=hid hq;have HF:=hid hform;obtain ⟨n,hn⟩: ∃ n,n=Z.length:=⟨_,rfl⟩
 have HN:=hid hn;rw [← hn] at hc1 hl ⊢;clear hv hv1 hq hn hform
 go_enter Tryz.func104,Tryz.ntmps104
 go_wp2_with fail
 go_loopw [8] (fun v8 wr=> ∃ k:Nat,k≤n∧v8 = .int .i64 k∧Hid ((∀ j (h:j<Z.length),j<k→q Z[j].r=false)∧Below w.heap.size w wr)) (fun v8 _=>n - (intOf v8).toNat)
 case atStart=>exact ⟨0,Nat.zero_le _,rfl,fun j _ h=>absurd h (by omega),Below.refl _ w⟩
 case round=>
  obtain ⟨k,hk,rfl,HR⟩:=hrel
  by_cases hlt:k<n
  ·have hkL:k<Z.length:=by have:=HN.out;omega
   obtain ⟨b1,o1,rfl,e1⟩:=HV.out k hkL
   have e2:=range_kept17 e1 HR.out.2;obtain ⟨x,hx⟩: ∃ x,x=Z[k]:=⟨_,rfl⟩
   rw [← hx] at e2;have HXM:=hid (show x ∈ Z by rw [hx];exact List.getElem_mem hkL);have hcl:=HQ.out wr x HXM.out HR.out.2;obtain ⟨y,hy⟩: ∃ y,y=q x.r:=⟨_,rfl⟩
   have HT:=hid (show y=false → ∀ j (h:j<Z.length),j<k+1→q Z[j].r=false from fun hyf j h hj=>by
    by_cases hjk:j=k
    ·subst hjk;rw [← hx,← hy];exact hyf
    ·exact HR.out.1 j h (by omega))
   have HTA:=hid (show y=true→idxZ q Z=(k:Int) from fun h=>by
    have:Z.findIdx? (fun z=>q z.r)=some k:=by
     rw [List.findIdx?_eq_some_iff_getElem];exact ⟨hkL,by rw [← hx,← hy];exact h,fun j hj=>by rw [HR.out.1 j (by omega) hj];decide⟩
    unfold idxZ;rw [this])
   rw [← hy] at hcl;obtain ⟨ca,cn,cc,ha,hn,hc,ba,bn,bc,f1,f2,f3⟩:=HF.out x HXM.out
   obtain ⟨R,zc,zh,zb⟩:=x
   dsimp only at f1 f2 f3;subst f1 f2 f3;obtain ⟨X,hX⟩: ∃ X:ByteArray,(⟨R.url.toArray⟩:ByteArray)=X:=⟨_,rfl⟩
   obtain ⟨s1,hs1⟩: ∃ n,n=R.rp.st:=⟨_,rfl⟩
   obtain ⟨s2,hs2⟩: ∃ n,n=R.sto:=⟨_,rfl⟩
   obtain ⟨s3,hs3⟩: ∃ n,n=R.tn:=⟨_,rfl⟩
   have hcs:zCells ⟨R,.slice ca cn cc,.slice ha hn hc,.slice ba bn bc⟩=[.string X,.slice ca cn cc,.int .i64 s1,.slice ha hn hc,.slice ba bn bc,.int .i64 s2,.int .i64 s3]:=by unfold zCells;rw [← hX,← hs1,← hs2,← hs3]
   unfold zVal at hcl;rw [hcs] at e2 hcl;have HRg:=hid e2;have HCL:=hid hcl;have HBr:=hid HR.out.2;have hin:(k:Int)<(n:Int):=by omega
   clear e1 e2 hx hkL hX hcs hcl hy HXM HR hs1 hs2 hs3
   cases y with
   | false=>
     go_wp2_with (refine wpList_load_mid rfl 92 (.tmp 14) rfl b1 (o1+k*7) rfl [.string X,.slice ca cn cc,.int .i64 s1,.slice ha hn hc,.slice ba bn bc,.int .i64 s2,.int .i64 s3] _ HRg.out Tryz.underlying92 rfl sizeRw ?_)
     refine HCL.out.mono ?_;rintro e w2 ⟨rfl,hb2⟩
     have HB2:=hid (below2_Efc HBr.out hb2);clear hb2
     go_wp2_with fail
     go_roundw
     case rel=>
      have e4:(∀ j (h:j<Z.length),j<k+1→q Z[j].r=false)∧Below w.heap.size w w2:=⟨HT.out (by first | rfl | trivial),HB2.out⟩
      first
       | exact ⟨k+1,by omega,by go_num,e4⟩
       | ((repeat apply Exists.intro);refine ⟨?_,rfl⟩;exact ⟨k+1,by omega,by go_num,e4⟩)
       | ((repeat apply Exists.intro);exact ⟨⟨k+1,by omega,by go_num,e4⟩,rfl⟩)
     case measure=>simp [intOf];omega
   | true=>
     go_wp2_with (refine wpList_load_mid rfl 92 (.tmp 14) rfl b1 (o1+k*7) rfl [.string X,.slice ca cn cc,.int .i64 s1,.slice ha hn hc,.slice ba bn bc,.int .i64 s2,.int .i64 s3] _ HRg.out Tryz.underlying92 rfl sizeRw ?_)
     refine HCL.out.mono ?_;rintro e w2 ⟨rfl,hb2⟩
     have HB2:=hid (below2_Efc HBr.out hb2);clear hb2
     go_wp2_with fail
     go_ret
     exact ⟨ret_i16 (HTA.out (by first | rfl | trivial)).symm,HB2.out⟩
  ·obtain rfl:k=n:=by omega
   have HA:=hid (show idxZ q Z = -1 by
    have:Z.findIdx? (fun z=>q z.r)=none:=by
     rw [List.findIdx?_eq_none_iff];intro x hx;obtain ⟨j,hj,rfl⟩:=List.getElem_of_mem hx
     exact HR.out.1 j hj (by have:=HN.out;omega)
    unfold idxZ;rw [this])
   have HB:=hid HR.out.2;clear HR hk hlt
   go_wp2_with fail
   go_ret
   exact ⟨ret_i16 HA.out.symm,HB.out⟩

end Go.Proofs.YtpopljcmkbchcaaGreatDoor

namespace Go.Proofs.YtpopljcmkbchcaaGreatDoor
open Go.RowKit

theorem set_fresh17 (w:World) (T:TypeId) (D:Array Value) (o:Nat) (v:Value):(w.alloc (.cells D T)).setCell ⟨w.heap.size,o,none⟩ v=w.alloc (.cells (D.setIfInBounds o v) T):=by
 unfold World.setCell World.alloc
 congr 1
 simp only;refine Array.ext_getElem? fun k=> ?_
 rw [Array.getElem?_modify];by_cases hk:w.heap.size=k
 ·subst hk
  simp
 ·rw [if_neg hk,Array.getElem?_push,Array.getElem?_push]
  by_cases h2:k=w.heap.size
  ·exact absurd h2.symm hk
  ·rw [if_neg h2,if_neg h2]

theorem store_fresh17 (w:World) (T:TypeId) (a0 a1 a2 a3 a4 a5 a6 b0 b1 b2 b3 b4 b5 b6:Value):
 (w.alloc (.cells #[a0,a1,a2,a3,a4,a5,a6] T)).setCells w.heap.size 0 [b0,b1,b2,b3,b4,b5,b6]=w.alloc (.cells #[b0,b1,b2,b3,b4,b5,b6] T):=by
 simp only [World.setCells,set_fresh17]
 rfl

def KpI (Z:List Zr) (q:RowC→Bool) (X:List Zr) (i j:Nat):Prop:=X.length=Z.length∧i<j∧X.take i=(Z.take j).filter (fun z=> !q z.r)∧X.drop j=Z.drop j

theorem KpI.start {Z:List Zr} {q:RowC→Bool} {k:Nat} (hk:k<Z.length) (h1: ∀ j (h:j<Z.length),j<k→q Z[j].r=false) (h2:q Z[k].r=true):KpI Z q Z k (k+1):=by
 refine ⟨rfl,by omega,?_,rfl⟩
 rw [List.take_succ_eq_append_getElem hk,List.filter_append];have e1:(Z.take k).filter (fun z=> !q z.r)=Z.take k:=by
  rw [List.filter_eq_self];intro a ha;obtain ⟨j,hj,rfl⟩:=List.getElem_of_mem ha
  rw [List.length_take] at hj;rw [List.getElem_take,h1 j (by omega) (by omega)]
  rfl
 rw [e1];simp [h2]

theorem KpI.get {Z X:List Zr} {q:RowC→Bool} {i j:Nat} (h:KpI Z q X i j) (hj:j<Z.length):X[j]'(by rw [h.1];exact hj)=Z[j]:=by
 have hx:j<X.length:=by rw [h.1];exact hj
 have h1:=h.2.2.2;rw [List.drop_eq_getElem_cons hx,List.drop_eq_getElem_cons hj] at h1;injection h1

theorem KpI.skip {Z X:List Zr} {q:RowC→Bool} {i j:Nat} (h:KpI Z q X i j) (hj:j<Z.length) (hq:q Z[j].r=true):KpI Z q X i (j+1):=by
 obtain ⟨h1,h2,h3,h4⟩:=h
 refine ⟨h1,by omega,?_,?_⟩
 ·rw [List.take_succ_eq_append_getElem hj,List.filter_append,← h3]
  simp [hq]
 ·rw [← List.drop_drop,h4,List.drop_drop]

theorem KpI.keep {Z X:List Zr} {q:RowC→Bool} {i j:Nat} (h:KpI Z q X i j) (hj:j<Z.length) (hq:q Z[j].r=false):KpI Z q (X.set i Z[j]) (i+1) (j+1):=by
 obtain ⟨h1,h2,h3,h4⟩:=h
 have hi:i<X.length:=by omega
 refine ⟨by rw [List.length_set,h1],by omega,?_,?_⟩
 ·rw [List.take_succ_eq_append_getElem hj,List.filter_append,← h3,List.take_succ_eq_append_getElem (by rw [List.length_set];exact hi),List.getElem_set_self,List.take_set_of_le (Nat.le_refl _)]
  simp [hq]
 ·rw [List.drop_set_of_lt (by omega),← List.drop_drop,h4,List.drop_drop]

theorem KpI.done {Z X:List Zr} {q:RowC→Bool} {i:Nat} (h:KpI Z q X i Z.length):X.take i=Z.filter (fun z=> !q z.r)∧(Z.filter (fun z=> !q z.r)).length=i∧i<Z.length:=by
 obtain ⟨h1,h2,h3,_⟩:=h
 rw [List.take_of_length_le (Nat.le_refl _)] at h3;refine ⟨h3,?_,h2⟩
 rw [← h3,List.length_take];omega

theorem idxZ_cases (q:RowC→Bool) (Z:List Zr):(idxZ q Z = -1∧Z.filter (fun z=> !q z.r)=Z) ∨ ∃ k:Nat,∃ h:k<Z.length,idxZ q Z=(k:Int)∧KpI Z q Z k (k+1):=by
 unfold idxZ
 cases h:Z.findIdx? fun z=>q z.r with
 | none=>
   refine .inl ⟨rfl,?_⟩
   rw [List.findIdx?_eq_none_iff] at h;rw [List.filter_eq_self];intro a ha;rw [h a ha];rfl
 | some k=>
   rw [List.findIdx?_eq_some_iff_getElem] at h;obtain ⟨hk,h1,h2⟩:=h
   exact .inr ⟨k,hk,rfl,KpI.start hk (fun j _ hj=>by have:=h2 j hj;simpa using this) h1⟩

def zRow:Array Value:= #[.string ByteArray.empty,.slice none 0 0,.int .i64 0,.slice none 0 0,.slice none 0 0,.int .i64 0,.int .i64 0]

theorem zRow_one (i:Nat):(zRow[i % 7]!).oneCell'=true:=by
 have h:i % 7<7:=Nat.mod_lt _ (by decide)
 generalize i % 7=k at h
 match k,h with
 | 0,_=>rfl
 | 1,_=>rfl
 | 2,_=>rfl
 | 3,_=>rfl
 | 4,_=>rfl
 | 5,_=>rfl
 | 6,_=>rfl

theorem run_clear17 (w:World) (ty:TypeId) (g o n c:Nat) (hn:0<n) (hth:w.there g o (n*7)):
 ∃ vs:List Value,vs.length=n*7∧(Builtin.clear_ #[79] ty #[.slice (some ⟨g,o,none⟩) n c]).run Tryz.prog w = .ok (.tuple #[]) (w.setCells g o vs):=by
 refine ⟨(Builtin.zeroCells zRow n).toList,by simp [Builtin.zeroCells,zRow],?_⟩;have hl:(Builtin.zeroCells zRow n).toList.length=n*7:=by simp [Builtin.zeroCells,zRow]
 have h1: ∀ v ∈ (Builtin.zeroCells zRow n).toList,v.oneCell'=true:=by
  intro v hv;unfold Builtin.zeroCells at hv;rw [Array.mem_toList_iff] at hv;obtain ⟨i,_,rfl⟩:=Array.mem_map.1 hv
  exact zRow_one i
 have hst:=run_storeCells_cells (P:=Tryz.prog) g o (Builtin.zeroCells zRow n).toList 0 w (by rw [hl];intro j hj;rw [Nat.add_zero];exact (hth j hj).1) (by rw [hl];intro j hj;rw [Nat.add_zero];exact (hth j hj).2) h1
 rw [Nat.add_zero] at hst;obtain ⟨m,rfl⟩: ∃ m,n=m+1:=⟨n - 1,by omega⟩
 change (storeCells ⟨g,o,none⟩ (Builtin.zeroCells (Value.agg #[.string ⟨#[]⟩,.slice none 0 0,.int .i64 0,.slice none 0 0,.slice none 0 0,.int .i64 0,.int .i64 0]).cells (m+1)).toList).run Tryz.prog w=_ at hst;simp [Builtin.clear_,run_underlying Tryz.underlying79,hst]

set_option maxHeartbeats 2000000 in
set_option maxRecDepth 100000 in
theorem deleteF17_any (f:Nat) (lb:Array Value) (eg: ∀ args w,(callFunc f args).run Tryz.prog w = .ok (.enter f args) w) (q:RowC→Bool) (v:Value) (Z:List Zr) (w:World) (B:Nat) (hown:w.ownsRow B 92 7 v Z.length (cellsZ Z)) (hl:Z.length≤1000000) (hform: ∀ z ∈ Z,∃ ca cn cc ha hn hc ba bn bc,z.c = .slice ca cn cc∧z.h = .slice ha hn hc∧z.b = .slice ba bn bc)
 (hq: ∀ (X:World) (z:Zr),z ∈ Z→w.grownBy X v.ownBlock→Calls Tryz.prog f (#[zVal z]++lb) X fun e w'=>e = .returned (.bool (q z.r))∧Below X.heap.size X w'):
 Calls Tryz.prog 52 #[v,.func (.func f) #[] lb] w fun e w'=> ∃ a c,e = .returned (.slice a (Z.filter fun z=> !q z.r).length c)∧w'.ownsRow B 92 7 (.slice a (Z.filter fun z=> !q z.r).length c) (Z.filter fun z=> !q z.r).length (cellsZ (Z.filter fun z=> !q z.r))∧w.grownBy w' v.ownBlock∧(∀ g,(Value.slice a (Z.filter fun z=> !q z.r).length c).ownBlock=some g→v.ownBlock=some g):=by
 have HI:=hid (indexZ17_any f lb eg q v Z w (own_zl hown) hl hform (fun X z hz hX=>hq X z hz (below_grown17 hX _)));rcases idxZ_cases q Z with ⟨hi,hf⟩ | ⟨k0,hk0,hi,hK⟩
 ·rw [hi] at HI
  rw [hf];obtain ⟨a,c,rfl⟩:=own_sl16 hown
  have HO:=hid hown;clear hown hq hform hi hf
  go_enter Tryz.func52,Tryz.ntmps52
  go_wp2_with fail
  refine HI.out.mono ?_;rintro e w1 ⟨rfl,hb1⟩
  have HB1:=hid hb1;clear hb1
  go_wp2_with fail
  go_ret
  exact ⟨a,c,rfl,own_same HO.out HB1.out,below_grown17 HB1.out _,fun g h=>h⟩
 ·rw [hi] at HI
  obtain ⟨g,cap,rfl⟩: ∃ g cap,v = .slice (some ⟨g,0,none⟩) Z.length cap:=by
   rcases hown.2 with ⟨_,h0⟩ | ⟨g,cap,cur,h,_⟩
   ·omega
   ·exact ⟨g,cap,h⟩
  have hbo:(Value.slice (some ⟨g,0,none⟩) Z.length cap).ownBlock=some g:=rfl;rw [hbo] at hq;rw [hbo];obtain ⟨n,hn⟩: ∃ n,n=Z.length:=⟨_,rfl⟩
  obtain ⟨cur0,_,_,_,hncap,hcapm,_⟩:=own_in17 hown
  have HN:=hid hn;have HO:=hid hown;have HQ:=hid hq;have HF:=hid hform;have HK:=hid hK;have hk0n:k0+1≤n:=by omega
  rw [← hn] at HI HO hl hncap;rw [← hn];have hne1:((k0:Int) == -1)=false:=beq_eq_false_iff_ne.2 (by omega)
  clear hown hq hform hi hn hK hbo
  go_enter Tryz.func52,Tryz.ntmps52
  go_wp2_with fail
  refine HI.out.mono ?_;rintro e w1 ⟨rfl,hb1⟩
  have HJ:=hid (show w1.ownsRow B 92 7 (.slice (some ⟨g,0,none⟩) n cap) n (cellsZ Z)∧w.grownBy w1 (some g) from ⟨own_same HO.out hb1,below_grown17 hb1 _⟩);clear hb1 HI
  go_wp2_with fail
  go_loopw [5,6,7] (fun s5 s6 _ wr=> ∃ (i j:Nat) (X:List Zr),s5 = .int .i64 i∧s6 = .int .i64 j∧j≤n∧Hid (KpI Z q X i j∧wr.ownsRow B 92 7 (.slice (some ⟨g,0,none⟩) n cap) n (cellsZ X)∧w.grownBy wr (some g))) (fun _ s6 _ _=>n - (intOf s6).toNat)
  case atStart=>exact ⟨k0,k0+1,Z,rfl,by go_num,hk0n,HK.out,HJ.out.1,HJ.out.2⟩
  case round=>
   obtain ⟨i,j,X,rfl,rfl,hjn,HR⟩:=hrel
   by_cases hlt:j<n
   ·have hltz:(j:Int)<(n:Int):=by omega
    have hjZ:j<Z.length:=by have:=HN.out;omega
    obtain ⟨hk,ho,hg⟩:=HR.out
    have hxl:X.length=n:=by rw [hk.1];exact HN.out.symm
    obtain ⟨g',eg',hr⟩:=own_range17 ho j (by omega)
    injection eg' with eg'
    subst eg';rw [hk.get hjZ] at hr;have hij:i<n:=by have:=hk.2.1;omega
    have hijz:(i:Int)<(n:Int):=by omega
    have HTh:=hid (own_there17 ho (i*7) 7 (by omega));obtain ⟨x,hx⟩: ∃ x,x=Z[j]:=⟨_,rfl⟩
    rw [← hx] at hr;have hxm:x ∈ Z:=by rw [hx];exact List.getElem_mem hjZ
    have HKs:=hid (show q x.r=true→KpI Z q X i (j+1) from fun h=>hk.skip hjZ (by rw [← hx];exact h));have HKk:=hid (show q x.r=false→KpI Z q (X.set i x) (i+1) (j+1) from fun h=>by rw [hx];exact hk.keep hjZ (by rw [← hx];exact h));have HOp:=hid (fun (Y:World) (hY:Below wr.heap.size wr Y)=>own_put17 (own_same ho hY) i hij x);have HOs:=hid (fun (Y:World) (hY:Below wr.heap.size wr Y)=>own_same ho hY);have HThY:=hid (fun (Y:World) (hY:Below wr.heap.size wr Y)=>own_there17 (own_same ho hY) (i*7) 7 (by omega));have HG:=hid hg;obtain ⟨ca,cn,cc,ha,hn',hc,ba,bn,bc,f1,f2,f3⟩:=HF.out x hxm
    have HCL:=hid (fun (Y:World) (hY:Below wr.heap.size wr Y)=>HQ.out Y x hxm (grown_t17 HG.out (below_grown17 hY _)));obtain ⟨y,hy⟩: ∃ y,y=q x.r:=⟨_,rfl⟩
    rw [← hy] at HCL HKs HKk;obtain ⟨R,zc,zh,zb⟩:=x
    dsimp only at f1 f2 f3;subst f1 f2 f3;obtain ⟨U,hU⟩: ∃ U:ByteArray,(⟨R.url.toArray⟩:ByteArray)=U:=⟨_,rfl⟩
    obtain ⟨s1,hs1⟩: ∃ n,n=R.rp.st:=⟨_,rfl⟩
    obtain ⟨s2,hs2⟩: ∃ n,n=R.sto:=⟨_,rfl⟩
    obtain ⟨s3,hs3⟩: ∃ n,n=R.tn:=⟨_,rfl⟩
    have hcs:zCells ⟨R,.slice ca cn cc,.slice ha hn' hc,.slice ba bn bc⟩=[.string U,.slice ca cn cc,.int .i64 s1,.slice ha hn' hc,.slice ba bn bc,.int .i64 s2,.int .i64 s3]:=by unfold zCells;rw [← hU,← hs1,← hs2,← hs3]
    unfold zVal at HCL;rw [hcs] at hr HCL HOp;have HRg:=hid hr;have HBA:=hid ((Below.refl wr.heap.size wr).alloc (Nat.le_refl _) (.cells #[.string U,.slice ca cn cc,.int .i64 s1,.slice ha hn' hc,.slice ba bn bc,.int .i64 s2,.int .i64 s3] 92));have HXg:=hid (show g<wr.heap.size from (ho.lt g rfl).2);clear hk ho hg hr hx hxm hy hU hcs hs1 hs2 hs3 hxl HR;have HOne:=hid (all_oneCell_toArray (cs:=[.string U,.slice ca cn cc,.int .i64 s1,.slice ha hn' hc,.slice ba bn bc,.int .i64 s2,.int .i64 s3]) (by intro v hv;simp at hv;rcases hv with rfl | rfl | rfl | rfl | rfl | rfl | rfl<;>rfl))
    cases y with
    | false=>
      go_wp2_with (refine wpList_load_mid rfl 92 (.tmp 24) rfl g (j*7) rfl [.string U,.slice ca cn cc,.int .i64 s1,.slice ha hn' hc,.slice ba bn bc,.int .i64 s2,.int .i64 s3] _ HRg.out Tryz.underlying92 rfl sizeRw ?_)
      refine (HCL.out _ HBA.out).mono ?_;rintro e w2 ⟨rfl,hb2⟩
      have HB2:=hid (below2_Efc HBA.out hb2);have HRB:=hid (range_row_Cb (cs:=[.string U,.slice ca cn cc,.int .i64 s1,.slice ha hn' hc,.slice ba bn bc,.int .i64 s2,.int .i64 s3]) ((hb2.block _ (by simp)).trans (heap_alloc_new wr _)));have HTw:=hid (HThY.out w2 HB2.out);obtain ⟨w3,hw3⟩: ∃ W,W=w2.setCells g (i*7) [.string U,.slice ca cn cc,.int .i64 s1,.slice ha hn' hc,.slice ba bn bc,.int .i64 s2,.int .i64 s3]:=⟨_,rfl⟩
      have HW3:=hid hw3;have HP3:=hid (show w3.ownsRow B 92 7 (.slice (some ⟨g,0,none⟩) n cap) n (cellsZ (X.set i ⟨R,.slice ca cn cc,.slice ha hn' hc,.slice ba bn bc⟩))∧w.grownBy w3 (some g) by rw [hw3];exact ⟨HOp.out _ HB2.out,grown_t17 HG.out (grown_t17 (below_grown17 HB2.out _) (grown_cells17 g _ _ _))⟩);clear hw3;clear hb2
      go_wp2_with (first | (refine wpList_load_mid rfl 92 (.tmp 7) rfl wr.heap.size 0 rfl [.string U,.slice ca cn cc,.int .i64 s1,.slice ha hn' hc,.slice ba bn bc,.int .i64 s2,.int .i64 s3] _ HRB.out Tryz.underlying92 rfl sizeRw ?_) | (refine wpList_store_mid rfl 92 (.tmp 33) (.tmp 32) rfl g (i*7) #[.string U,.slice ca cn cc,.int .i64 s1,.slice ha hn' hc,.slice ba bn bc,.int .i64 s2,.int .i64 s3] rfl rfl HTw.out sizeRw HOne.out ?_;refine wpList_world17 HW3.out ?_))
      go_roundw
      case rel=>
       have e4:KpI Z q (X.set i ⟨R,.slice ca cn cc,.slice ha hn' hc,.slice ba bn bc⟩) (i+1) (j+1)∧w3.ownsRow B 92 7 (.slice (some ⟨g,0,none⟩) n cap) n (cellsZ (X.set i ⟨R,.slice ca cn cc,.slice ha hn' hc,.slice ba bn bc⟩))∧w.grownBy w3 (some g):=⟨HKk.out (by first | rfl | trivial),HP3.out.1,HP3.out.2⟩
       first
        | exact ⟨i+1,j+1,_,by go_num,by go_num,by omega,e4⟩
        | ((repeat apply Exists.intro);exact ⟨⟨i+1,j+1,_,by go_num,by go_num,by omega,e4⟩,rfl⟩)
      case measure=>simp [intOf];omega
    | true=>
      go_wp2_with (refine wpList_load_mid rfl 92 (.tmp 24) rfl g (j*7) rfl [.string U,.slice ca cn cc,.int .i64 s1,.slice ha hn' hc,.slice ba bn bc,.int .i64 s2,.int .i64 s3] _ HRg.out Tryz.underlying92 rfl sizeRw ?_)
      refine (HCL.out _ HBA.out).mono ?_;rintro e w2 ⟨rfl,hb2⟩
      have HB2:=hid (below2_Efc HBA.out hb2);have HRB:=hid (range_row_Cb (cs:=[.string U,.slice ca cn cc,.int .i64 s1,.slice ha hn' hc,.slice ba bn bc,.int .i64 s2,.int .i64 s3]) ((hb2.block _ (by simp)).trans (heap_alloc_new wr _)));have HTw:=hid (HThY.out w2 HB2.out);clear hb2
      go_wp2_with fail
      go_roundw
      case rel=>
       have e4:KpI Z q X i (j+1)∧w2.ownsRow B 92 7 (.slice (some ⟨g,0,none⟩) n cap) n (cellsZ X)∧w.grownBy w2 (some g):=⟨HKs.out (by first | rfl | trivial),HOs.out _ HB2.out,grown_t17 HG.out (below_grown17 HB2.out _)⟩
       first
        | exact ⟨i,j+1,_,rfl,by go_num,by omega,e4⟩
        | ((repeat apply Exists.intro);exact ⟨⟨i,j+1,_,rfl,by go_num,by omega,e4⟩,rfl⟩)
      case measure=>simp [intOf];omega
   ·obtain rfl:j=n:=by omega
    have hltz: ¬ (j:Int)<(j:Int):=by omega
    obtain ⟨hk,ho,hg⟩:=HR.out
    rw [HN.out] at hk;obtain ⟨e1,e2,e3⟩:=hk.done
    rw [← HN.out] at e3;obtain ⟨vs,hvs,hcl⟩: ∃ vs:List Value,vs.length=(j - i)*7 ∧ ∀ ty,(Builtin.clear_ #[79] ty #[.slice (some ⟨g,i*7,none⟩) (j - i) (cap - i)]).run Tryz.prog wr = .ok (.tuple #[]) (wr.setCells g (i*7) vs):=by
     have h0:=own_there17 ho (i*7) ((j - i)*7) (by omega)
     obtain ⟨vs,h1,h2⟩:=run_clear17 wr 0 g (i*7) (j - i) (cap - i) (by omega) h0
     exact ⟨vs,h1,fun ty=>h2⟩
    have HE:=hid (show (wr.setCells g (i*7) vs).ownsRow B 92 7 (.slice (some ⟨g,0,none⟩) (Z.filter fun z=> !q z.r).length cap) (Z.filter fun z=> !q z.r).length (cellsZ (Z.filter fun z=> !q z.r))∧w.grownBy (wr.setCells g (i*7) vs) (some g) by
     have h1:=own_cut17 ho i (by omega) vs (by omega)
     rw [e1] at h1;rw [e2];exact ⟨h1,grown_t17 hg (grown_cells17 g _ _ _)⟩)
    have HL:=hid e2;have hic:i≤cap:=by omega
    have hij:i<j:=by omega
    clear hk ho hg e1 e2 hvs HR
    go_wp2
    go_ret
    refine ⟨some ⟨g,0,none⟩,cap,?_,HE.out.1,HE.out.2,fun g' h=>by simpa [Value.ownBlock] using h⟩;rw [HL.out];rfl

end Go.Proofs.YtpopljcmkbchcaaGreatDoor

namespace Go.Proofs.YtpopljcmkbchcaaGreatDoor
open Go.RowKit

theorem cellsZ_oneF {Z:List Zr} (hform: ∀ z ∈ Z,∃ ca cn cc ha hn hc ba bn bc,z.c = .slice ca cn cc∧z.h = .slice ha hn hc∧z.b = .slice ba bn bc): ∀ u ∈ cellsZ Z,u.oneCell'=true:=by
 intro u hu;unfold cellsZ at hu;obtain ⟨z,hz,hu⟩:=List.mem_flatMap.1 hu
 obtain ⟨ca,cn,cc,ha,hn,hc,ba,bn,bc,e1,e2,e3⟩:=hform z hz
 unfold zCells at hu;rw [e1,e2,e3] at hu
 simp at hu;rcases hu with rfl | rfl | rfl | rfl | rfl | rfl | rfl<;>rfl

theorem own_del17 {w:World} {B g n cap:Nat} {T:TypeId} {X:List Zr} (h:w.ownsRow B T 7 (.slice (some ⟨g,0,none⟩) n cap) n (cellsZ X)) (i:Nat) (hi:i<n):(w.setCells g (i*7) (cellsZ (X.drop (i+1)))).ownsRow B T 7 (.slice (some ⟨g,0,none⟩) (n - 1) cap) (n - 1) (cellsZ (X.eraseIdx i)):=by
 have hX:X.length=n:=by have:=h.1;rw [cellsZ_len] at this;omega
 obtain ⟨cur,hg,hrow,_,hnc,hcm,hcs,htake⟩:=own_in17 h
 have hvl:(cellsZ (X.drop (i+1))).length=(n - 1 - i)*7:=by rw [cellsZ_len,List.length_drop];omega
 obtain ⟨vs,hvs⟩: ∃ vs,vs=cellsZ (X.drop (i+1)):=⟨_,rfl⟩
 rw [← hvs] at hvl ⊢;have h2:=heap_cells17 vs (i*7) w cur hrow (by rw [hcs,hvl];omega)
 have ht:(cur.toList.take (i*7)).length=i*7:=by rw [List.length_take,Array.length_toList (xs:=cur)];exact Nat.min_eq_left (by omega)
 have e1:cur.toList.take (i*7)=cellsZ (X.take i):=by
  rw [← cellsZ_take,← htake,List.take_take,Nat.min_eq_left (by omega)]
 have e2:X.eraseIdx i=X.take i++X.drop (i+1):=List.eraseIdx_eq_take_drop_succ X i;refine ⟨by rw [e2,cellsZ_app,List.length_append,← hvs,hvl,cellsZ_len,List.length_take];omega,.inr ⟨g,cap,_,rfl,hg,h2,by omega,hcm,?_,?_⟩⟩
 ·clear h2 hrow hcm htake h
  rw [List.size_toArray,List.length_append,List.length_append,ht,List.length_drop,Array.length_toList (xs:=cur)]
  omega
 ·show List.take ((n - 1)*7) (cur.toList.take (i*7)++(vs++_))=_
  have key: ∀ (P Q:List Value),P.length=i*7→(P++(vs++Q)).take ((n - 1)*7)=P++vs:=by
   intro P Q hP;rw [List.take_append,hP,List.take_of_length_le (l:=P) (by omega),List.take_append,List.take_of_length_le (l:=vs) (by omega),show (n - 1)*7 - i*7 - vs.length=0 by omega,List.take_zero,List.append_nil]
  rw [key _ _ ht,e1,e2,cellsZ_app,hvs]

set_option maxHeartbeats 2000000 in
set_option maxRecDepth 100000 in
theorem delete17_any (g cap i j:Nat) (hj:j=i+1) (Z:List Zr) (w:World) (B:Nat) (hown:w.ownsRow B 92 7 (.slice (some ⟨g,0,none⟩) Z.length cap) Z.length (cellsZ Z)) (hi:i<Z.length) (hl:Z.length≤1000000) (hform: ∀ z ∈ Z,∃ ca cn cc ha hn hc ba bn bc,z.c = .slice ca cn cc∧z.h = .slice ha hn hc∧z.b = .slice ba bn bc):
 Calls Tryz.prog 54 #[.slice (some ⟨g,0,none⟩) Z.length cap,.int .i64 (i:Int),.int .i64 (j:Int)] w fun e w'=>e = .returned (.slice (some ⟨g,0,none⟩) (Z.length - 1) cap)∧w'.ownsRow B 92 7 (.slice (some ⟨g,0,none⟩) (Z.length - 1) cap) (Z.length - 1) (cellsZ (Z.eraseIdx i))∧w.grownBy w' (some g):=by
 obtain ⟨i0,hi0,hz0,hz1,hz2⟩:=info3 infoRw
 obtain ⟨cur0,_,_,_,hncap,hcapm,_⟩:=own_in17 hown
 obtain ⟨news,hnews⟩: ∃ news,news=cellsZ (Z.drop (i+1)):=⟨_,rfl⟩
 obtain ⟨n,hn⟩: ∃ n,n=Z.length:=⟨_,rfl⟩
 have hlen:news.length=(n - j)*7:=by rw [hnews,cellsZ_len,List.length_drop,hn,hj]
 have hdel:=own_del17 hown i hi;rw [← hnews] at hdel;obtain ⟨A,hA,hsrc⟩: ∃ A:Addr,(if cap=j then some (⟨g,0,none⟩:Addr) else some ⟨g,j*7,none⟩)=some A∧Hid (∀ t u,news[t]? = some u→w.drew.cell? (A.add t)=some u):=by
  by_cases h:cap=j
  ·refine ⟨⟨g,0,none⟩,by simp [h],fun t u hu=> ?_⟩
   have h0:news.length=0:=by rw [hlen];omega
   rw [List.length_eq_zero_iff.1 h0] at hu;simp at hu
  ·refine ⟨⟨g,j*7,none⟩,by simp [h],fun t u hu=> ?_⟩
   rw [hnews,← cellsZ_drop,List.getElem?_drop,← hj] at hu
   rw [Addr.add_mid];have hlt:=(List.getElem?_eq_some_iff.1 hu).1;rw [cellsZ_len] at hlt;have:=hown.cellAt (j*7+t) hlt;show w.cell? _=_;rw [this];exact hu
 have s1:Hid (news.length=(n - j)*7):=hlen;have s2:Hid (∀ u ∈ news,u.oneCell'=true):=by
  intro u hu;rw [hnews] at hu;exact cellsZ_oneF (fun z hz=>hform z (List.mem_of_mem_drop hz)) u hu
 have s3:Hid (∀ t,t<news.length→(w.drew.cell? ⟨g,0+i*7+t,none⟩).isSome=true∧w.drew.frozen? ⟨g,0+i*7+t,none⟩=false):=by
  intro t ht;rw [hlen] at ht;have h0:=own_there17 hown (i*7) ((n - j)*7) (by omega)
  rw [Nat.zero_add];exact h0 t ht
 obtain ⟨W1,hW1⟩: ∃ W1,W1=w.drew.setCells g (0+i*7) news:=⟨_,rfl⟩
 have hO1:W1.ownsRow B 92 7 (.slice (some ⟨g,0,none⟩) (n - 1) cap) (n - 1) (cellsZ (Z.eraseIdx i)):=by
  rw [hW1,Nat.zero_add,hn]
  have hd:w.drew.ownsRow B 92 7 (.slice (some ⟨g,0,none⟩) Z.length cap) Z.length (cellsZ Z):=hown;have:=own_del17 hd i hi;rw [← hnews] at this;exact this
 have hG1:w.grownBy W1 (some g):=by
  rw [hW1];exact grown_t17 (b:=w.drew) ⟨rfl,rfl,rfl,Nat.le_refl _,fun _ _ _=>rfl⟩ (grown_cells17 g _ _ _)
 obtain ⟨vs,hvs,hcl⟩: ∃ vs:List Value,vs.length=7 ∧ ∀ ty,(Builtin.clear_ #[79] ty #[.slice (some ⟨g,(n - 1)*7,none⟩) 1 (cap - (n - 1))]).run Tryz.prog W1 = .ok (.tuple #[]) (W1.setCells g ((n - 1)*7) vs):=by
  have h0:=own_there17 hO1 ((n - 1)*7) (1*7) (by omega)
  obtain ⟨vs,h1,h2⟩:=run_clear17 W1 0 g ((n - 1)*7) 1 (cap - (n - 1)) (by omega) h0
  exact ⟨vs,h1,fun ty=>h2⟩
 have HE:=hid (show (W1.setCells g ((n - 1)*7) vs).ownsRow B 92 7 (.slice (some ⟨g,0,none⟩) (n - 1) cap) (n - 1) (cellsZ (Z.eraseIdx i))∧w.grownBy (W1.setCells g ((n - 1)*7) vs) (some g) by
  have h1:=own_cut17 hO1 (n - 1) (Nat.le_refl _) vs (by omega)
  rw [List.take_of_length_le (by rw [List.length_eraseIdx];split<;>omega)] at h1;exact ⟨h1,grown_t17 hG1 (grown_cells17 g _ _ _)⟩)
 have hW:Hid (W1=w.drew.setCells g (0+i*7) news):=hW1;rw [← hn] at hi hl hncap ⊢;have hic:i≤cap:=by omega
 have hjc:j≤cap:=by omega
 have hjn:j≤n:=by omega
 have hij:i<j:=by omega
 have hne:((i:Int)==(j:Int))=false:=beq_eq_false_iff_ne.2 (by omega)
 have hcl2: ∀ ty,(Builtin.clear_ #[79] ty #[.slice (some ⟨g,(i+(n - j))*7,none⟩) (n - (i+(n - j))) (cap - (i+(n - j)))]).run Tryz.prog W1 = .ok (.tuple #[]) (W1.setCells g ((n - 1)*7) vs):=by
  rw [show i+(n - j)=n - 1 by omega,show n - (n - 1)=1 by omega];exact hcl
 have HNJ:=hid (show i+(n - j)=n - 1 by omega);clear hown hnews hlen hdel hW1 hO1 hG1 hvs hform hn hcl hj
 go_enter Tryz.func54,Tryz.ntmps54
 go_wp2_with fail
 go_region_law (refine step_append_room rfl (.tmp 22) (.tmp 25) 79 rfl 92 i0 7 Tryz.underlying79 hi0 hz1 g 0 i cap (by simp [Act.eval,Act.put]) A (n - j) (cap - j) news (by simp [Act.eval,Act.put]) s1.out hsrc.out s2.out (by omega) s3.out ?_;rw [← hW.out])
 go_wp2
 go_ret
 refine ⟨?_,HE.out.1,HE.out.2⟩
 rw [← HNJ.out];rfl

end Go.Proofs.YtpopljcmkbchcaaGreatDoor
