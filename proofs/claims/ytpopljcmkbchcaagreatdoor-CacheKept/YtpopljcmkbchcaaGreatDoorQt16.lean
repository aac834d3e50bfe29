/-
  Walks and plain facts that this claim leans on, put together out of 9 texts: Ehm, Ehn, Efb, Eho, Ehw, Ehp, Pr, Ps, Lm.
-/
import Derived.Test.YtpopljcmkbchcaaGreatDoorProg
import Derived.Test.YtpopljcmkbchcaaGreatDoorQt1
import Derived.Test.YtpopljcmkbchcaaGreatDoorQt2
import Derived.Test.YtpopljcmkbchcaaGreatDoorQt3
import Derived.Test.YtpopljcmkbchcaaGreatDoorQt4
import Derived.Test.YtpopljcmkbchcaaGreatDoorQt5
import Derived.Test.YtpopljcmkbchcaaGreatDoorQt6
import Derived.Test.YtpopljcmkbchcaaGreatDoorQt7
import Derived.Test.YtpopljcmkbchcaaGreatDoorQt8
import Derived.Test.YtpopljcmkbchcaaGreatDoorQt9
import Derived.Test.YtpopljcmkbchcaaGreatDoorQt10
import Derived.Test.YtpopljcmkbchcaaGreatDoorQt11
import Derived.Test.YtpopljcmkbchcaaGreatDoorQt13
import Derived.Test.YtpopljcmkbchcaaGreatDoorQt15
import Derived.BigRegion
import Derived.Deep.RegionHeld
import Derived.Deep.RegionHeldLaw
import Derived.Lib.IndexAny
import Derived.WalkKit
import Derived.Lib.UnsafeStr
import Derived.Lib.BufferRead
import Derived.Lib.RuneBytes
import Derived.Laws.RangeAny
import Derived.Deep.LoopGhost
import Derived.Maps.OwnSet
import Derived.Maps.OwnOps
import Derived.Maps.AppendAt
import Derived.StringKeys
import Derived.BigQuiet
import Derived.Deep.QuietTactic
import Derived.LoopN
import Derived.RegionTactic
import Derived.Deep.RegionLaw
import Derived.Deep.RegionWith
import Derived.WalkSpells
import Derived.WalkLawsBesides
import Derived.Lib.FieldsP
import Derived.Lib.DecodeN
import Derived.Lib.IndexMore
import Derived.Lib.Join
import Derived.Lib.SmallJoins
import Derived.Laws.CopyOwn
import Derived.Laws.ResultCell
import Derived.Deep.MidRow
import Derived.Laws.OwnMore
import Derived.Below
import Derived.WalkSmall
import Derived.Lib.LaidTab
import Derived.Lib.AppendIntMem
import Derived.Laws.AppendOwn
import Derived.Laws.Runes
import Derived.Lib.OthersKept
import Derived.Lib.FrozenHead2
import Derived.Lib.Builder
import Derived.Lib.AppendStr
import Derived.Lib.Replace
import Derived.Shelf.GgClosure.GivesRunes
import Derived.Laws.BitsAll
import Derived.Laws.Shifts
import Derived.Deep.DeepAppendRoom
import Derived.Laws.IdiomStrings
import Derived.Laws.BytesString
import Derived.Laws.CopyRow
import Derived.Sort.OwnSorted
import Derived.Lib.SlicesCompact
import Derived.Deep.CutRange
import Derived.Shelf.Slices.In.SortNone
import Derived.Shelf.Slices.CompactS
import Derived.Lib.SliceRun
import Derived.Lib.ItoaLen
import Derived.Lib.Strings
import Derived.Laws.BitsAllLaws
import Derived.Lib.Bytealg
import Derived.Lib.BufferMore
import Derived.Shelf.Strings.Builder1
import Derived.Shelf.Strings.Builder2
import Derived.Shelf.Strings.OnBuilder
import Derived.Shelf.Strings.Trim
import Derived.Shelf.Small.Utf8
import Derived.Shelf.Small.Bits
import Derived.Shelf.Small.Strs
import Derived.Shelf.Small.Wraps
import Derived.Shelf.Strings.BuilderF
import Derived.Shelf.Strings.BuilderK
import Derived.Shelf.Strings.BuilderRune
import Derived.Shelf.Utf8.AppendRune
import Derived.Shelf.Utf8.AppendRunePlain
import Derived.Shelf.Strings.Builder2Cap
import Derived.Shelf.Strconv.Itoa0
import Derived.Shelf.Strconv.Itoa1
import Derived.Shelf.LaysM
import Derived.Shelf.Strconv.Itoa2
import Derived.Shelf.Strconv.Itoa3
import Derived.Shelf.Strings.Search1
import Derived.Shelf.Strings.Search2
import Derived.Shelf.Strings.Cut
import Derived.Shelf.Strings.Shaped
import Derived.Shelf.Sort.Plain
import Derived.Shelf.Strings.Prefix
import Derived.Shelf.Unicode.Latin
import Derived.Shelf.Strings.Runes
import Derived.Shelf.Strings.IndexAny
import Derived.Shelf.Strings.AsciiSet
import Derived.Shelf.Strings.IndexAnyAll
import Derived.Shelf.Unicode.DecodeSlow
import Derived.Shelf.Unicode.DecodeAny
import Derived.Shelf.Unicode.DecodeLast
import Derived.Shelf.Unicode.CaseLookup
import Derived.Shelf.Unicode.CaseConvert
import Derived.Shelf.Unicode.CaseTo
import Derived.Shelf.Unicode.CaseLaid
import Derived.Lib.SlTrimSet
import Derived.Shelf.Strings.SlTrimAscii
import Derived.Laws.Rows
import Derived.Laws.MakeOwn
import Derived.Deep.WholeRow
import Derived.Laws.AppendOwnNone
set_option linter.unusedSimpArgs false
set_option linter.unusedVariables false

namespace Go.Proofs.YtpopljcmkbchcaaGreatDoor
open Go.RowKit

variable {G : Nat → Prop}

theorem results_rp2 {fn:Func} {p q:Tmp} (h:fn.results = #[.cell p 30,.tmp q]) (tmps:Array Value) (w:World) (b:Nat) (st:Int) (vh vb:Value) (hp:tmps.getD p undef = .pointer (some ⟨b,0,none⟩)) (hc:w.rangeAt b 0 [.int .i64 st,vh,vb]):(results fn tmps).run Tryz.prog w = .ok (.tuple #[.agg #[.int .i64 st,vh,vb],tmps.getD q undef]) w:=by
 rw [Array.getD_eq_getD_getElem?] at hp;simp only [results,h]
 simp [Sem.run_bind,Result.andThen,hp,asAddr,run_loadVar_mid w b 0 30 [.int .i64 st,vh,vb] _ hc Tryz.underlying30 rfl (by kernel_rfl)]

def RenP (G:Nat→Prop) (p:Nat) (C:CaS) (u:List UInt8) (A B:List Hd) (now:Int) (w:World) (e:Ending) (w':World):Prop:=
 ∃ vh vb M',e = .returned (.tuple #[.agg #[.int .i64 (reRep C u A B).1.st,vh,vb],.bool (reRep C u A B).2])∧CaI G w' p M' (reV C u A B now) ∧
  w'.ownsRow M' 45 2 vh (reRep C u A B).1.hd.length (cellsH (reRep C u A B).1.hd)∧w'.ownsRow M' 5 1 vb (reRep C u A B).1.bd.length (cellsB (reRep C u A B).1.bd)∧TqC p w w'∧w.heap.size≤M'

set_option maxHeartbeats 4000000 in
set_option maxRecDepth 100000 in
theorem renew17_any (p M:Nat) (C:CaS) (u:ByteArray) (vA:Value) (A:List Hd) (st:Int) (vh:Value) (rb:Option Addr) (rn rc:Nat) (B:List Hd) (now:Int) (w:World) (hI:CaI G w p M C) (hG:CaG C) (hA:HdT w vA A) (hz:Szo A) (hB:HdT w vh B) (hzB:Szo B) (hN: ∀ g,w.heap.size≤g→G g):
 Calls Tryz.prog 21 #[.pointer (some ⟨p,0,none⟩),.string u,vA,.agg #[.int .i64 st,vh,.slice rb rn rc],.int .i64 now] w (RenP G p C u.data.toList A B now w):=by
 have HNw:=hid hN;clear hN;have HI:=hid hI;have HB:=hid hB;have HzB:=hid hzB;have HG:=hid hG;have hpM:p+1≤M∧M≤w.heap.size:=⟨hI.1.1,hI.1.2.1⟩
 obtain ⟨va,vac,rfl,_,_,_⟩:=hA.1.view
 obtain ⟨ra,rac,rfl,_,_,_⟩:=hB.1.view
 obtain ⟨nB,hnB⟩: ∃ n,n=B.length:=⟨_,rfl⟩
 rw [← hnB] at HB ⊢;obtain ⟨W1,hW1⟩: ∃ X,w.alloc (.cells #[.int .i64 st,.slice ra nB rac,.slice rb rn rc] 30)=X:=⟨_,rfl⟩
 obtain ⟨W2,hW2⟩: ∃ X,W1.alloc (.cells #[.int .i64 0,.slice none 0 0,.slice none 0 0] 30)=X:=⟨_,rfl⟩
 have hb1:Below w.heap.size w W1:=by rw [← hW1];exact (Below.refl _ w).alloc (Nat.le_refl _) _
 have hs1:W1.heap.size=w.heap.size+1:=by rw [← hW1];simp
 have hb2:Below W1.heap.size W1 W2:=by rw [← hW2];exact (Below.refl _ W1).alloc (Nat.le_refl _) _
 have hs2:W2.heap.size=W1.heap.size+1:=by rw [← hW2];simp
 have HB2:=hid (below2_Efc hb1 hb2);have HX2:=hid (show Rp3 W2 w.heap.size st (.slice ra nB rac) (.slice rb rn rc) from (hb2.block _ (by omega)).trans (by rw [← hW1];exact heap_alloc_new w _));have HQ2:=hid (show Rp3 W2 W1.heap.size 0 (.slice none 0 0) (.slice none 0 0) by rw [← hW2];exact heap_alloc_new W1 _);have HS1:=hid hs1;have HS2:=hid hs2;have HTk:=hid (take17_any p M C _ A u W2 (hI.kept ((below2_Efc hb1 hb2).mono hpM.2)) hG (hA.1.kept (below2_Efc hb1 hb2)) hz);have HPM:=hid hpM;obtain ⟨nA,hnA⟩: ∃ n,n=A.length:=⟨_,rfl⟩
 rw [← hnA] at HTk ⊢;clear hI hG hA hz hpM hb1 hb2 hs1 hs2 hnA hB hzB hnB
 go_enter Tryz.func21,Tryz.ntmps21
 go_wp2_with fail
 refine HTk.out.mono ?_;rintro e w3 htk;clear hW1 hW2 HTk;rcases htk with ⟨hnone,rfl,hb3⟩ | ⟨z,R,hsome,rfl,hdz,hci,htq⟩
 ·have hb4:Below W2.heap.size W2 (w3.alloc (.cells #[.string ⟨#[]⟩,.slice none 0 0,.int .i64 0,.slice none 0 0,.slice none 0 0,.int .i64 0,.int .i64 0] 92)):=hb3.trans (((Below.refl _ w3).alloc (Nat.le_refl _) _).mono hb3.size)
  have HQ4:=hid (show Rp3 (w3.alloc (.cells #[.string ⟨#[]⟩,.slice none 0 0,.int .i64 0,.slice none 0 0,.slice none 0 0,.int .i64 0,.int .i64 0] 92)) W1.heap.size 0 (.slice none 0 0) (.slice none 0 0) from (hb4.block _ (by have:=HS2.out;omega)).trans HQ2.out);have HT4:=hid (show (w3.alloc (.cells #[.string ⟨#[]⟩,.slice none 0 0,.int .i64 0,.slice none 0 0,.slice none 0 0,.int .i64 0,.int .i64 0] 92)).there W1.heap.size 0 3 from fun t ht=>⟨by rw [Nat.zero_add,Lib.cell_of_heap HQ4.out];simp;omega,Lib.frozen_of_heap HQ4.out _⟩)
  have HTb:=hid (show (w3.alloc (.cells #[.string ⟨#[]⟩,.slice none 0 0,.int .i64 0,.slice none 0 0,.slice none 0 0,.int .i64 0,.int .i64 0] 92)).there w3.heap.size 0 7 from fun t ht=>⟨by rw [Nat.zero_add,Lib.cell_of_heap (heap_alloc_new w3 _)];simp;omega,Lib.frozen_of_heap (heap_alloc_new w3 _) _⟩);have HFs:=hid (store_fresh17 w3 92 (.string ⟨#[]⟩) (.slice none 0 0) (.int .i64 0) (.slice none 0 0) (.slice none 0 0) (.int .i64 0) (.int .i64 0) (.string ⟨#[]⟩) (.slice none 0 0) (.int .i64 0) (.slice none 0 0) (.slice none 0 0) (.int .i64 0) (.int .i64 0))
  have HZ1:=hid (all_oneCell_toArray (cs:=[.string ⟨#[]⟩,.slice none 0 0,.int .i64 0,.slice none 0 0,.slice none 0 0,.int .i64 0,.int .i64 0]) (by intro v hv;simp at hv;rcases hv with rfl | rfl | rfl | rfl | rfl | rfl | rfl<;>rfl));have HZP:=hid (all_oneCell_toArray (cs:=[.int .i64 0,.slice none 0 0,.slice none 0 0]) (by intro v hv;simp at hv;rcases hv with rfl | rfl<;>rfl))
  obtain ⟨W5,hW5⟩: ∃ X,X=(w3.alloc (.cells #[.string ⟨#[]⟩,.slice none 0 0,.int .i64 0,.slice none 0 0,.slice none 0 0,.int .i64 0,.int .i64 0] 92)).setCells W1.heap.size 0 [.int .i64 0,.slice none 0 0,.slice none 0 0]:=⟨_,rfl⟩
  have HW5:=hid hW5;have HFin:=hid (show W5.rangeAt W1.heap.size 0 [.int .i64 0,.slice none 0 0,.slice none 0 0]∧Below w.heap.size w W5 by
   rw [hW5];exact ⟨World.rangeAt_setCells_same _ _ _ _ HT4.out,below_setC17 (by have:=HS1.out;omega) _ 0 _ (below2_Efc HB2.out hb4)⟩)
  have HNo:=hid hnone;clear hnone hb3 hb4 hW5
  go_wp2_with (first | (refine wpList_store_mid rfl 92 (.tmp 12) (.tmp 19) rfl w3.heap.size 0 #[.string ⟨#[]⟩,.slice none 0 0,.int .i64 0,.slice none 0 0,.slice none 0 0,.int .i64 0,.int .i64 0] rfl rfl HTb.out sizeRw HZ1.out ?_;rw [HFs.out]) | (refine wpList_store_mid rfl 30 (.tmp 10) (.tmp 23) rfl W1.heap.size 0 #[.int .i64 0,.slice none 0 0,.slice none 0 0] rfl rfl HT4.out sizeRp HZP.out ?_;refine wpList_world17 HW5.out ?_))
  have e1:reRep C u.data.toList A B=(⟨0,[],[]⟩,false):=by unfold reRep;rw [HNo.out]
  have e2:reV C u.data.toList A B now=C:=by unfold reV;rw [HNo.out]
  refine bodyPost_ret (results_rp2 rfl _ _ W1.heap.size 0 (.slice none 0 0) (.slice none 0 0) rfl HFin.out.1) rfl ?_;unfold RenP;rw [e1,e2]
  exact ⟨_,_,w.heap.size,rfl,HI.out.size.kept HFin.out.2,World.ownsRow_nil _ _ _ _,World.ownsRow_nil _ _ _ _,Tq.below HFin.out.2 (by have:=HPM.out;omega),Nat.le_refl _⟩
 ·have hsz3:W2.heap.size≤w3.heap.size:=htq.1.size
  have hRl:R.length≤1000:=by
   obtain ⟨_,k,_,_,_,hR⟩:=takeV_mem hsome
   rw [hR];have:=List.length_eraseIdx_le C.rows k;have:=HG.out.1;omega
  have hzr:z.r ∈ C.rows:=by
   obtain ⟨_,k,_,hk,hzr,_⟩:=takeV_mem hsome
   exact List.mem_of_getElem? hzr
  obtain ⟨hk1,hk2,hk3,hk4,hk5⟩:=HG.out.2.2 _ hzr
  have HCI:=hid hci;have HTq3:=hid ((Tq.below HB2.out (by have:=HPM.out;omega):TqC p w W2).trans htq);have HX3:=hid (show Rp3 w3 w.heap.size st (.slice ra nB rac) (.slice rb rn rc) from (htq.2 _ _ _ _ HX2.out (by decide) (by decide)).trans HX2.out);have HQ3:=hid (show Rp3 w3 W1.heap.size 0 (.slice none 0 0) (.slice none 0 0) from (htq.2 _ _ _ _ HQ2.out (by decide) (by decide)).trans HQ2.out);obtain ⟨ca,cc,ha,hc,ba,bc,f1,f2,f3⟩:=hdz.form
  obtain ⟨R0,zc,zh,zb⟩:=z
  dsimp only at f1 f2 f3 hk1 hk2 hk3 hk4 hk5 hsome;subst f1 f2 f3;have HDz:=hid hdz;have HRen:=hid (fun (Y:World) (hY:Below w3.heap.size w3 Y)=>renewed_any (.slice ha R0.rp.hd.length hc) (.slice ra nB rac) R0.rp.hd B Y (own_hd ((hdz.kept hY).2.1.1)) hk1 ((HB.out.tq (HTq3.out.more hY (by have:=HPM.out;have:=HB2.out.size;omega))).1) HzB.out);have HBdY:=hid (fun (Y:World) (hY:Below w3.heap.size w3 Y)=>(hdz.kept hY).2.2.1)
  have HStV:=hid (fun (Y:World) (hY:Below w3.heap.size w3 Y) (v4:Value) (L4:List Hd) (ho:Y.ownsRow (p+1) 45 2 v4 L4.length (cellsH L4)) (hv4: ∀ g,v4.ownBlock=some g→G g)=>store17k_any p w3.heap.size ⟨R,C.tn⟩ ⟨⟨R0.url,R0.ch,⟨R0.rp.st,L4,R0.rp.bd⟩,R0.sto,R0.tn⟩,.slice ca R0.ch.length cc,v4,.slice ba R0.rp.bd.length bc⟩ now Y (hci.kept hY) hRl HG.out.2.1 ⟨(hdz.kept hY).1.mono hY.size,OwM.ofH ho hv4,(hdz.kept hY).2.2.mono hY.size⟩);obtain ⟨U,hU⟩: ∃ U:ByteArray,(⟨R0.url.toArray⟩:ByteArray)=U:=⟨_,rfl⟩
  obtain ⟨cn,hcn⟩: ∃ n,n=R0.ch.length:=⟨_,rfl⟩
  obtain ⟨hn',hhn⟩: ∃ n,n=R0.rp.hd.length:=⟨_,rfl⟩
  obtain ⟨bn,hbn⟩: ∃ n,n=R0.rp.bd.length:=⟨_,rfl⟩
  obtain ⟨s1,hs1⟩: ∃ n,n=R0.rp.st:=⟨_,rfl⟩
  obtain ⟨s2,hs2⟩: ∃ n,n=R0.sto:=⟨_,rfl⟩
  obtain ⟨s3,hs3⟩: ∃ n,n=R0.tn:=⟨_,rfl⟩
  obtain ⟨L4,hL4⟩: ∃ l,l=renV R0.rp.hd B:=⟨_,rfl⟩
  obtain ⟨l0,hl0⟩: ∃ l,l=R0.rp.bd:=⟨_,rfl⟩
  have hzv:zVal ⟨R0,.slice ca R0.ch.length cc,.slice ha R0.rp.hd.length hc,.slice ba R0.rp.bd.length bc⟩ = .agg #[.string U,.slice ca cn cc,.int .i64 s1,.slice ha hn' hc,.slice ba bn bc,.int .i64 s2,.int .i64 s3]:=by
   rw [← hcn,← hhn,← hbn];unfold zVal zCells;rw [← hU,← hs1,← hs2,← hs3]
  have HZv4:=hid (fun (a4:Option Addr) (m4 c4:Nat)=>(show zVal ⟨⟨R0.url,R0.ch,⟨s1,L4,l0⟩,s2,s3⟩,.slice ca cn cc,.slice a4 m4 c4,.slice ba bn bc⟩ = .agg #[.string U,.slice ca cn cc,.int .i64 s1,.slice a4 m4 c4,.slice ba bn bc,.int .i64 s2,.int .i64 s3] by unfold zVal zCells;rw [← hU]));rw [hzv];have HV:=hid (show reRep C u.data.toList A B=(⟨s1,L4,l0⟩,true)∧reV C u.data.toList A B now=⟨R++[⟨R0.url,R0.ch,⟨s1,L4,l0⟩,now,C.tn+1⟩],C.tn+1⟩ by
   unfold reRep reV;rw [hsome];dsimp only;unfold reRow;rw [← hs1,← hL4,← hl0];exact ⟨rfl,rfl⟩)
  have HLk:=hid (show L4.length≤1000000∧l0.length≤1000000 by
   refine ⟨?_,by rw [hl0];exact hk4⟩
   rw [hL4];have:=(Hk.ren (B:=B) hk1).1
   omega)
  have HBn:=hid (show bn=l0.length by rw [hbn,hl0]);rw [← hhn,← hL4] at HRen;rw [← hbn,← hl0] at HBdY;rw [← hcn,← hbn,← hs1,← hs2,← hs3,← hl0] at HStV;obtain ⟨W4,hW4⟩: ∃ X,w3.alloc (.cells #[.string U,.slice ca cn cc,.int .i64 s1,.slice ha hn' hc,.slice ba bn bc,.int .i64 s2,.int .i64 s3] 92)=X:=⟨_,rfl⟩
  have HB4:=hid (show Below w3.heap.size w3 W4 by rw [← hW4];exact (Below.refl _ w3).alloc (Nat.le_refl _) _);have HBx4:=hid (show W4.heap[w3.heap.size]? = some (.cells #[.string U,.slice ca cn cc,.int .i64 s1,.slice ha hn' hc,.slice ba bn bc,.int .i64 s2,.int .i64 s3] 92 (0,0)) by rw [← hW4];exact heap_alloc_new w3 _);have HX4:=hid (show Rp3 W4 w.heap.size st (.slice ra nB rac) (.slice rb rn rc) from (HB4.out.block _ (Array.getElem?_eq_some_iff.1 HX3.out).1).trans HX3.out);obtain ⟨_,x1,_,_,_,_⟩:=HX4.out.cells
  have k3:W4.cell? ⟨w3.heap.size,3,none⟩=some (.slice ha hn' hc):=by rw [Lib.cell_of_heap HBx4.out];rfl
  have HPw3:=hid (show p+1≤w3.heap.size from hci.1.1);clear hdz htq hsome hci hsz3 hRl hzr hk1 hk2 hk3 hk4 hk5 hU hcn hhn hbn hs1 hs2 hs3 hL4 hl0 hzv
  go_wp2_with fail
  refine (HRen.out W4 HB4.out).mono ?_;rintro e w5 ⟨u5,rfl,ho5,hb5⟩
  clear x1 k3 hW4;obtain ⟨a4,c4,rfl⟩:=own_sl16 ho5
  obtain ⟨m4,hm4⟩: ∃ x,x=L4.length:=⟨_,rfl⟩
  rw [← hm4] at ho5 ⊢;have hbx5:w5.heap[w3.heap.size]? = some (.cells #[.string U,.slice ca cn cc,.int .i64 s1,.slice ha hn' hc,.slice ba bn bc,.int .i64 s2,.int .i64 s3] 92 (0,0)):=(hb5.block _ (Array.getElem?_eq_some_iff.1 HBx4.out).1).trans HBx4.out;have j3:w5.cell? ⟨w3.heap.size,3,none⟩=some (.slice ha hn' hc):=by rw [Lib.cell_of_heap hbx5];rfl
  have y3:w5.frozen? ⟨w3.heap.size,3,none⟩=false:=Lib.frozen_of_heap hbx5 3
  obtain ⟨W6,hW6⟩: ∃ X,w5.setCell ⟨w3.heap.size,3,none⟩ (.slice a4 m4 c4)=X:=⟨_,rfl⟩
  have HB6:=hid (show Below w3.heap.size w3 W6 by rw [← hW6];exact (below2_Efc HB4.out hb5).setCell (p:=⟨w3.heap.size,3,none⟩) (Nat.le_refl _) _);have HBx6:=hid (show W6.heap[w3.heap.size]? = some (.cells #[.string U,.slice ca cn cc,.int .i64 s1,.slice a4 m4 c4,.slice ba bn bc,.int .i64 s2,.int .i64 s3] 92 (0,0)) by rw [← hW6];exact Lib.heap_setCell_same hbx5 (i:=3) _);have HRg6:=hid (range_row_Cb (cs:=[.string U,.slice ca cn cc,.int .i64 s1,.slice a4 m4 c4,.slice ba bn bc,.int .i64 s2,.int .i64 s3]) HBx6.out);have HO6:=hid (show W6.ownsRow W4.heap.size 45 2 (.slice a4 m4 c4) m4 (cellsH L4) by
   rw [← hW6];refine ownsRow_same ho5 fun g hg=>heap_setCell_other _ _ _ _ (fun e=> ?_)
   have h1:=(ho5.lt g hg).1;have h2:=(Array.getElem?_eq_some_iff.1 HBx4.out).1;have e:g=w3.heap.size:=e
   omega)
  have HSt:=hid (show Calls Tryz.prog 55 #[.pointer (some ⟨p,0,none⟩),.agg #[.string U,.slice ca cn cc,.int .i64 s1,.slice a4 m4 c4,.slice ba bn bc,.int .i64 s2,.int .i64 s3],.int .i64 now] W6 fun e w'=>e = .returned (.tuple #[])∧CaI G w' p w'.heap.size (reV C u.data.toList A B now)∧TqC p W6 w' ∧ ∀ k,w3.heap.size≤k→k<W6.heap.size→w'.heap[k]? = W6.heap[k]? from by
   have h:=HStV.out W6 HB6.out (.slice a4 m4 c4) L4 (by rw [← hm4];exact own_low17 HO6.out (by have:=HPw3.out;have:=HB4.out.size;omega)) (fun g hg=>HNw.out g (by (try rw [← hm4] at hg);have:=(HO6.out.lt g hg).1;have:=HTq3.out.1.size;have:=HB4.out.size;omega))
   rw [HZv4.out a4 m4 c4] at h;rw [HV.out.2];exact h)
  have HM4:=hid hm4;clear ho5 hb5 hbx5 hm4
  go_wp2_with (refine wpList_load_mid rfl 92 (.tmp 12) rfl w3.heap.size 0 rfl [.string U,.slice ca cn cc,.int .i64 s1,.slice a4 m4 c4,.slice ba bn bc,.int .i64 s2,.int .i64 s3] _ HRg6.out Tryz.underlying92 rfl sizeRw ?_)
  refine HSt.out.mono ?_;rintro e w7 ⟨rfl,hc7,ht7,hk7⟩
  clear hW6 j3 y3;have HC7:=hid hc7;have HT7:=hid ((HTq3.out.more HB6.out (by have:=HPw3.out;omega)).trans ht7);have hbx7:w7.heap[w3.heap.size]? = some (.cells #[.string U,.slice ca cn cc,.int .i64 s1,.slice a4 m4 c4,.slice ba bn bc,.int .i64 s2,.int .i64 s3] 92 (0,0)):=(hk7 _ (Nat.le_refl _) (Array.getElem?_eq_some_iff.1 HBx6.out).1).trans HBx6.out;have HRg7:=hid (show w7.rangeAt w3.heap.size 2 [.int .i64 s1,.slice a4 m4 c4,.slice ba bn bc] from fun j v hv=>by
   rw [Lib.cell_of_heap hbx7]
   match j,hv with
   | 0,hv=>simpa using hv
   | 1,hv=>simpa using hv
   | 2,hv=>simpa using hv
   | j+3,hv=>simp at hv)
  have hq6:Rp3 W6 W1.heap.size 0 (.slice none 0 0) (.slice none 0 0):=(HB6.out.block _ (Array.getElem?_eq_some_iff.1 HQ3.out).1).trans HQ3.out;have HQ7:=hid (show Rp3 w7 W1.heap.size 0 (.slice none 0 0) (.slice none 0 0) from (ht7.2 _ _ _ _ hq6 (by decide) (by decide)).trans hq6);have HCo:=hid (copied_any s1 (.slice a4 m4 c4) (.slice ba bn bc) L4 l0 w7 (by rw [← HM4.out];exact own_rw (ht7.own HO6.out (by decide) (by decide))) (by rw [← HBn.out];exact own_rw (ht7.own (HBdY.out W6 HB6.out) (by decide) (by decide))) HLk.out.1 HLk.out.2);rw [← HM4.out,← HBn.out] at HCo;clear hc7 ht7 hk7 hbx7 hq6
  go_wp2_with (refine wpList_load_mid rfl 30 (.tmp 36) rfl w3.heap.size 2 rfl [.int .i64 s1,.slice a4 m4 c4,.slice ba bn bc] _ HRg7.out Tryz.underlying30 rfl sizeRp ?_)
  refine HCo.out.mono ?_;rintro e w8 ⟨u8,v8,rfl,ho8,hob8,hb8⟩
  obtain ⟨a8,c8,rfl⟩:=own_sl16 ho8
  obtain ⟨b8,d8,rfl⟩:=own_sl16 hob8
  have hq8:Rp3 w8 W1.heap.size 0 (.slice none 0 0) (.slice none 0 0):=(hb8.block _ (Array.getElem?_eq_some_iff.1 HQ7.out).1).trans HQ7.out;have HT8:=hid (show w8.there W1.heap.size 0 3 from fun t ht=>⟨by rw [Nat.zero_add,Lib.cell_of_heap hq8];simp;omega,Lib.frozen_of_heap hq8 _⟩);have HOne:=hid (all_oneCell_toArray (cs:=[.int .i64 s1,.slice a8 m4 c8,.slice b8 bn d8]) (by intro v hv;simp at hv;rcases hv with rfl | rfl | rfl<;>rfl));obtain ⟨W9,hW9⟩: ∃ X,X=w8.setCells W1.heap.size 0 [.int .i64 s1,.slice a8 m4 c8,.slice b8 bn d8]:=⟨_,rfl⟩
  have HW9:=hid hW9;have HFin:=hid (show W9.rangeAt W1.heap.size 0 [.int .i64 s1,.slice a8 m4 c8,.slice b8 bn d8]∧CaI G W9 p w7.heap.size (reV C u.data.toList A B now)∧TqC p w W9∧W9.ownsRow w7.heap.size 45 2 (.slice a8 m4 c8) m4 (cellsH L4)∧W9.ownsRow w7.heap.size 5 1 (.slice b8 bn d8) bn (cellsB l0) from by
   have ht:=tqF_sets hq8 [.int .i64 s1,.slice a8 m4 c8,.slice b8 bn d8];rw [hW9];exact ⟨World.rangeAt_setCells_same _ _ _ _ HT8.out,(HC7.out.kept hb8).tqF ht (by have:=HPM.out;have:=HS1.out;omega) (by decide) (by decide) (by decide) (by decide) (by decide),tqC_new (HT7.out.more hb8 (by have:=HPM.out;have:=HT7.out.1.size;omega)) (by have:=HS1.out;omega) (by have:=HPM.out;omega) _,ht.own ho8 (by decide) (by decide),ht.own hob8 (by decide) (by decide)⟩)
  clear ho8 hob8 hb8 hq8 hW9
  go_wp2_with (refine wpList_store_mid rfl 30 (.tmp 10) (.tmp 38) rfl W1.heap.size 0 #[.int .i64 s1,.slice a8 m4 c8,.slice b8 bn d8] rfl rfl HT8.out sizeRp HOne.out ?_;refine wpList_world17 HW9.out ?_)
  refine bodyPost_ret (results_rp2 rfl _ _ W1.heap.size s1 (.slice a8 m4 c8) (.slice b8 bn d8) rfl HFin.out.1) rfl ?_;unfold RenP;rw [HV.out.1];dsimp only;rw [← HM4.out,← HBn.out];exact ⟨_,_,w7.heap.size,rfl,HFin.out.2.1,HFin.out.2.2.2.1,HFin.out.2.2.2.2,HFin.out.2.2.1,HT7.out.1.size⟩

end Go.Proofs.YtpopljcmkbchcaaGreatDoor

namespace Go.Proofs.YtpopljcmkbchcaaGreatDoor
open Go.RowKit

variable {G : Nat → Prop}

set_option maxHeartbeats 1000000 in
theorem new17_any (w:World) (h5:G5 w) (hg:gMax<w.heap.size):
 Calls Tryz.prog 9 #[] w fun e w'=>e = .returned (.pointer (some ⟨w.heap.size,0,none⟩))∧CaI G w' w.heap.size w'.heap.size ⟨[],0⟩∧Below w.heap.size w w':=by
 have HB:=hid (show Below w.heap.size w (w.alloc (.cells #[.slice none 0 0,.int .i64 0] 81)) from (Below.refl _ w).alloc (Nat.le_refl _) _);have HC:=hid (show CaI G (w.alloc (.cells #[.slice none 0 0,.int .i64 0] 81)) w.heap.size (w.alloc (.cells #[.slice none 0 0,.int .i64 0] 81)).heap.size ⟨[],0⟩ from
  CaI.mk17 hg (h5.kept HB.out) none 0 0 [] rfl (heap_alloc_new w _) (World.ownsRow_nil _ _ _ _) rfl (fun z hz=>by simp at hz))
 clear h5 hg
 go_enter Tryz.func9,Tryz.ntmps9
 go_wp2
 go_ret
 exact ⟨rfl,HC.out,HB.out⟩

set_option maxHeartbeats 2000000 in
theorem drop1_any (pu:Nat) (V:ByteArray) (z:Zr) (w:World) (B M:Nat) (hp:w.cell? ⟨pu,0,none⟩=some (.string V)) (hd:DenZ G w B M z):
 Calls Tryz.prog 80 #[zVal z,.pointer (some ⟨pu,0,none⟩)] w fun e w'=>e = .returned (.bool (decide (z.r.url=V.data.toList)))∧Below w.heap.size w w':=by
 obtain ⟨ca,cc,ha,hc,ba,bc,f1,f2,f3⟩:=hd.form
 obtain ⟨R,zc,zh,zb⟩:=z
 dsimp only at f1 f2 f3;subst f1 f2 f3;obtain ⟨U,hU⟩: ∃ U:ByteArray,(⟨R.url.toArray⟩:ByteArray)=U:=⟨_,rfl⟩
 obtain ⟨cn,hcn⟩: ∃ n,n=R.ch.length:=⟨_,rfl⟩
 obtain ⟨hn',hhn⟩: ∃ n,n=R.rp.hd.length:=⟨_,rfl⟩
 obtain ⟨bn,hbn⟩: ∃ n,n=R.rp.bd.length:=⟨_,rfl⟩
 obtain ⟨s1,hs1⟩: ∃ n,n=R.rp.st:=⟨_,rfl⟩
 obtain ⟨s2,hs2⟩: ∃ n,n=R.sto:=⟨_,rfl⟩
 obtain ⟨s3,hs3⟩: ∃ n,n=R.tn:=⟨_,rfl⟩
 have hUl:U.data.toList=R.url:=by rw [← hU]
 have HE:=hid (show decide (R.url=V.data.toList)=decide (U=V) by
  have e:(R.url=V.data.toList) ↔ U=V:=by
   rw [← hUl];exact ⟨fun h=>xba h,fun h=>by rw [h]⟩
  simp only [e])
 have hv:zVal ⟨R,.slice ca R.ch.length cc,.slice ha R.rp.hd.length hc,.slice ba R.rp.bd.length bc⟩ = .agg #[.string U,.slice ca cn cc,.int .i64 s1,.slice ha hn' hc,.slice ba bn bc,.int .i64 s2,.int .i64 s3]:=by
  rw [← hcn,← hhn,← hbn];unfold zVal zCells;rw [← hU,← hs1,← hs2,← hs3]
 rw [hv];dsimp only;rw [HE.out];obtain ⟨W1,hW1⟩: ∃ Y,w.alloc (.cells #[.string U,.slice ca cn cc,.int .i64 s1,.slice ha hn' hc,.slice ba bn bc,.int .i64 s2,.int .i64 s3] 92)=Y:=⟨_,rfl⟩
 have HB:=hid (show Below w.heap.size w W1 by rw [← hW1];exact (Below.refl _ w).alloc (Nat.le_refl _) _);have HX:=hid (show W1.heap[w.heap.size]? = some (.cells #[.string U,.slice ca cn cc,.int .i64 s1,.slice ha hn' hc,.slice ba bn bc,.int .i64 s2,.int .i64 s3] 92 (0,0)) by rw [← hW1];exact heap_alloc_new w _);have d0:W1.cell? ⟨w.heap.size,0,none⟩=some (.string U):=by rw [Lib.cell_of_heap HX.out];rfl
 have d1:W1.cell? ⟨pu,0,none⟩=some (.string V):=(HB.out.cell (World.block_lt_of_cell? w _ hp)).trans hp
 clear hd hU hcn hhn hbn hs1 hs2 hs3 hUl hv hp HE;by_cases h:U=V
 ·subst h
  go_enter Tryz.func80,Tryz.ntmps80
  go_wp2
  go_ret
  exact ⟨by simp,HB.out⟩
 ·have hne:(U.toList==V.toList)=false:=strNe h
  have HD:=hid (show decide (U=V)=false from decide_eq_false h);clear h
  go_enter Tryz.func80,Tryz.ntmps80
  go_wp2
  go_ret
  exact ⟨by rw [HD.out];rfl,HB.out⟩

theorem enters_d1: ∀ args w,(callFunc 80 args).run Tryz.prog w = .ok (.enter 80 args) w:=enters_of Tryz.func80 (by kernel_rfl) rfl

set_option maxHeartbeats 2000000 in
set_option maxRecDepth 100000 in
theorem drop17_any (p M:Nat) (C:CaS) (u:ByteArray) (w:World) (hI:CaI G w p M C) (hn:C.rows.length≤1000):
 Calls Tryz.prog 23 #[.pointer (some ⟨p,0,none⟩),.string u] w fun e w'=>e = .returned (.int .i64 ((C.rows.length:Int) - ((drpV C u.data.toList).rows.length:Int)))∧CaI G w' p w'.heap.size (drpV C u.data.toList)∧TqC p w w':=by
 obtain ⟨⟨h1,h2,h3,h5⟩,a,c,Z,hrow,hown,hZ,hden⟩:=hI
 obtain ⟨n,hnn⟩: ∃ n,n=C.rows.length:=⟨_,rfl⟩
 have HN:=hid (show n=Z.length by rw [hnn,← hZ];simp);rw [← hnn] at hrow hown hn ⊢;obtain ⟨W1,hW1⟩: ∃ X,w.alloc (.cells #[.string u] 9)=X:=⟨_,rfl⟩
 have hb1:Below w.heap.size w W1:=by rw [← hW1];exact (Below.refl _ w).alloc (Nat.le_refl _) _
 have hx1:W1.heap[w.heap.size]? = some (.cells #[.string u] 9 (0,0)):=by rw [← hW1];exact heap_alloc_new w _
 have hr1:W1.heap[p]? = some (.cells #[.slice a n c,.int .i64 C.tn] 81 (0,0)):=(hb1.block p (by omega)).trans hrow;have ho1:=own_same hown.1 hb1;have HZ1: ∃ X,X=Z.filter fun z=> !decide (z.r.url=u.data.toList):=⟨_,rfl⟩
 obtain ⟨Z1,hZ1⟩:=HZ1
 have HMap:=hid (show Z1.map (·.r)=(drpV C u.data.toList).rows by rw [hZ1];unfold drpV;dsimp only;rw [← hZ,List.filter_map];rfl);have HDF:=hid (deleteF17_any 80 #[.pointer (some ⟨w.heap.size,0,none⟩)] enters_d1 (fun r=>decide (r.url=u.data.toList)) (.slice a n c) Z W1 (p+1) (by rw [← HN.out];exact ho1) (by have:=HN.out;omega) (fun z hz=>by
  obtain ⟨ca,cc,ha,hc,ba,bc,f1,f2,f3⟩:=(hden z hz).form
  exact ⟨_,_,_,_,_,_,_,_,_,f1,f2,f3⟩) (fun X z hz hX=>by
  have hq:TqC p W1 X:=Tq.grown hX (fun g hg=>by
   obtain ⟨cur,hc⟩:=ownsRow_kind ho1 g hg
   have:=(ho1.lt g hg).1;exact ⟨by omega,cur,_,hc⟩) (by have:=hb1.size;omega)
  refine drop1_any w.heap.size u z X (p+1) M ?_ ((hden z hz).kept (hb1.mono h2) |>.tq hq);rw [Lib.cell_of_heap ((hq.2 _ _ _ _ hx1 (by decide) (by decide)).trans hx1)]
  rfl))
 rw [← hZ1] at HDF;have HZm:=hid (show ∀ z ∈ Z1,DenZ G w (p+1) M z from fun z hz=>by rw [hZ1] at hz;exact hden z (List.mem_filter.1 hz).1);obtain ⟨n1,hn1⟩: ∃ x,x=Z1.length:=⟨_,rfl⟩
 rw [← hn1] at HDF;have HN1:=hid (show ((drpV C u.data.toList).rows.length:Int)=(n1:Int) by rw [← HMap.out,List.length_map,hn1]);rw [HN1.out];have HG:=hid (show gMax<p∧G5 w∧p+1≤M∧M≤w.heap.size from ⟨h3,h5,h1,h2⟩);have HR1:=hid hr1;have HO1:=hid ho1;have HB1:=hid hb1;have HNl:=hid hn1;have d0:W1.cell? ⟨p,0,none⟩=some (.slice a n c):=by rw [Lib.cell_of_heap hr1];rfl
 have HGb:=hid (fun g (hg:(Value.slice a n c).ownBlock=some g)=>hown.2 g hg);have hnl:n1≤1000:=by
  rw [hn1,hZ1]
  have:=List.length_filter_le (fun z=> !decide (z.r.url=u.data.toList)) Z;have:=HN.out;omega
 clear h1 h2 h3 h5 hrow hown hZ hden hnn hb1 hx1 hr1 ho1 hZ1 hn1
 go_enter Tryz.func23,Tryz.ntmps23
 go_wp2_with fail
 refine HDF.out.mono ?_;rintro e w2 ⟨a2,c2,rfl,ho2,hg2,hb2⟩
 have hr2:w2.heap[p]? = some (.cells #[.slice a n c,.int .i64 C.tn] 81 (0,0)):=by
  rw [hg2.block p (Array.getElem?_eq_some_iff.1 HR1.out).1 (fun e=>by have:=(HO1.out.lt p e.symm).1;omega)];exact HR1.out
 have e0:w2.cell? ⟨p,0,none⟩=some (.slice a n c):=by rw [Lib.cell_of_heap hr2];rfl
 have y0:w2.frozen? ⟨p,0,none⟩=false:=Lib.frozen_of_heap hr2 0
 obtain ⟨W3,hW3⟩: ∃ X,w2.setCell ⟨p,0,none⟩ (.slice a2 n1 c2)=X:=⟨_,rfl⟩
 have hr3:W3.heap[p]? = some (.cells #[.slice a2 n1 c2,.int .i64 C.tn] 81 (0,0)):=by rw [← hW3];exact Lib.heap_setCell_same hr2 (i:=0) _
 have ht:TqC p w W3:=by
  have hsz:=HG.out;rw [← hW3];exact ((Tq.below HB1.out (by omega)).trans (Tq.grown hg2 (fun g hg=>by
   obtain ⟨cur,hc⟩:=ownsRow_kind HO1.out g hg
   have:=(HO1.out.lt g hg).1;exact ⟨by omega,cur,_,hc⟩) (by have:=HB1.out.size;omega))).trans (Tq.set hr2 (.inr rfl) (Nat.le_refl _) 0 _)
 have HFin:=hid (show CaI G W3 p W3.heap.size (drpV C u.data.toList)∧TqC p w W3 from by
  refine ⟨CaI.mk17 HG.out.1 (HG.out.2.1.low17 HG.out.1 ht.1) a2 n1 c2 Z1 (by rw [← HMap.out,List.length_map];exact HNl.out) hr3 ?_ HMap.out (fun z hz=>((HZm.out z hz).tq ht).mono (Nat.le_trans HG.out.2.2.2 ht.1.size)),ht⟩;rw [← hW3];refine ownsRow_same ho2 fun g hg=>heap_setCell_other _ _ _ _ (fun e=> ?_)
  have:=(ho2.lt g hg).1;have e:g=p:=e
  omega)
 have g0:W3.cell? ⟨p,0,none⟩=some (.slice a2 n1 c2):=by rw [Lib.cell_of_heap hr3];rfl
 clear ho2 hg2 hb2 hr2 hr3 ht
 go_wp2_with fail
 go_ret
 exact ⟨rfl,HFin.out.1,HFin.out.2⟩

end Go.Proofs.YtpopljcmkbchcaaGreatDoor

namespace Go.Proofs.YtpopljcmkbchcaaGreatDoor
open Go.RowKit

def sMax:List UInt8:=[109,97,120,45,97,103,101,61]

end Go.Proofs.YtpopljcmkbchcaaGreatDoor

namespace Go.Proofs.YtpopljcmkbchcaaGreatDoor
open Go.RowKit

def CC17:List UInt8:=[67,97,99,104,101,45,67,111,110,116,114,111,108]

theorem hdt_nil (w:World):HdT w (.slice none 0 0) []:=⟨hd_nil w,fun g hg=>by simp [Value.ownBlock] at hg⟩

theorem bdt_nil (p:Nat) (w:World):BdT p w (.slice none 0 0) []:=⟨⟨rfl,none,0,rfl,Nat.le_refl _,by decide,.inl ⟨rfl,rfl⟩⟩,.inl rfl⟩

theorem szo_nil:Szo []:=hk_nil.szo

def hkB (L:List Hd):Bool:=decide (L.length≤64)&&L.all fun h=>decide (h.name.length≤4096)&&decide (h.value.length≤4096)

theorem hkB_ok {L:List Hd} (h:hkB L=true):Hk L:=by
 unfold hkB at h;rw [Bool.and_eq_true,decide_eq_true_eq,List.all_eq_true] at h
 refine ⟨h.1,fun x hx=> ?_⟩
 have:=h.2 x hx;simp only [Bool.and_eq_true,decide_eq_true_eq] at this
 exact this

def rowB (r:RowC):Bool:=hkB r.rp.hd&&decide (r.ch.length≤1000000)&&(r.ch.all fun c=>decide (c.name.length≤1000000))&&decide (r.rp.bd.length≤1000000)&&decide (0≤r.sto)&&decide (r.sto≤4611686018427387904)

theorem rowB_ok {r:RowC} (h:rowB r=true):RowG r:=by
 unfold rowB at h;simp only [Bool.and_eq_true,decide_eq_true_eq,List.all_eq_true] at h
 obtain ⟨⟨⟨⟨⟨h1,h2⟩,h3⟩,h4⟩,h5⟩,h6⟩:=h
 exact ⟨hkB_ok h1,h2,fun c hc=>Nat.le_trans (h3 c hc) (by decide),h4,h5,h6⟩

def cagB (C:CaS):Bool:=decide (C.rows.length≤1000)&&decide (0≤C.tn)&&decide (C.tn≤1000000)&&C.rows.all rowB

theorem cagB_ok {C:CaS} (h:cagB C=true):CaG C:=by
 unfold cagB at h;simp only [Bool.and_eq_true,decide_eq_true_eq,List.all_eq_true] at h
 exact ⟨h.1.1.1,⟨h.1.1.2,h.1.2⟩,fun r hr=>rowB_ok (h.2 r hr)⟩

theorem CaG.put {C:CaS} (h:CaG C) (ht:C.tn+1≤1000000) (u:List UInt8) (A:List Hd) (r:Rep) (now:Int) (hk:Hk r.hd) (hb:r.bd.length≤1000000) (hn:0≤now∧now≤4611686018427387904):CaG (putV C u A r now):=by
 unfold putV;split
 ·have hf:=List.length_filter_le (fun x=> !meantV u A x) C.rows
  have hv:=varV_small hk;refine ⟨?_,⟨by have:=h.2.1.1;show 0≤C.tn+1;omega,ht⟩,fun x hx=> ?_⟩
  ·have:=h.1
   show (roomV _++_).length≤1000;unfold roomV;split<;>simp<;>omega
  ·rcases List.mem_append.1 hx with hx | hx
   ·have hx2:x ∈ C.rows.filter fun x=> !meantV u A x:=by
     unfold roomV at hx;split at hx
     ·exact List.mem_of_mem_drop hx
     ·exact hx
    exact h.2.2 x (List.mem_filter.1 hx2).1
   ·rw [List.mem_singleton.1 hx]
    refine ⟨hk,by show ((varV (pcsV r.hd nVy)).map (choV A)).length≤_;rw [List.length_map];exact hv.1,fun c hc=> ?_,hb,hn⟩
    obtain ⟨y,hy,rfl⟩:=List.mem_map.1 hc
    exact Nat.le_trans (hv.2 y hy) (by decide)
 ·exact h

def FAt (p:Nat) (C':CaS) (st s:Int) (L:List Hd) (l:List UInt8) (K:List Hd) (w:World) (e:Ending) (w':World):Prop:=
 ∃ a1 c1 a2 c2 a3 c3 M',e = .returned (.agg #[.int .i64 st,.int .i64 s,.slice a1 L.length c1,.slice a2 l.length c2,.slice a3 K.length c3])∧CaI Tr17 w' p M' C'∧w'.ownsRow M' 45 2 (.slice a1 L.length c1) L.length (cellsH L)∧w'.ownsRow M' 5 1 (.slice a2 l.length c2) l.length (cellsB l)∧w'.ownsRow M' 45 2 (.slice a3 K.length c3) K.length (cellsH K)∧TqC p w w'

theorem find_at17 (p M:Nat) (C C':CaS) (u:ByteArray) (vA:Value) (A:List Hd) (now st s:Int) (L K:List Hd) (l:List UInt8) (w:World) (hI:CaI Tr17 w p M C) (hG:CaG C) (hA:HdT w vA A) (hz:Szo A) (hgp:Gp17 w) (hnow:0≤now∧now≤4611686018427387904)
 (hf:findV Lib.itoa C u.data.toList A now=⟨st,⟨s,L,l⟩,K⟩) (hu:useV C u.data.toList A=C'):
 Calls Tryz.prog 17 #[.pointer (some ⟨p,0,none⟩),.string u,vA,.int .i64 now] w (FAt p C' st s L l K w):=by
 refine (find17_any p M C u vA A now w hI hG hA hz hgp hnow).mono ?_;rintro e w' ⟨vh,vb,va,M',he,h1,h2,h3,h4,h5,_⟩
 rw [hf] at he h2 h3 h4;rw [hu] at h1;dsimp only at he h2 h3 h4;obtain ⟨a1,c1,rfl⟩:=own_sl16 h2
 obtain ⟨a2,c2,rfl⟩:=own_sl16 h3
 obtain ⟨a3,c3,rfl⟩:=own_sl16 h4
 exact ⟨a1,c1,a2,c2,a3,c3,M',he,h1,h2,h3,h4,h5⟩

theorem put_at17 (p M:Nat) (C C':CaS) (u:ByteArray) (vA:Value) (A:List Hd) (st:Int) (vh vb:Value) (L:List Hd) (l:List UInt8) (now:Int) (b:Bool) (w:World) (hI:CaI Tr17 w p M C) (hG:CaG C) (hA:HdT w vA A) (hz:Szo A) (hh:HdT w vh L) (hk:Hk L) (hb:BdT p w vb l) (hl:l.length≤1000000)
 (hok:putOk A ⟨st,L,l⟩=b) (hC:putV C u.data.toList A ⟨st,L,l⟩ now=C'):
 Calls Tryz.prog 15 #[.pointer (some ⟨p,0,none⟩),.string u,vA,.agg #[.int .i64 st,vh,vb],.int .i64 now] w fun e w'=>e = .returned (.bool b)∧CaI Tr17 w' p w'.heap.size C'∧TqC p w w':=by
 refine (put17_any p M C u vA A st vh vb L l now w hI hG hA hz hh hk hb hl).mono ?_;rintro e w' ⟨h1,h2,h3⟩
 rw [hok] at h1;rw [hC] at h2;exact ⟨h1,h2,h3⟩

theorem own_lit17 (w:World) (L:List Hd) (n:Nat) (hn:L.length=n) (h:n≤1000):(w.alloc (.cells (cellsH L).toArray 45)).ownsRow w.heap.size 45 2 (.slice (some ⟨w.heap.size,0,none⟩) n n) n (cellsH L):=
 World.ownsRow_lit (base:=w.heap.size) (e:=45) (size:=2) w (cellsH L).toArray n (Nat.le_refl _) (by unfold maxLen;omega) (by rw [List.size_toArray,cellsH_len,hn])

set_option maxHeartbeats 1000000 in
theorem cc17_any (s:ByteArray) (w:World):Calls Tryz.prog 31 #[.string s] w fun e w'=>e = .returned (.slice (some ⟨w.heap.size,0,none⟩) 1 1)∧w'.ownsRow w.heap.size 45 2 (.slice (some ⟨w.heap.size,0,none⟩) 1 1) 1 (cellsH [⟨CC17,s.data.toList⟩])∧Below w.heap.size w w':=by
 have e:(cellsH [⟨CC17,s.data.toList⟩]).toArray = #[.string ⟨#[67,97,99,104,101,45,67,111,110,116,114,111,108]⟩,.string s]:=by
  rw [cellsH_one,← xself s];rfl
 have h:=own_lit17 w [⟨CC17,s.data.toList⟩] 1 rfl (by decide)
 rw [e] at h;have H:=hid h;clear h e
 go_enter Tryz.func31,Tryz.ntmps31
 go_wp2
 go_ret
 exact ⟨rfl,H.out,(Below.refl _ w).alloc (Nat.le_refl _) _⟩

def StC (w0:World) (w:World) (C:CaS):Prop:=CaI Tr17 w w0.heap.size w.heap.size C∧Below w0.heap.size w0 w∧Gp17 w

theorem StC.turn {w0 w w':World} {C C':CaS} {M:Nat} (h:StC w0 w C) (hc:CaI Tr17 w' w0.heap.size M C') (ht:TqC w0.heap.size w w'):StC w0 w' C':=
 ⟨hc.size,h.2.1.trans ht.1,h.2.2.low h.1.1.2.2.1 ht.1⟩

theorem StC.below {w0 w w':World} {C:CaS} (h:StC w0 w C) (hb:Below w.heap.size w w'):StC w0 w' C:=by
 have hs:=h.2.1.size;exact ⟨(h.1.kept hb).size,h.2.1.trans (hb.mono hs),h.2.2.low h.1.1.2.2.1 (hb.mono hs)⟩

def uU:List UInt8:=[117]

def kC1:CaS:=putV ⟨[],0⟩ uU [] ⟨200,[⟨CC17,[109,97,120,45,97,103,101,61,53]⟩],[]⟩ 0

theorem kn1_17:putOk [] ⟨200,[⟨CC17,[109,97,120,45,97,103,101,61,53]⟩],[]⟩=true:=by decide +kernel

theorem kn2_17:cagB kC1=true:=by decide +kernel

theorem kn3_17:findV Lib.itoa kC1 uU [] 4=⟨2,⟨200,[⟨CC17,[109,97,120,45,97,103,101,61,53]⟩,⟨tAge,[52]⟩],[]⟩,[]⟩:=by decide +kernel

theorem kn4_17:useV kC1 uU []=kC1:=by decide +kernel

theorem kn5_17:findV Lib.itoa kC1 uU [] 5=⟨1,⟨200,[⟨CC17,[109,97,120,45,97,103,101,61,53]⟩,⟨tAge,[53]⟩],[]⟩,[]⟩:=by decide +kernel

theorem kn6_17:(drpV kC1 uU).rows.length=0∧kC1.rows.length=1:=by decide +kernel

set_option maxHeartbeats 4000000 in
set_option maxRecDepth 100000 in
theorem known17_any (w:World) (h5:G5 w) (hgp:Gp17 w) (hg:gMax<w.heap.size):Calls Tryz.prog 29 #[] w fun e w'=>e = .returned (.bool true)∧Below w.heap.size w w':=by
 have HN:=hid (new17_any (G:=Tr17) w h5 hg);have HGp:=hid hgp;have HGx:=hid hg;clear h5 hgp hg
 go_enter Tryz.func29,Tryz.ntmps29
 go_wp2_with fail
 refine HN.out.mono ?_;rintro e w1 ⟨rfl,hc1,hb1⟩
 have HS1:=hid (show StC w w1 ⟨[],0⟩ from ⟨hc1,hb1,HGp.out.low HGx.out hb1⟩);clear hc1 hb1
 go_wp2_with fail
 refine (cc17_any ⟨#[109,97,120,45,97,103,101,61,53]⟩ _).mono ?_;rintro e w2 ⟨rfl,ho2,hb2⟩
 have HS2:=hid (HS1.out.below hb2);have HP:=hid (put_at17 w.heap.size w2.heap.size ⟨[],0⟩ kC1 ⟨#[117]⟩ (.slice none 0 0) [] 200 (.slice (some ⟨w1.heap.size,0,none⟩) 1 1) (.slice none 0 0) [⟨CC17,[109,97,120,45,97,103,101,61,53]⟩] [] 0 true w2 HS2.out.1 (cagB_ok (by decide +kernel)) (hdt_nil _) szo_nil (own_hdt ho2) (hkB_ok (by decide +kernel)) (bdt_nil _ _) (by decide) kn1_17 rfl);clear ho2 hb2
 go_wp2_with fail
 refine HP.out.mono ?_;rintro e w3 ⟨rfl,hc3,ht3⟩
 have HS3:=hid (HS2.out.turn hc3 ht3);clear hc3 ht3;have HF:=hid (find_at17 w.heap.size w3.heap.size kC1 kC1 ⟨#[117]⟩ (.slice none 0 0) [] 4 2 200 [⟨CC17,[109,97,120,45,97,103,101,61,53]⟩,⟨tAge,[52]⟩] [] [] w3 HS3.out.1 (cagB_ok kn2_17) (hdt_nil _) szo_nil HS3.out.2.2 (by decide) kn3_17 kn4_17)
 go_wp2_with fail
 refine HF.out.mono ?_;rintro e w4 ⟨a1,c1,a2,c2,a3,c3,M4,rfl,hc4,ho4,_,_,ht4⟩
 have HS4:=hid (HS3.out.turn hc4 ht4);obtain ⟨g,rfl⟩: ∃ g,a1=some ⟨g,0,none⟩:=by
  rcases ho4.2 with ⟨_,h0⟩ | ⟨g,cap,cur,hv,_⟩
  ·cases h0
  ·injection hv with e1 _ _
   exact ⟨g,e1⟩
 have HO4:=hid ho4;clear hc4 ho4 ht4;obtain ⟨W5,hW5⟩: ∃ X,w4.alloc (.cells #[.int .i64 2,.int .i64 200,.slice (some ⟨g,0,none⟩) 2 c1,.slice a2 0 c2,.slice a3 0 c3] 38)=X:=⟨_,rfl⟩
 have hb5:Below w4.heap.size w4 W5:=by rw [← hW5];exact (Below.refl _ w4).alloc (Nat.le_refl _) _
 have HS5:=hid (HS4.out.below hb5);have HX5:=hid (show W5.heap[w4.heap.size]? = some (.cells #[.int .i64 2,.int .i64 200,.slice (some ⟨g,0,none⟩) 2 c1,.slice a2 0 c2,.slice a3 0 c3] 38 (0,0)) by rw [← hW5];exact heap_alloc_new w4 _);have HO5:=hid (own_same HO4.out hb5);have HF2:=hid (find_at17 w.heap.size W5.heap.size kC1 kC1 ⟨#[117]⟩ (.slice none 0 0) [] 5 1 200 [⟨CC17,[109,97,120,45,97,103,101,61,53]⟩,⟨tAge,[53]⟩] [] [] W5 HS5.out.1 (cagB_ok kn2_17) (hdt_nil _) szo_nil HS5.out.2.2 (by decide) kn5_17 kn4_17);clear hb5
 go_wp2_with fail
 refine HF2.out.mono ?_;rintro e w6 ⟨a4,c4,a5,c5,a6,c6,M6,rfl,hc6,_,_,_,ht6⟩
 clear hW5;have HS6:=hid (HS5.out.turn hc6 ht6);have hx6:=(ht6.2 _ _ _ _ HX5.out (by decide) (by decide)).trans HX5.out;have ho6:=ht6.own HO5.out (by decide) (by decide)
 clear hc6 ht6;obtain ⟨W7,hW7⟩: ∃ X,w6.alloc (.cells #[.int .i64 1,.int .i64 200,.slice a4 2 c4,.slice a5 0 c5,.slice a6 0 c6] 38)=X:=⟨_,rfl⟩
 have hb7:Below w6.heap.size w6 W7:=by rw [← hW7];exact (Below.refl _ w6).alloc (Nat.le_refl _) _
 have HS7:=hid (HS6.out.below hb7);have hx7:W7.heap[w4.heap.size]? = some (.cells #[.int .i64 2,.int .i64 200,.slice (some ⟨g,0,none⟩) 2 c1,.slice a2 0 c2,.slice a3 0 c3] 38 (0,0)):=(hb7.block _ (Array.getElem?_eq_some_iff.1 hx6).1).trans hx6;have hy7:W7.heap[w6.heap.size]? = some (.cells #[.int .i64 1,.int .i64 200,.slice a4 2 c4,.slice a5 0 c5,.slice a6 0 c6] 38 (0,0)):=by rw [← hW7];exact heap_alloc_new w6 _
 have f0:W7.cell? ⟨w4.heap.size,0,none⟩=some (.int .i64 2):=by rw [Lib.cell_of_heap hx7];rfl
 have f2:W7.cell? ⟨w4.heap.size,2,none⟩=some (.slice (some ⟨g,0,none⟩) 2 c1):=by rw [Lib.cell_of_heap hx7];rfl
 have f3:W7.cell? ⟨g,3,none⟩=some (.string ⟨#[52]⟩):=(own_same ho6 hb7).cellAt 3 (by decide)
 have f4:W7.cell? ⟨w6.heap.size,0,none⟩=some (.int .i64 1):=by rw [Lib.cell_of_heap hy7];rfl
 have HD:=hid (show Calls Tryz.prog 23 #[.pointer (some ⟨w.heap.size,0,none⟩),.string ⟨#[117]⟩] W7 fun e w'=>e = .returned (.int .i64 1)∧Below w.heap.size w w' from by
  refine (drop17_any w.heap.size W7.heap.size kC1 ⟨#[117]⟩ W7 HS7.out.1 (by rw [kn6_17.2];decide)).mono ?_;rintro e w' ⟨h1,h2,h3⟩
  rw [show (⟨#[117]⟩:ByteArray).data.toList=uU from rfl,kn6_17.1,kn6_17.2] at h1;exact ⟨h1,HS7.out.2.1.trans h3.1⟩)
 clear hx6 ho6 hb7 hx7 hy7
 go_wp2_with fail
 refine HD.out.mono ?_;rintro e w8 ⟨rfl,hb8⟩
 go_wp2_with fail
 go_ret
 exact ⟨rfl,hb8⟩

end Go.Proofs.YtpopljcmkbchcaaGreatDoor

namespace Go.Proofs.YtpopljcmkbchcaaGreatDoor
open Go.RowKit

set_option maxHeartbeats 400000 in
theorem fewBytes_any_Ehw (a:Option Addr) (len cap n:Nat) (l:List UInt8) (w:World) (hl:l.length=len) (hS:SlB_Cb w (.slice a len cap) l) (hc:len≤cap) (hm:cap≤maxLen) (hn:n≤9223372036854775807):
 Calls Tryz.prog 30 #[.slice a len cap,.int .i64 n] w fun e w'=> ∃ len',len'=(l.take n).length∧len'≤cap∧e = .returned (.slice a len' cap)∧SlB_Cb w (.slice a len' cap) (l.take n)∧w=w':=by
 unfold maxLen at hm;by_cases h:n<len
 ·have h':(n:Int)<(len:Int):=by omega
  go_enter Tryz.func30,Tryz.ntmps30
  go_wp2
  go_ret
  exact ⟨n,by simp;omega,by omega,rfl,hS.take n (by omega),rfl⟩
 ·have h':(len:Int)≤(n:Int):=by omega
  go_enter Tryz.func30,Tryz.ntmps30
  go_wp2
  go_ret
  have e:l.take n=l:=List.take_of_length_le (by omega)
  rw [e];exact ⟨len,hl.symm,hc,rfl,hS,rfl⟩

end Go.Proofs.YtpopljcmkbchcaaGreatDoor

namespace Go.Proofs.YtpopljcmkbchcaaGreatDoor
open Go.RowKit

theorem slB_take17 {w:World} {a:Option Addr} {len cap:Nat} {l:List UInt8} (h:SlB_Cb w (.slice a len cap) l) (hl:l.length=len) (n:Nat):SlB_Cb w (.slice a (l.take n).length cap) (l.take n):=by
 by_cases hn:n<l.length
 ·rw [show (l.take n).length=n by simp;omega]
  exact h.take n hn
 ·rw [List.take_of_length_le (by omega),hl]
  exact h

theorem take_one17 (r:RowC) (t:Int) (u:List UInt8) (h1:r.url=u) (h2:r.ch=[]):takeV ⟨[r],t⟩ u []=some (r,[]):=by
 have hm:meantV u [] r=true:=by unfold meantV;rw [h1,h2];simp
 unfold takeV;rw [show (ctlV []).ns=false by decide];have hb:bestV (meantV u []) [r] 1=some 0:=by
  unfold bestV;simp [bestV,hm]
 show (if false=true then none else match bestV (meantV u []) [r] 1 with
  | none=>none
  | some a=>(([r]:List RowC)[a]?).map fun x=>(x,([r]:List RowC).eraseIdx a))=_
 rw [hb];rfl

theorem StC.known {w0 w:World} {C:CaS} (h:StC w0 w C):Calls Tryz.prog 29 #[] w fun e w'=>e = .returned (.bool true)∧Below w0.heap.size w0 w':=by
 refine (known17_any w h.1.1.2.2.2 h.2.2 (by have h1:=h.1.1.2.2.1;have h2:=h.2.1.size;omega)).mono ?_;rintro e w' ⟨h1,h2⟩
 exact ⟨h1,below2_Efc h.2.1 h2⟩

end Go.Proofs.YtpopljcmkbchcaaGreatDoor

namespace Go.Proofs.YtpopljcmkbchcaaGreatDoor
open Go.RowKit

def IsRow (k:IntKind) (w:World) (a:Option Addr) (len cap:Nat) (zs:List Int):Prop:=
 (a=none∧len=0∧cap=0∧zs=[]) ∨
 ∃ x,a=some x∧len≤cap∧cap≤maxLen∧zs.length=cap∧(∀ i,i<zs.length→w.cell? (x.add i)=some (.int k (zs.getD i 0))) ∧ ∀ n ∈ zs,(Lit.int k n).wf=true

theorem IsRow.block {k:IntKind} {w:World} {a:Option Addr} {len cap:Nat} {zs:List Int} (h:IsRow k w a len cap zs) {y:Addr} (hy:a=some y) {j:Nat} (hj:j<zs.length):(y.add j).block<w.heap.size:=by
 rcases h with ⟨rfl,_⟩ | ⟨x,rfl,_,_,_,hcell,_⟩
 ·cases hy
 ·obtain rfl:=Option.some.inj hy
  exact World.block_lt_of_cell? w _ (hcell j hj)

end Go.Proofs.YtpopljcmkbchcaaGreatDoor

namespace Go.Proofs.YtpopljcmkbchcaaGreatDoor
open Go.RowKit

def SlB (w:World) (v:Value) (l:List UInt8):Prop:=
 (∃ c,v = .slice none 0 c∧l=[]) ∨ ∃ x cap,v = .slice (some x) l.length cap ∧ ∀ j (h:j<l.length),w.cell? (x.add j)=some (.int .u8 (l[j].toNat:Int))

theorem SlB.string {P:Program} {w:World} {v:Value} {l:List UInt8} {e src dst:TypeId} (h:SlB w v l) (hs:P.underlying src=some (.slice e)) (he:P.underlying e=some (.int .u8)) (hd:P.underlying dst=some .string):
 (convert src dst v).run P w = .ok (.string ⟨l.toArray⟩) w:=by
 rcases h with ⟨c,rfl,rfl⟩ | ⟨x,cap,rfl,hc⟩
 ·exact Lib.run_convert_nil_bytes w src dst e c hs he hd
 ·exact run_convert_bytes_back w src dst e x cap l hs he hd hc

theorem SlB.below {w w':World} {v:Value} {l:List UInt8} {B:Nat} (h:SlB w v l) (hb:Below B w w') (hB: ∀ x n c,v = .slice (some x) n c → ∀ j,j<l.length→(x.add j).block<B):SlB w' v l:=by
 rcases h with h | ⟨x,cap,rfl,hc⟩
 ·exact .inl h
 ·exact .inr ⟨x,cap,rfl,fun j hj=>(hb.cell (hB x _ _ rfl j hj)).trans (hc j hj)⟩

theorem SlB.kept {w w':World} {v:Value} {l:List UInt8} (h:SlB w v l) (hb:Below w.heap.size w w'):SlB w' v l:=by
 refine h.below hb ?_;rcases h with ⟨c,rfl,rfl⟩ | ⟨x,cap,rfl,hc⟩
 ·intro x n c' e j hj;simp at hj
 ·intro x' n c' e j hj
  obtain ⟨e1,_,_⟩:=Value.slice.inj e
  obtain rfl:=Option.some.inj e1;exact World.block_lt_of_cell? w _ (hc j hj)

theorem SlB.alloc {w:World} {v:Value} {l:List UInt8} (h:SlB w v l) (o:Obj):SlB (w.alloc o) v l:=h.kept ((Below.refl _ w).alloc (Nat.le_refl _) o)

theorem SlB.len {w:World} {v:Value} {l:List UInt8} (h:SlB w v l): ∃ a cap,v = .slice a l.length cap:=by
 rcases h with ⟨c,rfl,rfl⟩ | ⟨x,cap,rfl,hc⟩
 ·exact ⟨none,c,rfl⟩
 ·exact ⟨some x,cap,rfl⟩

theorem SlB.own {w:World} {B:Nat} {e:TypeId} {v:Value} {l:List UInt8} (h:w.ownsRow B e 1 v l.length (Lib.byteCells l)):SlB w v l:=by
 rcases h.2 with ⟨rfl,h0⟩ | ⟨g,cap,cur,rfl,_⟩
 ·exact .inl ⟨0,rfl,List.eq_nil_of_length_eq_zero h0⟩
 ·exact .inr ⟨_,cap,rfl,fun j hj=>h.cells (g:=g) rfl j _ (by simp [Lib.byteCells,hj])⟩

theorem SlB.take {w:World} {a:Option Addr} {len cap:Nat} {l:List UInt8} (h:SlB w (.slice a len cap) l) (n:Nat) (hn:n<l.length):SlB w (.slice a n cap) (l.take n):=by
 rcases h with ⟨c,e,rfl⟩ | ⟨x,c,e,hc⟩
 ·simp at hn
 ·obtain ⟨rfl,rfl,rfl⟩:=Value.slice.inj e
  refine .inr ⟨x,cap,by congr 1;simp;omega,fun j hj=> ?_⟩
  have hj':j<l.length:=by simp at hj;omega
  rw [hc j hj'];simp

theorem IsRow.bytes {w:World} {a:Option Addr} {len cap:Nat} {zs:List Int} (h:IsRow .u8 w a len cap zs): ∃ l:List UInt8,l.length=len∧SlB w (.slice a len cap) l∧len≤cap∧cap≤maxLen:=by
 rcases h with ⟨rfl,rfl,rfl,rfl⟩ | ⟨x,rfl,hlc,hcm,hz,hcell,hwf⟩
 ·exact ⟨[],rfl,.inl ⟨0,rfl,rfl⟩,Nat.le_refl _,by unfold maxLen;omega⟩
 ·refine ⟨(zs.take len).map fun n=>UInt8.ofNat n.toNat,by simp;omega,.inr ⟨x,cap,by congr 1;simp;omega,?_⟩,hlc,hcm⟩
  intro j hj;have hj':j<len∧j<zs.length:=by simp at hj;omega
  have hwfj:=hwf zs[j] (List.getElem_mem hj'.2);have hb:0≤zs[j]∧zs[j]≤255:=by simpa [Lit.wf,IntKind.min,IntKind.max,IntKind.bits,IntKind.signed] using hwfj
  rw [hcell j hj'.2];have e:zs.getD j 0=zs[j]:=by simp [List.getD,hj'.2]
  rw [e]
  congr 2
  simp;omega

end Go.Proofs.YtpopljcmkbchcaaGreatDoor

namespace Go.Proofs.YtpopljcmkbchcaaGreatDoor
open Go.RowKit

theorem row_kept {w w':World} {g:Nat} {o:Obj} (h:w.heap[g]? = some o) (hb:Below w.heap.size w w'):w'.heap[g]? = some o:=by
 have hlt:g<w.heap.size:=by
  rcases Nat.lt_or_ge g w.heap.size with h' | h'
  ·exact h'
  ·rw [Array.getElem?_eq_none h'] at h;cases h
 rw [hb.block g hlt];exact h

theorem there_row {w:World} {g n:Nat} {cs:Array Value} {t:TypeId} (h:w.heap[g]? = some (.cells cs t (0,0))) (hn:n≤cs.size):w.there g 0 n:=by
 intro j hj;constructor
 ·rw [cell_of_row w g _ cs t _ h];simp;omega
 ·simp [World.frozen?,h]

theorem range_row {w:World} {g:Nat} {cs:List Value} {t:TypeId} {f:Nat×Nat} (h:w.heap[g]? = some (.cells cs.toArray t f)):w.rangeAt g 0 cs:=by
 intro j v hv;rw [Nat.zero_add,cell_of_row w g j _ t _ h]
 simpa using hv

theorem kept_cell {w w':World} {a:Addr} {v:Value} (h:w.cell? a=some v) (hb:Below w.heap.size w w'):w'.cell? a=some v:=(hb.cell (World.block_lt_of_cell? w _ h)).trans h

end Go.Proofs.YtpopljcmkbchcaaGreatDoor
