/-
  Walks and plain facts that this claim leans on, put together out of 1 texts: Ehl.
-/
import Derived.Test.YtpopljcmkbchcaaGreatDoorProg
import Derived.Test.YtpopljcmkbchcaaGreatDoorQt1
import Derived.Test.YtpopljcmkbchcaaGreatDoorQt2
import Derived.Test.YtpopljcmkbchcaaGreatDoorQt3
import Derived.Test.YtpopljcmkbchcaaGreatDoorQt4
import Derived.Test.YtpopljcmkbchcaaGreatDoorQt5
import Derived.Test.YtpopljcmkbchcaaGreatDoorQt6
import Derived.Test.YtpopljcmkbchcaaGreatDoorQt7
import Derived.Test.YtpopljcmkbchcaaGreatDoorQt8
import Derived.Test.YtpopljcmkbchcaaGreatDoorQt9
import Derived.Test.YtpopljcmkbchcaaGreatDoorQt10
import Derived.Test.YtpopljcmkbchcaaGreatDoorQt11
import Derived.Test.YtpopljcmkbchcaaGreatDoorQt13
import Derived.Test.YtpopljcmkbchcaaGreatDoorQt14
import Derived.BigRegion
import Derived.Deep.RegionHeld
import Derived.Deep.RegionHeldLaw
import Derived.Lib.IndexAny
import Derived.WalkKit
import Derived.Lib.UnsafeStr
import Derived.Lib.BufferRead
import Derived.Lib.RuneBytes
import Derived.Laws.RangeAny
import Derived.Deep.LoopGhost
import Derived.Maps.OwnSet
import Derived.Maps.OwnOps
import Derived.Maps.AppendAt
import Derived.StringKeys
import Derived.BigQuiet
import Derived.Deep.QuietTactic
import Derived.LoopN
import Derived.RegionTactic
import Derived.Deep.RegionLaw
import Derived.Deep.RegionWith
import Derived.WalkSpells
import Derived.WalkLawsBesides
import Derived.Lib.FieldsP
import Derived.Lib.DecodeN
import Derived.Lib.IndexMore
import Derived.Lib.Join
import Derived.Lib.SmallJoins
import Derived.Laws.CopyOwn
import Derived.Laws.ResultCell
import Derived.Deep.MidRow
import Derived.Laws.OwnMore
import Derived.Below
import Derived.WalkSmall
import Derived.Lib.LaidTab
import Derived.Lib.AppendIntMem
import Derived.Laws.AppendOwn
import Derived.Laws.Runes
import Derived.Lib.OthersKept
import Derived.Lib.FrozenHead2
import Derived.Lib.Builder
import Derived.Lib.AppendStr
import Derived.Lib.Replace
import Derived.Shelf.GgClosure.GivesRunes
import Derived.Laws.BitsAll
import Derived.Laws.Shifts
import Derived.Deep.DeepAppendRoom
import Derived.Laws.IdiomStrings
import Derived.Laws.BytesString
import Derived.Laws.CopyRow
import Derived.Sort.OwnSorted
import Derived.Lib.SlicesCompact
import Derived.Deep.CutRange
import Derived.Shelf.Slices.In.SortNone
import Derived.Shelf.Slices.CompactS
import Derived.Lib.SliceRun
import Derived.Lib.ItoaLen
import Derived.Lib.Strings
import Derived.Laws.BitsAllLaws
import Derived.Lib.Bytealg
import Derived.Lib.BufferMore
import Derived.Shelf.Strings.Builder1
import Derived.Shelf.Strings.Builder2
import Derived.Shelf.Strings.OnBuilder
import Derived.Shelf.Strings.Trim
import Derived.Shelf.Small.Utf8
import Derived.Shelf.Small.Bits
import Derived.Shelf.Small.Strs
import Derived.Shelf.Small.Wraps
import Derived.Shelf.Strings.BuilderF
import Derived.Shelf.Strings.BuilderK
import Derived.Shelf.Strings.BuilderRune
import Derived.Shelf.Utf8.AppendRune
import Derived.Shelf.Utf8.AppendRunePlain
import Derived.Shelf.Strings.Builder2Cap
import Derived.Shelf.Strconv.Itoa0
import Derived.Shelf.Strconv.Itoa1
import Derived.Shelf.LaysM
import Derived.Shelf.Strconv.Itoa2
import Derived.Shelf.Strconv.Itoa3
import Derived.Shelf.Strings.Search1
import Derived.Shelf.Strings.Search2
import Derived.Shelf.Strings.Cut
import Derived.Shelf.Strings.Shaped
import Derived.Shelf.Sort.Plain
import Derived.Shelf.Strings.Prefix
import Derived.Shelf.Unicode.Latin
import Derived.Shelf.Strings.Runes
import Derived.Shelf.Strings.IndexAny
import Derived.Shelf.Strings.AsciiSet
import Derived.Shelf.Strings.IndexAnyAll
import Derived.Shelf.Unicode.DecodeSlow
import Derived.Shelf.Unicode.DecodeAny
import Derived.Shelf.Unicode.DecodeLast
import Derived.Shelf.Unicode.CaseLookup
import Derived.Shelf.Unicode.CaseConvert
import Derived.Shelf.Unicode.CaseTo
import Derived.Shelf.Unicode.CaseLaid
import Derived.Lib.SlTrimSet
import Derived.Shelf.Strings.SlTrimAscii
import Derived.Laws.Rows
import Derived.Laws.MakeOwn
import Derived.Deep.WholeRow
import Derived.Laws.AppendOwnNone
set_option linter.unusedSimpArgs false
set_option linter.unusedVariables false

namespace Go.Proofs.YtpopljcmkbchcaaGreatDoor
open Go.RowKit

variable {G : Nat → Prop}

def Gp17 (w : World) : Prop := Lib.TabIs Tryz.prog w "internal/strconv.uint64pow10" .u64 Lib.pow10Tab

theorem gPow17 : Tryz.prog.globalNamed "internal/strconv.uint64pow10" = some 0 := by kernel_rfl

theorem Gp17.low {w w':World} {p:Nat} (h:Gp17 w) (hp:gMax<p) (hb:Below p w w'):Gp17 w':=by
 unfold Gp17 Lib.TabIs World.var? at h ⊢;rw [gPow17] at h ⊢;simp only [Option.bind_some] at h ⊢;have hlt:0<p:=Nat.lt_of_le_of_lt (by decide) hp
 rw [hb.block _ hlt];exact h

theorem format17_any (n:Int) (w:World) (hg:Gp17 w) (h0: -9223372036854775808≤n) (h1:n≤9223372036854775807):
 Calls Tryz.prog 66 #[.int .i64 n,.int .i64 10] w fun e w'=>e = .returned (.string ⟨(Lib.itoa n).toArray⟩)∧Below w.heap.size w w':=by
 have H:=hid (Tryz.internal_strconv_FormatInt_10 n h0 h1 w hg);obtain ⟨T,hT⟩: ∃ T:ByteArray,(⟨(Lib.itoa n).toArray⟩:ByteArray)=T:=⟨_,rfl⟩
 rw [hT] at H ⊢;clear hg h0 h1 hT
 go_enter Tryz.func66,Tryz.ntmps66
 go_wp2_with fail
 refine H.out.mono ?_;rintro e w1 ⟨rfl,k,os,hw⟩
 have HB:=hid (show Below w.heap.size w w1 by rw [hw];exact Lib.below_grow _ _ (Nat.le_refl _) _ _);clear hw
 go_wp2_with fail
 go_ret
 exact ⟨rfl,HB.out⟩

theorem sizeFd:(Tryz.prog.info? 38).map (·.size)=some 5:=by kernel_rfl

theorem results_fd {fn:Func} {p:Tmp} (h:fn.results = #[.cell p 38]) (tmps:Array Value) (w:World) (b:Nat) (cs:List Value) (hl:cs.length=5) (hp:tmps.getD p undef = .pointer (some ⟨b,0,none⟩)) (hc:w.rangeAt b 0 cs):(results fn tmps).run Tryz.prog w = .ok (.agg cs.toArray) w:=by
 rw [Array.getD_eq_getD_getElem?] at hp;simp only [results,h]
 simp [Sem.run_bind,Result.andThen,hp,asAddr,run_loadVar_mid w b 0 38 cs _ hc Tryz.underlying38 rfl (by rw [hl];exact sizeFd)]

theorem CaI.tqF {F:TypeId} {q:Nat} {w w':World} {p M:Nat} {C:CaS} (h:CaI G w p M C) (hq:Tq F F q w w') (hpq:p≤q) (h1:92≠F) (h2:81≠F) (h3:145≠F) (h4:45≠F) (h5:5≠F):CaI G w' p M C:=by
 obtain ⟨⟨g1,g2,g3,g4⟩,a,cap,Z,c1,c2,c3,c4⟩:=h
 exact ⟨⟨g1,Nat.le_trans g2 hq.1.size,g3,g4.low17 g3 (hq.1.mono hpq)⟩,a,cap,Z,(hq.2 _ _ _ _ c1 h2 h2).trans c1,hq.owm c2 h1 h1,c3,fun z hz=>⟨hq.owm (c4 z hz).1 h3 h3,hq.owm (c4 z hz).2.1 h4 h4,hq.owm (c4 z hz).2.2 h5 h5⟩⟩

theorem tqF_sets {F:TypeId} {w:World} {q:Nat} {cur:Array Value} {fz:Nat×Nat} (hq:w.heap[q]? = some (Obj.cells cur F fz)) (cs:List Value):Tq F F q w (w.setCells q 0 cs):=
 Tq.grown (grown_cells17 q cs 0 w) (fun g hg=>by injection hg with hg;subst hg;exact ⟨Nat.le_refl _,cur,fz,hq⟩) (Nat.le_of_lt (Array.getElem?_eq_some_iff.1 hq).1)

theorem tqC_new {p:Nat} {w Y:World} (h:TqC p w Y) {q:Nat} (hq:w.heap.size≤q) (hp:p≤w.heap.size) (cs:List Value):TqC p w (Y.setCells q 0 cs):=
 ⟨below_setC17 (Nat.le_trans hp hq) cs 0 Y h.1,fun k cur S fz hk h1 h2=>by
   have hlt:=(Array.getElem?_eq_some_iff.1 hk).1;rw [far_cells17 (by omega)];exact h.2 k cur S fz hk h1 h2⟩

theorem tqF_set1 {F:TypeId} {w:World} {q:Nat} {cur:Array Value} {fz:Nat×Nat} (hq:w.heap[q]? = some (Obj.cells cur F fz)) (i:Nat) (v:Value):Tq F F q w (w.setCell ⟨q,i,none⟩ v):=Tq.set hq (.inl rfl) (Nat.le_refl _) i v

theorem itoa_len17 (n:Int) (h: -9223372036854775808≤n∧n≤9223372036854775807):(Lib.itoa n).length≤9223372036854775807:=Nat.le_trans (Lib.itoa_length_le n h.1 h.2) (by decide)

def FindP (G:Nat→Prop) (p:Nat) (C:CaS) (u:List UInt8) (A:List Hd) (now:Int) (w:World) (e:Ending) (w':World):Prop:=
 ∃ vh vb va M',e = .returned (.agg #[.int .i64 (findV Lib.itoa C u A now).state,.int .i64 (findV Lib.itoa C u A now).rp.st,vh,vb,va])∧CaI G w' p M' (useV C u A) ∧
  w'.ownsRow M' 45 2 vh (findV Lib.itoa C u A now).rp.hd.length (cellsH (findV Lib.itoa C u A now).rp.hd)∧w'.ownsRow M' 5 1 vb (findV Lib.itoa C u A now).rp.bd.length (cellsB (findV Lib.itoa C u A now).rp.bd) ∧
  w'.ownsRow M' 45 2 va (findV Lib.itoa C u A now).ask.length (cellsH (findV Lib.itoa C u A now).ask)∧TqC p w w'∧w.heap.size≤M'

set_option maxHeartbeats 4000000 in
set_option maxRecDepth 100000 in
theorem find17_any (p M:Nat) (C:CaS) (u:ByteArray) (vA:Value) (A:List Hd) (now:Int) (w:World) (hI:CaI G w p M C) (hG:CaG C) (hA:HdT w vA A) (hz:Szo A) (hgp:Gp17 w) (hnow:0≤now∧now≤4611686018427387904):
 Calls Tryz.prog 17 #[.pointer (some ⟨p,0,none⟩),.string u,vA,.int .i64 now] w (FindP G p C u.data.toList A now w):=by
 obtain ⟨i0,hi,hz0,hz1,hz2⟩:=info3 infoRw
 have HI:=hid hI;have HA:=hid hA;have HSz:=hid hz;have HG:=hid hG;have HGp:=hid hgp;have HNow:=hid hnow;have hpM:p+1≤M∧M≤w.heap.size:=⟨hI.1.1,hI.1.2.1⟩
 obtain ⟨W1,hW1⟩: ∃ X,w.alloc (.cells #[.int .i64 0,.int .i64 0,.slice none 0 0,.slice none 0 0,.slice none 0 0] 38)=X:=⟨_,rfl⟩
 have hb1:Below w.heap.size w W1:=by rw [← hW1];exact (Below.refl _ w).alloc (Nat.le_refl _) _
 have HB1:=hid hb1;have HX1:=hid (show W1.heap[w.heap.size]? = some (.cells #[.int .i64 0,.int .i64 0,.slice none 0 0,.slice none 0 0,.slice none 0 0] 38 (0,0)) by rw [← hW1];exact heap_alloc_new w _);have HS1:=hid (show W1.heap.size=w.heap.size+1 by rw [← hW1];simp);have HTk:=hid (take17_any p M C vA A u W1 (hI.kept (hb1.mono hpM.2)) hG (hA.1.kept hb1) hz);have HPM:=hid hpM;obtain ⟨va,vac,rfl,_,_,_⟩:=hA.1.view
 obtain ⟨nA,hnA⟩: ∃ n,n=A.length:=⟨_,rfl⟩
 rw [← hnA] at HTk HA ⊢;have HZF:=hid (all_oneCell_toArray (cs:=[.int .i64 0,.int .i64 0,.slice none 0 0,.slice none 0 0,.slice none 0 0]) (by intro v hv;simp at hv;rcases hv with rfl | rfl<;>rfl));clear hI hG hA hz hgp hnow hpM hb1 hnA
 go_enter Tryz.func17,Tryz.ntmps17
 go_wp2_with fail
 refine HTk.out.mono ?_;rintro e w2 htk;clear hW1 HTk;rcases htk with ⟨hnone,rfl,hb2⟩ | ⟨z,R,hsome,rfl,hdz,hci,htq⟩
 ·have hb3:Below W1.heap.size W1 (w2.alloc (.cells #[.string ⟨#[]⟩,.slice none 0 0,.int .i64 0,.slice none 0 0,.slice none 0 0,.int .i64 0,.int .i64 0] 92)):=hb2.trans (((Below.refl _ w2).alloc (Nat.le_refl _) _).mono hb2.size)
  have HX3:=hid ((hb3.block _ (by have:=HS1.out;omega)).trans HX1.out);have HT3:=hid (show (w2.alloc (.cells #[.string ⟨#[]⟩,.slice none 0 0,.int .i64 0,.slice none 0 0,.slice none 0 0,.int .i64 0,.int .i64 0] 92)).there w.heap.size 0 5 from fun t ht=>⟨by rw [Nat.zero_add,Lib.cell_of_heap HX3.out];simp;omega,Lib.frozen_of_heap HX3.out _⟩)
  have HTb:=hid (show (w2.alloc (.cells #[.string ⟨#[]⟩,.slice none 0 0,.int .i64 0,.slice none 0 0,.slice none 0 0,.int .i64 0,.int .i64 0] 92)).there w2.heap.size 0 7 from fun t ht=>⟨by rw [Nat.zero_add,Lib.cell_of_heap (heap_alloc_new w2 _)];simp;omega,Lib.frozen_of_heap (heap_alloc_new w2 _) _⟩);have HFs:=hid (store_fresh17 w2 92 (.string ⟨#[]⟩) (.slice none 0 0) (.int .i64 0) (.slice none 0 0) (.slice none 0 0) (.int .i64 0) (.int .i64 0) (.string ⟨#[]⟩) (.slice none 0 0) (.int .i64 0) (.slice none 0 0) (.slice none 0 0) (.int .i64 0) (.int .i64 0))
  have HZ1:=hid (all_oneCell_toArray (cs:=[.string ⟨#[]⟩,.slice none 0 0,.int .i64 0,.slice none 0 0,.slice none 0 0,.int .i64 0,.int .i64 0]) (by intro v hv;simp at hv;rcases hv with rfl | rfl | rfl | rfl | rfl | rfl | rfl<;>rfl));obtain ⟨W4,hW4⟩: ∃ X,X=(w2.alloc (.cells #[.string ⟨#[]⟩,.slice none 0 0,.int .i64 0,.slice none 0 0,.slice none 0 0,.int .i64 0,.int .i64 0] 92)).setCells w.heap.size 0 [.int .i64 0,.int .i64 0,.slice none 0 0,.slice none 0 0,.slice none 0 0]:=⟨_,rfl⟩
  have HW4:=hid hW4;have HFin:=hid (show W4.rangeAt w.heap.size 0 [.int .i64 0,.int .i64 0,.slice none 0 0,.slice none 0 0,.slice none 0 0]∧Below w.heap.size w W4 by
   rw [hW4];exact ⟨World.rangeAt_setCells_same _ _ _ _ HT3.out,below_setC17 (Nat.le_refl _) _ 0 _ (below2_Efc HB1.out hb3)⟩)
  have HNo:=hid hnone;clear hnone hb2 hb3 hW4
  go_wp2_with (first | (refine wpList_store_mid rfl 92 (.tmp 9) (.tmp 18) rfl w2.heap.size 0 #[.string ⟨#[]⟩,.slice none 0 0,.int .i64 0,.slice none 0 0,.slice none 0 0,.int .i64 0,.int .i64 0] rfl rfl HTb.out sizeRw HZ1.out ?_;rw [HFs.out]) | (refine wpList_store_mid rfl 38 (.tmp 8) (.tmp 22) rfl w.heap.size 0 #[.int .i64 0,.int .i64 0,.slice none 0 0,.slice none 0 0,.slice none 0 0] rfl rfl HT3.out sizeFd HZF.out ?_;refine wpList_world17 HW4.out ?_))
  have e1:findV Lib.itoa C u.data.toList A now=⟨0,⟨0,[],[]⟩,[]⟩:=by unfold findV;rw [HNo.out]
  have e2:useV C u.data.toList A=C:=by unfold useV;rw [HNo.out]
  refine bodyPost_ret (results_fd rfl _ _ w.heap.size [.int .i64 0,.int .i64 0,.slice none 0 0,.slice none 0 0,.slice none 0 0] rfl rfl HFin.out.1) rfl ?_;unfold FindP;rw [e1,e2]
  exact ⟨_,_,_,w.heap.size,rfl,HI.out.size.kept HFin.out.2,World.ownsRow_nil _ _ _ _,World.ownsRow_nil _ _ _ _,World.ownsRow_nil _ _ _ _,Tq.below HFin.out.2 (by have:=HPM.out;omega),Nat.le_refl _⟩
 ·have hsz2:W1.heap.size≤w2.heap.size:=htq.1.size
  have hRl:R.length≤1000:=by
   obtain ⟨_,k,_,_,_,hR⟩:=takeV_mem hsome
   rw [hR];have:=List.length_eraseIdx_le C.rows k;have:=HG.out.1;omega
  have hzr:z.r ∈ C.rows:=by
   obtain ⟨_,k,_,hk,hzr,_⟩:=takeV_mem hsome
   exact List.mem_of_getElem? hzr
  obtain ⟨hk1,hk2,hk3,hk4,hk5⟩:=HG.out.2.2 _ hzr
  obtain ⟨⟨h1,h2,h3,h5⟩,a,c,Z,hrow,hown,hZ,hden⟩:=hci
  dsimp only at hrow hown hZ;have HTq2:=hid ((Tq.below HB1.out (by have:=HPM.out;omega):TqC p w W1).trans htq);have HXF2:=hid ((htq.2 _ _ _ _ HX1.out (by decide) (by decide)).trans HX1.out);obtain ⟨ca,cc,ha,hc,ba,bc,f1,f2,f3⟩:=hdz.form
  obtain ⟨R0,zc,zh,zb⟩:=z
  dsimp only at f1 f2 f3 hk1 hk2 hk3 hk4 hk5 hsome;subst f1 f2 f3;have HDz:=hid hdz;have HCop:=hid (fun (Y:World) (hY:TqC p w2 Y)=>copied_any R0.rp.st (.slice ha R0.rp.hd.length hc) (.slice ba R0.rp.bd.length bc) R0.rp.hd R0.rp.bd Y (own_rw (hdz.tq hY).2.1.1) (own_rw (hdz.tq hY).2.2.1) (by have:=hk1.1;omega) hk4);have HHd:=hid (fun (Y:World) (hY:TqC p w2 Y)=>(show HdAt Y (.slice ha R0.rp.hd.length hc) R0.rp.hd from own_hd (hdz.tq hY).2.1.1));obtain ⟨U,hU⟩: ∃ U:ByteArray,(⟨R0.url.toArray⟩:ByteArray)=U:=⟨_,rfl⟩
  obtain ⟨cn,hcn⟩: ∃ n,n=R0.ch.length:=⟨_,rfl⟩
  obtain ⟨hn',hhn⟩: ∃ n,n=R0.rp.hd.length:=⟨_,rfl⟩
  obtain ⟨bn,hbn⟩: ∃ n,n=R0.rp.bd.length:=⟨_,rfl⟩
  obtain ⟨s1,hs1⟩: ∃ n,n=R0.rp.st:=⟨_,rfl⟩
  obtain ⟨s2,hs2⟩: ∃ n,n=R0.sto:=⟨_,rfl⟩
  obtain ⟨s3,hs3⟩: ∃ n,n=R0.tn:=⟨_,rfl⟩
  obtain ⟨L0,hL0⟩: ∃ l,l=R0.rp.hd:=⟨_,rfl⟩
  obtain ⟨l0,hl0⟩: ∃ l,l=R0.rp.bd:=⟨_,rfl⟩
  rw [← hcn,← hhn,← hbn] at HDz;rw [← hhn,← hbn,← hs1,← hL0,← hl0] at HCop;rw [← hhn,← hL0] at HHd;rw [← hs2] at hk5;rw [← hL0] at hk1;have HHn:=hid (show hn'=L0.length by rw [hhn,hL0]);have HBn:=hid (show bn=l0.length by rw [hbn,hl0]);have HL0:=hid (show R0.rp=⟨s1,L0,l0⟩∧R0.sto=s2 by rw [hs1,hL0,hl0,hs2];exact ⟨rfl,rfl⟩);have HHk:=hid hk1;have HSto:=hid hk5;have HCs:=hid (show zCells ⟨R0,.slice ca cn cc,.slice ha hn' hc,.slice ba bn bc⟩=[.string U,.slice ca cn cc,.int .i64 s1,.slice ha hn' hc,.slice ba bn bc,.int .i64 s2,.int .i64 s3] by unfold zCells;rw [← hU,← hs1,← hs2,← hs3])
  have hzv:zVal ⟨R0,.slice ca R0.ch.length cc,.slice ha R0.rp.hd.length hc,.slice ba R0.rp.bd.length bc⟩ = .agg #[.string U,.slice ca cn cc,.int .i64 s1,.slice ha hn' hc,.slice ba bn bc,.int .i64 s2,.int .i64 s3]:=by
   rw [← hcn,← hhn,← hbn];unfold zVal;rw [HCs.out]
  rw [hzv];have HSome:=hid hsome;obtain ⟨n,hnn⟩: ∃ n,n=R.length:=⟨_,rfl⟩
  rw [← hnn] at hrow hown hRl;have HNZ:=hid (show n=Z.length by rw [hnn,← hZ];simp);have HZm:=hid hZ;have HDen:=hid hden;have HG5:=hid (show gMax<p∧G5 w2 from ⟨h3,h5⟩);obtain ⟨tn,htn⟩: ∃ t,t=C.tn:=⟨_,rfl⟩
  rw [← htn] at hrow;have HTn:=hid htn;obtain ⟨W3,hW3⟩: ∃ X,w2.alloc (.cells #[.string U,.slice ca cn cc,.int .i64 s1,.slice ha hn' hc,.slice ba bn bc,.int .i64 s2,.int .i64 s3] 92)=X:=⟨_,rfl⟩
  have hb3:Below w2.heap.size w2 W3:=by rw [← hW3];exact (Below.refl _ w2).alloc (Nat.le_refl _) _
  have HB3:=hid hb3;have HBox:=hid (show W3.heap[w2.heap.size]? = some (.cells #[.string U,.slice ca cn cc,.int .i64 s1,.slice ha hn' hc,.slice ba bn bc,.int .i64 s2,.int .i64 s3] 92 (0,0)) by rw [← hW3];exact heap_alloc_new w2 _);have hpw2:p<w2.heap.size:=by omega
  have HRow:=hid (show W3.heap[p]? = some (.cells #[.slice a n c,.int .i64 tn] 81 (0,0)) from (hb3.block p hpw2).trans hrow);have HOwn:=hid (own_same hown.1 hb3);have HGb:=hid (fun g (hg:(Value.slice a n c).ownBlock=some g)=>(hown.1.lt g hg).2);have HNl:=hid hRl;have HPw2:=hid hpw2;have HSz2:=hid hsz2;clear hdz htq hsome hrow hown hZ hden h1 h2 h3 h5 hU hcn hhn hbn hs1 hs2 hs3 hL0 hl0 hk1 hk2 hk3 hk4 hk5 hzr hzv hnn hRl hb3 hpw2 hsz2 htn
  have HS:=hid (show (fun wx:World=>wx.cell? ⟨p,0,none⟩=some (.slice a n c)∧wx.rangeAt (w2.heap.size) 0 [.string U,.slice ca cn cc,.int .i64 s1,.slice ha hn' hc,.slice ba bn bc,.int .i64 s2,.int .i64 s3]) W3.drew from ⟨by show W3.cell? _=_;rw [Lib.cell_of_heap HRow.out];rfl,range_row_Cb (cs:=[.string U,.slice ca cn cc,.int .i64 s1,.slice ha hn' hc,.slice ba bn bc,.int .i64 s2,.int .i64 s3]) (show W3.drew.heap[w2.heap.size]? = some (.cells ([.string U,.slice ca cn cc,.int .i64 s1,.slice ha hn' hc,.slice ba bn bc,.int .i64 s2,.int .i64 s3]:List Value).toArray 92 (0,0)) from HBox.out)⟩)
  go_upto_region 4 with fail
  clear hW3;refine AnyBut.start (n:=10) (S:=(fun wx:World=>wx.cell? ⟨p,0,none⟩=some (.slice a n c)∧wx.rangeAt (w2.heap.size) 0 [.string U,.slice ca cn cc,.int .i64 s1,.slice ha hn' hc,.slice ba bn bc,.int .i64 s2,.int .i64 s3])) (by kernel_rfl) ?_
  refine' AnyBut.take (i:=0) (oi:=⟨some 23,_,_,_,_,_⟩) (v:=_) rfl (by kernel_rfl) (by kernel_rfl) (fun _ _ _ h=>h) _ _ _ _ (by kernel_rfl) (by kernel_rfl) (Or.inl ⟨by kernel_rfl,?hyaf1⟩) HS.out ?restaf1
  case hyaf1=>(intro wx hSw;(try dsimp only at hSw);obtain ⟨s0,_⟩:=hSw;go_simp;first | done | with_reducible rfl)
  (try simp only [Act.put,List.setIfInBounds_toArray,List.set_cons_zero,List.set_cons_succ])
  refine' AnyBut.take (i:=1) (oi:=⟨some 24,_,_,_,_,_⟩) (v:=_) rfl (by kernel_rfl) (by kernel_rfl) (fun _ _ _ h=>h) _ _ _ _ (by kernel_rfl) (by kernel_rfl) (Or.inl ⟨by kernel_rfl,?hyaf2⟩) HS.out ?restaf2
  case hyaf2=>(intro wx hSw;(try dsimp only at hSw);obtain ⟨s0,_⟩:=hSw;go_simp;first | done | with_reducible rfl)
  (try simp only [Act.put,List.setIfInBounds_toArray,List.set_cons_zero,List.set_cons_succ])
  refine' AnyBut.take (i:=2) (oi:=⟨some 25,_,_,_,_,_⟩) (v:=_) rfl (by kernel_rfl) (by kernel_rfl) (fun _ _ _ h=>h) _ _ _ _ (by kernel_rfl) (by kernel_rfl) (Or.inl ⟨by kernel_rfl,?hyaf3⟩) HS.out ?restaf3
  case hyaf3=>(intro wx hSw;(try dsimp only at hSw);obtain ⟨s0,_⟩:=hSw;go_simp;first | done | with_reducible rfl)
  (try simp only [Act.put,List.setIfInBounds_toArray,List.set_cons_zero,List.set_cons_succ])
  refine' AnyBut.take (i:=3) (oi:=⟨some 26,_,_,_,_,_⟩) (v:=_) rfl (by kernel_rfl) (by kernel_rfl) (fun _ _ _ h=>h) _ _ _ _ (by kernel_rfl) (by kernel_rfl) (Or.inl ⟨by kernel_rfl,?hyaf4⟩) HS.out ?restaf4
  case hyaf4=>(intro wx hSw;(try dsimp only at hSw);obtain ⟨s0,_⟩:=hSw;go_simp;first | done | with_reducible rfl)
  (try simp only [Act.put,List.setIfInBounds_toArray,List.set_cons_zero,List.set_cons_succ])
  refine' AnyBut.take (i:=4) (oi:=⟨some 27,_,_,_,_,_⟩) (v:=_) rfl (by kernel_rfl) (by kernel_rfl) (fun _ _ _ h=>h) _ _ _ _ (by kernel_rfl) (by kernel_rfl) (Or.inl ⟨by kernel_rfl,?hyaf5⟩) HS.out ?restaf5
  case hyaf5=>(intro wx hSw;(try dsimp only at hSw);obtain ⟨s0,_⟩:=hSw;go_simp;first | done | with_reducible rfl)
  (try simp only [Act.put,List.setIfInBounds_toArray,List.set_cons_zero,List.set_cons_succ])
  refine AnyBut.take (i:=5) (oi:=⟨some 28,_,_,_,_,_⟩) rfl (by kernel_rfl) (by kernel_rfl) (fun _ _ _ h=>h) _ _ _ _ (by kernel_rfl) (by kernel_rfl) (yieldsIf_load_mid (by kernel_rfl) 92 (.tmp 9) rfl (w2.heap.size) 0 rfl [.string U,.slice ca cn cc,.int .i64 s1,.slice ha hn' hc,.slice ba bn bc,.int .i64 s2,.int .i64 s3] _ (fun _ h=>h.2) Tryz.underlying92 rfl sizeRw) HS.out ?_
  (try simp only [Act.put,List.setIfInBounds_toArray,List.set_cons_zero,List.set_cons_succ])
  refine AnyBut.one (i:=6) (by kernel_rfl) rfl (fun K' hK=> ?_)
  rw [if_pos (by kernel_rfl)]
  go_simp
  have hb0:Below W3.heap.size W3 (W3.alloc (.cells #[.string U,.slice ca cn cc,.int .i64 s1,.slice ha hn' hc,.slice ba bn bc,.int .i64 s2,.int .i64 s3] 92)).drew:=((Below.refl _ W3).alloc (Nat.le_refl _) _).drew;have HQ2:=hid hb0;have HRow2:=hid (show (W3.alloc (.cells #[.string U,.slice ca cn cc,.int .i64 s1,.slice ha hn' hc,.slice ba bn bc,.int .i64 s2,.int .i64 s3] 92)).drew.heap[p]? = some (.cells #[.slice a n c,.int .i64 tn] 81 (0,0)) from (hb0.block p (Array.getElem?_eq_some_iff.1 HRow.out).1).trans HRow.out)
  have HBox2:=hid (show (W3.alloc (.cells #[.string U,.slice ca cn cc,.int .i64 s1,.slice ha hn' hc,.slice ba bn bc,.int .i64 s2,.int .i64 s3] 92)).drew.heap[w2.heap.size]? = some (.cells #[.string U,.slice ca cn cc,.int .i64 s1,.slice ha hn' hc,.slice ba bn bc,.int .i64 s2,.int .i64 s3] 92 (0,0)) from (hb0.block _ (Array.getElem?_eq_some_iff.1 HBox.out).1).trans HBox.out)
  have HOwn2:=hid (show (W3.alloc (.cells #[.string U,.slice ca cn cc,.int .i64 s1,.slice ha hn' hc,.slice ba bn bc,.int .i64 s2,.int .i64 s3] 92)).drew.ownsRow (p+1) 92 7 (.slice a n c) n (cellsZ Z) from own_same HOwn.out hb0);have HSz2:=hid (show (W3.alloc (.cells #[.string U,.slice ca cn cc,.int .i64 s1,.slice ha hn' hc,.slice ba bn bc,.int .i64 s2,.int .i64 s3] 92)).drew.heap.size=W3.heap.size+1 by show (W3.alloc _).heap.size=_;simp);clear HS hb0
  have HS:=hid (show (fun wx:World=>wx.cell? ⟨p,0,none⟩=some (.slice a n c)∧wx.rangeAt (w2.heap.size) 0 [.string U,.slice ca cn cc,.int .i64 s1,.slice ha hn' hc,.slice ba bn bc,.int .i64 s2,.int .i64 s3]) (W3.alloc (.cells #[.string U,.slice ca cn cc,.int .i64 s1,.slice ha hn' hc,.slice ba bn bc,.int .i64 s2,.int .i64 s3] 92)).drew from ⟨by rw [Lib.cell_of_heap HRow2.out];rfl,range_row_Cb (cs:=[.string U,.slice ca cn cc,.int .i64 s1,.slice ha hn' hc,.slice ba bn bc,.int .i64 s2,.int .i64 s3]) HBox2.out⟩);refine hK.out _ _ HS.out ?_;clear hK K'
  refine AnyBut.one (i:=7) (by kernel_rfl) rfl (fun K' hK=> ?_)
  refine step_append_own17 rfl (.tmp 27) (.tmp 29) 79 rfl (p+1) 92 i0 _ 7 112 Tryz.underlying79 hi hz0 hz1 hz2 rfl (by decide) (.slice a n c) n (cellsZ Z) rfl HOwn2.out ⟨W3.heap.size,0,none⟩ 1 1 [.string U,.slice ca cn cc,.int .i64 s1,.slice ha hn' hc,.slice ba bn bc,.int .i64 s2,.int .i64 s3] rfl rfl ?caaf ?cbaf (by unfold maxLen;have:=HNl.out;omega) (by have:=HNl.out;omega) (by have:=HSz2.out;have:=(Array.getElem?_eq_some_iff.1 HRow.out).1;omega) ?_
  case caaf=>
   intro q u hq;rw [Addr.add_mid];exact range_row_Cb (cs:=[.string U,.slice ca cn cc,.int .i64 s1,.slice ha hn' hc,.slice ba bn bc,.int .i64 s2,.int .i64 s3]) (heap_alloc_new W3 _) q u hq
  case cbaf=>intro u hu;simp at hu;rcases hu with rfl | rfl | rfl | rfl | rfl | rfl | rfl<;>rfl
  intro v4 w4 hown4 hgrow4 hnil4;obtain ⟨g4,c4,rfl⟩: ∃ g4 c4,v4 = .slice (some ⟨g4,0,none⟩) (n+1) c4:=by
   rcases hown4.2 with ⟨_,h0⟩ | ⟨g,cap,cur,hv,_⟩
   ·omega
   ·exact ⟨g,cap,hv⟩
  have HOw4:=hid hown4;have HGr4:=hid (show W3.grownBy w4 (Value.slice a n c).ownBlock from grown_t17 (below_grown17 HQ2.out _) hgrow4);have hblk:w4.heap[p]? = some (.cells #[.slice a n c,.int .i64 tn] 81 (0,0)):=by
   rw [hgrow4.block p (Array.getElem?_eq_some_iff.1 HRow2.out).1 (fun e=>by have:=(HOwn2.out.lt p e.symm).1;omega)];exact HRow2.out
  have hbox4:w4.heap[w2.heap.size]? = some (.cells #[.string U,.slice ca cn cc,.int .i64 s1,.slice ha hn' hc,.slice ba bn bc,.int .i64 s2,.int .i64 s3] 92 (0,0)):=by
   rw [hgrow4.block _ (Array.getElem?_eq_some_iff.1 HBox2.out).1 (fun e=>by have:=HGb.out _ e.symm;omega)];exact HBox2.out
  have HRow4:=hid hblk;have HBox4:=hid hbox4;have HSa:=hid (show (fun wx:World=>wx.cell? ⟨p,0,none⟩=some (.slice a n c)∧wx.rangeAt (w2.heap.size) 0 [.string U,.slice ca cn cc,.int .i64 s1,.slice ha hn' hc,.slice ba bn bc,.int .i64 s2,.int .i64 s3]) w4 from ⟨by rw [Lib.cell_of_heap hblk];rfl,range_row_Cb (cs:=[.string U,.slice ca cn cc,.int .i64 s1,.slice ha hn' hc,.slice ba bn bc,.int .i64 s2,.int .i64 s3]) hbox4⟩);clear hown4 hgrow4 hnil4 hblk hbox4;refine hK.out _ _ HSa.out ?_;clear hK K' HS;have HS:=hid HSa.out;refine AnyBut.one (i:=8) (by kernel_rfl) rfl (fun K' hK=> ?_)
  rw [if_pos (by kernel_rfl)]
  go_simp
  refine hK.out _ _ HS.out ?_;clear hK K';refine AnyBut.one (i:=9) (by kernel_rfl) rfl (fun K' hK=> ?_)
  rw [if_pos (by kernel_rfl)]
  go_simp
  refine hK.out _ _ HS.out ?_;clear hK K';have d0:=HSa.out.1;have z0:w4.frozen? ⟨p,0,none⟩=false:=Lib.frozen_of_heap HRow4.out 0
  refine AnyBut.last (by kernel_rfl) (by kernel_rfl) rfl (fun K' hK=> ?_)
  rw [if_pos (by kernel_rfl)]
  go_simp
  go_wp2_with fail
  refine hK.out _ _ ?_;clear hK K';clear d0 z0 HS HSa;obtain ⟨W5,hW5⟩: ∃ X,X=w4.setCell ⟨p,0,none⟩ (.slice (some ⟨g4,0,none⟩) (n+1) c4):=⟨_,rfl⟩
  rw [← hW5];have HA5:=hid (show CaI G W5 p W5.heap.size (useV C u.data.toList A)∧TqC p w2 W5 by
   rw [hW5];have hu:useV C u.data.toList A=⟨R++[R0],C.tn⟩:=by unfold useV;rw [HSome.out]
   rw [hu,← HTn.out]
   have ho:=HOw4.out;rw [← HCs.out] at ho;exact app17 (w:=w2) (W:=W3) HG5.out.1 HG5.out.2 (Tq.below HB3.out (by have:=HPw2.out;omega)) (Array.getElem?_eq_some_iff.1 HRow.out).1 HGr4.out HOwn.out HRow4.out ho (by rw [HZm.out]) rfl HNZ.out HDen.out HDz.out)
  have HBx5:=hid (show W5.heap[w2.heap.size]? = some (.cells #[.string U,.slice ca cn cc,.int .i64 s1,.slice ha hn' hc,.slice ba bn bc,.int .i64 s2,.int .i64 s3] 92 (0,0)) by
   rw [hW5,heap_setCell_other _ _ _ _ (by show w2.heap.size≠p;have:=HPw2.out;omega)]
   exact HBox4.out)
  have HXF5:=hid ((HA5.out.2.2 _ _ _ _ HXF2.out (by decide) (by decide)).trans HXF2.out);have HBY:=hid (fun (Y:World) (hY:Below W5.heap.size W5 Y)=>(show Y.heap[w2.heap.size]? = some (.cells #[.string U,.slice ca cn cc,.int .i64 s1,.slice ha hn' hc,.slice ba bn bc,.int .i64 s2,.int .i64 s3] 92 (0,0)) from (hY.block _ (Array.getElem?_eq_some_iff.1 HBx5.out).1).trans HBx5.out));have HTY:=hid (fun (Y:World) (hY:Below W5.heap.size W5 Y)=>HA5.out.2.more hY (by have:=(Array.getElem?_eq_some_iff.1 HBx5.out).1;have:=HPw2.out;omega))
  have HRg5:=hid (show W5.rangeAt w2.heap.size 2 [.int .i64 s1,.slice ha hn' hc,.slice ba bn bc] from fun j v hv=>by
   rw [Lib.cell_of_heap HBx5.out]
   match j,hv with
   | 0,hv=>simpa using hv
   | 1,hv=>simpa using hv
   | 2,hv=>simpa using hv
   | j+3,hv=>simp at hv)
  have HCo5:=hid (HCop.out W5 HA5.out.2);clear hW5
  go_wp2_with (refine wpList_load_mid rfl 30 (.tmp 33) rfl w2.heap.size 2 rfl [.int .i64 s1,.slice ha hn' hc,.slice ba bn bc] _ HRg5.out Tryz.underlying30 rfl sizeRp ?_)
  refine HCo5.out.mono ?_;rintro e w6 ⟨u6,v6,rfl,ho6,hob6,hb6⟩
  obtain ⟨a6,c6,rfl⟩:=own_sl16 ho6
  obtain ⟨b6,d6,rfl⟩:=own_sl16 hob6
  have HB6:=hid hb6;have HO6:=hid ho6;have HP6:=hid hob6;clear hb6 ho6 hob6
  go_upto_region 6 with fail
  obtain ⟨W7,hW7⟩: ∃ X,X=w6.alloc (.cells #[.int .i64 2,.int .i64 s1,.slice a6 hn' c6,.slice b6 bn d6,.slice none 0 0] 38):=⟨_,rfl⟩
  rw [← hW7];have HB67:=hid (show Below w6.heap.size w6 W7 by rw [hW7];exact (Below.refl _ w6).alloc (Nat.le_refl _) _);have HQ7:=hid (show W7.heap[w6.heap.size]? = some (.cells #[.int .i64 2,.int .i64 s1,.slice a6 hn' c6,.slice b6 bn d6,.slice none 0 0] 38 (0,0)) by rw [hW7];exact heap_alloc_new w6 _);have HB7:=hid (below2_Efc HB6.out HB67.out);have k3:W7.cell? ⟨w2.heap.size,3,none⟩=some (.slice ha hn' hc):=by rw [Lib.cell_of_heap (HBY.out W7 HB7.out)];rfl
  have k5:W7.cell? ⟨w2.heap.size,5,none⟩=some (.int .i64 s2):=by rw [Lib.cell_of_heap (HBY.out W7 HB7.out)];rfl
  clear hW7;have HAg:=hid (age16_any _ L0 s2 now W7 (HHd.out W7 (HTY.out W7 HB7.out)) HHk.out.szd.1 HHk.out.szd.2.1 (by have:=HHk.out.szd.2.2;omega) (by have:=HSto.out;omega) (by have:=HNow.out;omega));obtain ⟨ag,hag⟩: ∃ x,x=ageV L0 s2 now:=⟨_,rfl⟩
  have hagr: -9223372036854775808≤ag∧ag≤9223372036854775807:=by rw [hag];have:=ageV_range L0 s2 now;omega
  rw [← hag] at HAg;have HAgV:=hid hag;have HAgr:=hid hagr;clear hag hagr
  go_wp2_with fail
  refine HAg.out.mono ?_;rintro e w8 ⟨rfl,hb8⟩
  have HB78:=hid hb8;have HB8:=hid (below2_Efc HB7.out hb8);have HQ8:=hid ((hb8.block _ (Array.getElem?_eq_some_iff.1 HQ7.out).1).trans HQ7.out);clear hb8 k3 k5;have HSF:=hid (fun (Y:World) (hY:Below w8.heap.size w8 Y)=>(show Y.heap[w6.heap.size]? = some (.cells #[.int .i64 2,.int .i64 s1,.slice a6 hn' c6,.slice b6 bn d6,.slice none 0 0] 38 (0,0)) from (hY.block _ (Array.getElem?_eq_some_iff.1 HQ8.out).1).trans HQ8.out))
  have HSY:=hid (fun (Y:World) (hY:Below w8.heap.size w8 Y)=>(show (fun wx:World=>wx.cell? ⟨w6.heap.size,2,none⟩=some (.slice a6 hn' c6)) Y from by show Y.cell? _=_;rw [Lib.cell_of_heap (HSF.out Y hY)];rfl));have hd8:Below w8.heap.size w8 w8.drew:=(Below.refl _ _).drew;have HD8:=hid hd8;have HS:=hid (HSY.out _ hd8);clear hd8;have HFm:=hid (fun (Y:World) (hY:Below W5.heap.size W5 Y)=>format17_any ag Y (HGp.out.low HG5.out.1 ((HTq2.out.trans (HTY.out Y hY)).1)) HAgr.out.1 HAgr.out.2);obtain ⟨T,hT⟩: ∃ T:ByteArray,T=⟨(Lib.itoa ag).toArray⟩:=⟨_,rfl⟩
  have hTl:T.data.toList=Lib.itoa ag:=by rw [hT]
  rw [← hT] at HFm;have HTs:=hid (show T.size≤9223372036854775807 by rw [Lib.size_eq,hTl];exact itoa_len17 ag HAgr.out);have HTl:=hid hTl;clear hT hTl
  go_upto_region 7 with fail
  refine AnyBut.start (n:=8) (S:=(fun wx:World=>wx.cell? ⟨w6.heap.size,2,none⟩=some (.slice a6 hn' c6))) (by kernel_rfl) ?_
  refine' AnyBut.take (i:=0) (oi:=⟨some 44,_,_,_,_,_⟩) (v:=_) rfl (by kernel_rfl) (by kernel_rfl) (fun _ _ _ h=>h) _ _ _ _ (by kernel_rfl) (by kernel_rfl) (Or.inl ⟨by kernel_rfl,?hyf0⟩) HS.out ?restf0
  case hyf0=>(intro wx hSw;(try dsimp only at hSw);go_simp;first | done | with_reducible rfl)
  (try simp only [Act.put,List.setIfInBounds_toArray,List.set_cons_zero,List.set_cons_succ])
  refine' AnyBut.take (i:=1) (oi:=⟨some 45,_,_,_,_,_⟩) (v:=_) rfl (by kernel_rfl) (by kernel_rfl) (fun _ _ _ h=>h) _ _ _ _ (by kernel_rfl) (by kernel_rfl) (Or.inl ⟨by kernel_rfl,?hyf1⟩) HS.out ?restf1
  case hyf1=>(intro wx hSw;(try dsimp only at hSw);go_simp;first | done | with_reducible rfl)
  (try simp only [Act.put,List.setIfInBounds_toArray,List.set_cons_zero,List.set_cons_succ])
  refine' AnyBut.take (i:=2) (oi:=⟨some 46,_,_,_,_,_⟩) (v:=_) rfl (by kernel_rfl) (by kernel_rfl) (fun _ _ _ h=>h) _ _ _ _ (by kernel_rfl) (by kernel_rfl) (Or.inl ⟨by kernel_rfl,?hyf2⟩) HS.out ?restf2
  case hyf2=>(intro wx hSw;(try dsimp only at hSw);go_simp;first | done | with_reducible rfl)
  (try simp only [Act.put,List.setIfInBounds_toArray,List.set_cons_zero,List.set_cons_succ])
  refine' AnyBut.take (i:=3) (oi:=⟨some 47,_,_,_,_,_⟩) (v:=_) rfl (by kernel_rfl) (by kernel_rfl) (fun _ _ _ h=>h) _ _ _ _ (by kernel_rfl) (by kernel_rfl) (Or.inl ⟨by kernel_rfl,?hyf3⟩) HS.out ?restf3
  case hyf3=>(intro wx hSw;(try dsimp only at hSw);go_simp;first | done | with_reducible rfl)
  (try simp only [Act.put,List.setIfInBounds_toArray,List.set_cons_zero,List.set_cons_succ])
  refine AnyBut.one (i:=4) (by kernel_rfl) rfl (fun K' hK=> ?_)
  rw [if_pos (by kernel_rfl)]
  go_simp
  go_wp2_with (go_at_call 66;refine (HFm.out _ (below2_Efc HB8.out HD8.out)).mono ?_;rintro e w9 ⟨rfl,hb9⟩)
  have HD9:=hid (below2_Efc HD8.out hb9);have HS9:=hid (HSY.out _ HD9.out);clear hb9 HS;refine hK.out _ _ HS9.out ?_;clear hK K';have HSt:=hid (show Calls Tryz.prog 65 #[.slice a6 hn' c6,.string ⟨#[97,103,101]⟩,.string T] w9 fun e w'=> ∃ u,e = .returned u∧w'.ownsRow W5.heap.size 45 2 u (setH L0 tAge (Lib.itoa ag)).length (cellsH (setH L0 tAge (Lib.itoa ag)))∧Below w9.heap.size w9 w' from by
   have h:=setO17_any (.slice a6 hn' c6) L0 ⟨#[97,103,101]⟩ T w9 W5.heap.size (by rw [← HHn.out];exact own_same HO6.out (below2_Efc HB67.out (below2_Efc HB78.out HD9.out))) (Nat.le_trans HB8.out.size HD9.out.size) HHk.out (by decide) HTs.out
   rw [HTl.out] at h;exact h)
  refine AnyBut.one (i:=5) (by kernel_rfl) rfl (fun K' hK=> ?_)
  rw [if_pos (by kernel_rfl)]
  go_simp
  go_wp2_with (go_at_call 65;refine HSt.out.mono ?_;rintro e w10 ⟨u10,rfl,ho10,hb10⟩)
  have HD10:=hid (below2_Efc HD9.out hb10);have HS10:=hid (HSY.out _ HD10.out);obtain ⟨a10,c10,rfl⟩:=own_sl16 ho10
  obtain ⟨m10,hm10⟩: ∃ x,x=(setH L0 tAge (Lib.itoa ag)).length:=⟨_,rfl⟩
  rw [← hm10] at ho10 ⊢;have HO10:=hid ho10;have HM10:=hid hm10;clear hb10 ho10 hm10 HS9;refine hK.out _ _ HS10.out ?_;clear hK K';refine AnyBut.one (i:=6) (by kernel_rfl) rfl (fun K' hK=> ?_)
  rw [if_pos (by kernel_rfl)]
  go_simp
  refine hK.out _ _ HS10.out ?_;clear hK K';refine AnyBut.one (i:=7) (by kernel_rfl) rfl (fun K' hK=> ?_)
  rw [if_pos (by kernel_rfl)]
  go_simp
  refine hK.out _ _ HS10.out ?_;clear hK K';have d0:=HS10.out;have z0:w10.frozen? ⟨w6.heap.size,2,none⟩=false:=Lib.frozen_of_heap (HSF.out w10 HD10.out) 2
  refine AnyBut.last (by kernel_rfl) (by kernel_rfl) rfl (fun K' hK=> ?_)
  rw [if_pos (by kernel_rfl)]
  go_simp
  go_wp2_with fail
  refine hK.out _ _ ?_;clear hK K' d0 z0;obtain ⟨W11,hW11⟩: ∃ X,X=w10.setCell ⟨w6.heap.size,2,none⟩ (.slice a10 m10 c10):=⟨_,rfl⟩
  rw [← hW11];have hq6:W5.heap.size≤w6.heap.size:=HB6.out.size;have HQ11:=hid (show W11.heap[w6.heap.size]? = some (.cells #[.int .i64 2,.int .i64 s1,.slice a10 m10 c10,.slice b6 bn d6,.slice none 0 0] 38 (0,0)) by rw [hW11];exact Lib.heap_setCell_same (HSF.out w10 HD10.out) (i:=2) _);have HB10:=hid (below2_Efc HB8.out HD10.out);have HB11:=hid (show Below W5.heap.size W5 W11 by rw [hW11];exact HB10.out.setCell (p:=⟨w6.heap.size,2,none⟩) hq6 _);have HO11:=hid (show W11.ownsRow W5.heap.size 45 2 (.slice a10 m10 c10) m10 (cellsH (setH L0 tAge (Lib.itoa ag))) by
   rw [hW11];exact (tqF_set1 (HSF.out w10 HD10.out) 2 _).own HO10.out (by decide) (by decide))
  have HP11:=hid (show W11.ownsRow W5.heap.size 5 1 (.slice b6 bn d6) bn (cellsB l0) by
   rw [hW11];exact (tqF_set1 (HSF.out w10 HD10.out) 2 _).own (own_same HP6.out (below2_Efc HB67.out (below2_Efc HB78.out HD10.out))) (by decide) (by decide))
  have HHdY:=hid (fun (Y:World) (hY:Below W5.heap.size W5 Y)=>HHd.out Y (HTY.out Y hY));have HG5Y:=hid (fun (Y:World) (hY:Below W5.heap.size W5 Y)=>HG5.out.2.low17 HG5.out.1 (HTY.out Y hY).1);have HPs:=hid (parse16_any (.slice va nA vac) A W11 (HG5Y.out W11 HB11.out) ((HA.out.tq (HTq2.out.trans (HTY.out W11 HB11.out))).1) HSz.out.1 HSz.out.2.1 (by have:=HSz.out.2.2;omega));obtain ⟨ns,nc,mx,hct⟩: ∃ a b m,ctlV A=⟨a,b,m⟩:=⟨_,_,_,rfl⟩
  rw [hct] at HPs;unfold CtPost at HPs;dsimp only at HPs;have HF:=hid (show findV Lib.itoa C u.data.toList A now=if nc || !freV L0 s2 now then ⟨1,⟨s1,setH L0 tAge (Lib.itoa ag),l0⟩,condV L0⟩ else ⟨2,⟨s1,setH L0 tAge (Lib.itoa ag),l0⟩,[]⟩ by
   unfold findV;rw [HSome.out];dsimp only;unfold foundV;rw [hct,HL0.out.1,HL0.out.2,← HAgV.out])
  have hf1: ∀ w,(Instr.field 87 (.agg #[.bool ns,.bool nc,.int .i64 mx]) 1).run Tryz.prog w = .ok (.bool nc) w:=fun w=>field_ct1 ns nc mx w
  clear hct hW11 hq6
  cases nc with
  | true=>
    have HFv:=hid (show findV Lib.itoa C u.data.toList A now=⟨1,⟨s1,setH L0 tAge (Lib.itoa ag),l0⟩,condV L0⟩ by rw [HF.out];rfl);clear HF
    go_wp2_with fail
    refine HPs.out.mono ?_;rintro e w12 ⟨rfl,hb12⟩
    have HBw11:=hid hb12;have HBw:=hid (show Below W5.heap.size W5 w12 from below2_Efc HB11.out hb12);clear hb12;have HCn:=hid (fun (Y:World) (hY:Below W5.heap.size W5 Y)=>conditions_any (.slice ha hn' hc) L0 Y (HHdY.out Y hY) HHk.out.szo);have k3:w12.cell? ⟨w2.heap.size,3,none⟩=some (.slice ha hn' hc):=by rw [Lib.cell_of_heap (HBY.out w12 HBw.out)];rfl
    go_wp2_with fail
    refine (HCn.out _ HBw.out).mono ?_;rintro e w14 ⟨u14,rfl,ho14,hb14⟩
    obtain ⟨a14,c14,rfl⟩:=own_sl16 ho14
    obtain ⟨m14,hm14⟩: ∃ x,x=(condV L0).length:=⟨_,rfl⟩
    rw [← hm14] at ho14 ⊢;have HB14:=hid (below2_Efc HBw.out hb14);have HB11e:=hid (below2_Efc HBw11.out hb14);have hq14:w14.heap[w6.heap.size]? = some (.cells #[.int .i64 2,.int .i64 s1,.slice a10 m10 c10,.slice b6 bn d6,.slice none 0 0] 38 (0,0)):=(HB11e.out.block _ (Array.getElem?_eq_some_iff.1 HQ11.out).1).trans HQ11.out;have hq15:(w14.setCell ⟨w6.heap.size,0,none⟩ (.int .i64 1)).heap[w6.heap.size]? = some (.cells #[.int .i64 1,.int .i64 s1,.slice a10 m10 c10,.slice b6 bn d6,.slice none 0 0] 38 (0,0)):=Lib.heap_setCell_same hq14 (i:=0) _
    have g0:w14.cell? ⟨w6.heap.size,0,none⟩=some (.int .i64 2):=by rw [Lib.cell_of_heap hq14];rfl
    have y0:w14.frozen? ⟨w6.heap.size,0,none⟩=false:=Lib.frozen_of_heap hq14 0
    have g4':(w14.setCell ⟨w6.heap.size,0,none⟩ (.int .i64 1)).cell? ⟨w6.heap.size,4,none⟩=some (.slice none 0 0):=by rw [Lib.cell_of_heap hq15];rfl
    have y4:(w14.setCell ⟨w6.heap.size,0,none⟩ (.int .i64 1)).frozen? ⟨w6.heap.size,4,none⟩=false:=Lib.frozen_of_heap hq15 4
    obtain ⟨W16,hW16⟩: ∃ X,(w14.setCell ⟨w6.heap.size,0,none⟩ (.int .i64 1)).setCell ⟨w6.heap.size,4,none⟩ (.slice a14 m14 c14)=X:=⟨_,rfl⟩
    have ht16:Tq 38 38 w6.heap.size w14 W16:=by rw [← hW16];exact (tqF_set1 hq14 0 _).trans (tqF_set1 hq15 4 _)
    have HBl:=hid (show Below W5.heap.size W5 W16 from HB14.out.trans (ht16.1.mono HB6.out.size));have HQl:=hid (show W16.heap[w6.heap.size]? = some (.cells #[.int .i64 1,.int .i64 s1,.slice a10 m10 c10,.slice b6 bn d6,.slice a14 m14 c14] 38 (0,0)) by rw [← hW16];exact Lib.heap_setCell_same hq15 (i:=4) _);have HOl:=hid (ht16.own (own_same HO11.out HB11e.out) (by decide) (by decide));have HPl:=hid (ht16.own (own_same HP11.out HB11e.out) (by decide) (by decide))
    have HAl:=hid (show W16.ownsRow W5.heap.size 45 2 (.slice a14 m14 c14) (condV L0).length (cellsH (condV L0)) from by rw [← hm14];exact ht16.own (own_low17 ho14 HBw.out.size) (by decide) (by decide));have HM14:=hid hm14;clear ho14 hb14 hm14 hq14 hq15 ht16;have HXl:=hid ((HBl.out.block _ (Array.getElem?_eq_some_iff.1 HXF5.out).1).trans HXF5.out);have HTl5:=hid (show W16.there w.heap.size 0 5 from fun t ht=>⟨by rw [Nat.zero_add,Lib.cell_of_heap HXl.out];simp;omega,Lib.frozen_of_heap HXl.out _⟩)
    have HRl:=hid (range_row_Cb (cs:=[.int .i64 1,.int .i64 s1,.slice a10 m10 c10,.slice b6 bn d6,.slice a14 m14 c14]) HQl.out);have HOne:=hid (all_oneCell_toArray (cs:=[.int .i64 1,.int .i64 s1,.slice a10 m10 c10,.slice b6 bn d6,.slice a14 m14 c14]) (by intro v hv;simp at hv;rcases hv with rfl | rfl | rfl | rfl | rfl<;>rfl));obtain ⟨WE,hWE⟩: ∃ X,X=W16.setCells w.heap.size 0 [.int .i64 1,.int .i64 s1,.slice a10 m10 c10,.slice b6 bn d6,.slice a14 m14 c14]:=⟨_,rfl⟩
    have HWE:=hid hWE;have HFin:=hid (show WE.rangeAt w.heap.size 0 [.int .i64 1,.int .i64 s1,.slice a10 m10 c10,.slice b6 bn d6,.slice a14 m14 c14]∧CaI G WE p W5.heap.size (useV C u.data.toList A)∧TqC p w WE∧WE.ownsRow W5.heap.size 45 2 (.slice a10 m10 c10) m10 (cellsH (setH L0 tAge (Lib.itoa ag)))∧WE.ownsRow W5.heap.size 5 1 (.slice b6 bn d6) bn (cellsB l0)∧WE.ownsRow W5.heap.size 45 2 (.slice a14 m14 c14) (condV L0).length (cellsH (condV L0)) from by
     have ht:=tqF_sets HXl.out [.int .i64 1,.int .i64 s1,.slice a10 m10 c10,.slice b6 bn d6,.slice a14 m14 c14];rw [hWE];exact ⟨World.rangeAt_setCells_same _ _ _ _ HTl5.out,(HA5.out.1.kept HBl.out).tqF ht (by have:=HPM.out;omega) (by decide) (by decide) (by decide) (by decide) (by decide),tqC_new (HTq2.out.trans (HTY.out W16 HBl.out)) (Nat.le_refl _) (by have:=HPM.out;omega) _,ht.own HOl.out (by decide) (by decide),ht.own HPl.out (by decide) (by decide),ht.own HAl.out (by decide) (by decide)⟩)
    clear hWE
    go_wp2_with (first | (refine wpList_load_mid rfl 38 (.tmp 11) rfl w6.heap.size 0 rfl [.int .i64 1,.int .i64 s1,.slice a10 m10 c10,.slice b6 bn d6,.slice a14 m14 c14] _ HRl.out Tryz.underlying38 rfl sizeFd ?_) | (refine wpList_store_mid rfl 38 (.tmp 8) (.tmp 71) rfl w.heap.size 0 #[.int .i64 1,.int .i64 s1,.slice a10 m10 c10,.slice b6 bn d6,.slice a14 m14 c14] rfl rfl HTl5.out sizeFd HOne.out ?_;refine wpList_world17 HWE.out ?_))
    refine bodyPost_ret (results_fd rfl _ _ w.heap.size [.int .i64 1,.int .i64 s1,.slice a10 m10 c10,.slice b6 bn d6,.slice a14 m14 c14] rfl rfl HFin.out.1) rfl ?_;unfold FindP;rw [HFv.out];dsimp only;rw [← HM10.out,← HBn.out];exact ⟨_,_,_,W5.heap.size,rfl,HFin.out.2.1,HFin.out.2.2.2.1,HFin.out.2.2.2.2.1,HFin.out.2.2.2.2.2,HFin.out.2.2.1,(HTq2.out.trans HA5.out.2).1.size⟩
  | false=>
    obtain ⟨fr,hfr⟩: ∃ b,freV L0 s2 now=b:=⟨_,rfl⟩
    have HFr:=hid (fun (Y:World) (hY:Below W5.heap.size W5 Y)=>fresh16_any (.slice ha hn' hc) L0 s2 now Y (HG5Y.out Y hY) (HHdY.out Y hY) HHk.out.szd.1 HHk.out.szd.2.1 (by have:=HHk.out.szd.2.2;omega) (by have:=HSto.out;omega) (by have:=HNow.out;omega));rw [hfr] at HF HFr;clear hfr;have HK35:=hid (fun (Y:World) (hY:Below W5.heap.size W5 Y)=>(show Y.cell? ⟨w2.heap.size,3,none⟩=some (.slice ha hn' hc)∧Y.cell? ⟨w2.heap.size,5,none⟩=some (.int .i64 s2) from ⟨by rw [Lib.cell_of_heap (HBY.out Y hY)];rfl,by rw [Lib.cell_of_heap (HBY.out Y hY)];rfl⟩))
    cases fr with
    | true=>
      have HFv:=hid (show findV Lib.itoa C u.data.toList A now=⟨2,⟨s1,setH L0 tAge (Lib.itoa ag),l0⟩,[]⟩ by rw [HF.out];rfl);clear HF
      go_wp2_with fail
      refine HPs.out.mono ?_;rintro e w12 ⟨rfl,hb12⟩
      have HB12:=hid (show Below W5.heap.size W5 w12 from below2_Efc HB11.out hb12);have HB1112:=hid hb12;clear hb12;obtain ⟨j3,j5⟩:=HK35.out w12 HB12.out
      go_wp2_with fail
      refine (HFr.out _ HB12.out).mono ?_;rintro e w13 ⟨rfl,hb13⟩
      have HBl:=hid (show Below W5.heap.size W5 w13 from below2_Efc HB12.out hb13);have HB1113:=hid (below2_Efc HB1112.out hb13);have HQl:=hid ((HB1113.out.block _ (Array.getElem?_eq_some_iff.1 HQ11.out).1).trans HQ11.out);have HOl:=hid (own_same HO11.out HB1113.out);have HPl:=hid (own_same HP11.out HB1113.out);have HAl:=hid (World.ownsRow_nil w13 W5.heap.size 45 2);clear hb13 j3 j5;have HXl:=hid ((HBl.out.block _ (Array.getElem?_eq_some_iff.1 HXF5.out).1).trans HXF5.out)
      have HTl5:=hid (show w13.there w.heap.size 0 5 from fun t ht=>⟨by rw [Nat.zero_add,Lib.cell_of_heap HXl.out];simp;omega,Lib.frozen_of_heap HXl.out _⟩);have HRl:=hid (range_row_Cb (cs:=[.int .i64 2,.int .i64 s1,.slice a10 m10 c10,.slice b6 bn d6,.slice none 0 0]) HQl.out);have HOne:=hid (all_oneCell_toArray (cs:=[.int .i64 2,.int .i64 s1,.slice a10 m10 c10,.slice b6 bn d6,.slice none 0 0]) (by intro v hv;simp at hv;rcases hv with rfl | rfl | rfl | rfl | rfl<;>rfl))
      obtain ⟨WE,hWE⟩: ∃ X,X=w13.setCells w.heap.size 0 [.int .i64 2,.int .i64 s1,.slice a10 m10 c10,.slice b6 bn d6,.slice none 0 0]:=⟨_,rfl⟩
      have HWE:=hid hWE;have HFin:=hid (show WE.rangeAt w.heap.size 0 [.int .i64 2,.int .i64 s1,.slice a10 m10 c10,.slice b6 bn d6,.slice none 0 0]∧CaI G WE p W5.heap.size (useV C u.data.toList A)∧TqC p w WE∧WE.ownsRow W5.heap.size 45 2 (.slice a10 m10 c10) m10 (cellsH (setH L0 tAge (Lib.itoa ag)))∧WE.ownsRow W5.heap.size 5 1 (.slice b6 bn d6) bn (cellsB l0)∧WE.ownsRow W5.heap.size 45 2 (.slice none 0 0) ([]:List Hd).length (cellsH ([]:List Hd)) from by
       have ht:=tqF_sets HXl.out [.int .i64 2,.int .i64 s1,.slice a10 m10 c10,.slice b6 bn d6,.slice none 0 0];rw [hWE];exact ⟨World.rangeAt_setCells_same _ _ _ _ HTl5.out,(HA5.out.1.kept HBl.out).tqF ht (by have:=HPM.out;omega) (by decide) (by decide) (by decide) (by decide) (by decide),tqC_new (HTq2.out.trans (HTY.out w13 HBl.out)) (Nat.le_refl _) (by have:=HPM.out;omega) _,ht.own HOl.out (by decide) (by decide),ht.own HPl.out (by decide) (by decide),ht.own HAl.out (by decide) (by decide)⟩)
      clear hWE
      go_wp2_with (first | (refine wpList_load_mid rfl 38 (.tmp 11) rfl w6.heap.size 0 rfl [.int .i64 2,.int .i64 s1,.slice a10 m10 c10,.slice b6 bn d6,.slice none 0 0] _ HRl.out Tryz.underlying38 rfl sizeFd ?_) | (refine wpList_store_mid rfl 38 (.tmp 8) (.tmp 71) rfl w.heap.size 0 #[.int .i64 2,.int .i64 s1,.slice a10 m10 c10,.slice b6 bn d6,.slice none 0 0] rfl rfl HTl5.out sizeFd HOne.out ?_;refine wpList_world17 HWE.out ?_))
      refine bodyPost_ret (results_fd rfl _ _ w.heap.size [.int .i64 2,.int .i64 s1,.slice a10 m10 c10,.slice b6 bn d6,.slice none 0 0] rfl rfl HFin.out.1) rfl ?_;unfold FindP;rw [HFv.out];dsimp only;rw [← HM10.out,← HBn.out];exact ⟨_,_,_,W5.heap.size,rfl,HFin.out.2.1,HFin.out.2.2.2.1,HFin.out.2.2.2.2.1,HFin.out.2.2.2.2.2,HFin.out.2.2.1,(HTq2.out.trans HA5.out.2).1.size⟩
    | false=>
      have HFv:=hid (show findV Lib.itoa C u.data.toList A now=⟨1,⟨s1,setH L0 tAge (Lib.itoa ag),l0⟩,condV L0⟩ by rw [HF.out];rfl);clear HF
      go_wp2_with fail
      refine HPs.out.mono ?_;rintro e w12 ⟨rfl,hb12⟩
      have HB12:=hid (show Below W5.heap.size W5 w12 from below2_Efc HB11.out hb12);have HB1112:=hid hb12;clear hb12;obtain ⟨j3,j5⟩:=HK35.out w12 HB12.out
      go_wp2_with fail
      refine (HFr.out _ HB12.out).mono ?_;rintro e w13 ⟨rfl,hb13⟩
      have HBw:=hid (show Below W5.heap.size W5 w13 from below2_Efc HB12.out hb13);have HBw11:=hid (below2_Efc HB1112.out hb13);clear hb13 j3 j5;have HCn:=hid (fun (Y:World) (hY:Below W5.heap.size W5 Y)=>conditions_any (.slice ha hn' hc) L0 Y (HHdY.out Y hY) HHk.out.szo);have k3:w13.cell? ⟨w2.heap.size,3,none⟩=some (.slice ha hn' hc):=by rw [Lib.cell_of_heap (HBY.out w13 HBw.out)];rfl
      go_wp2_with fail
      refine (HCn.out _ HBw.out).mono ?_;rintro e w14 ⟨u14,rfl,ho14,hb14⟩
      obtain ⟨a14,c14,rfl⟩:=own_sl16 ho14
      obtain ⟨m14,hm14⟩: ∃ x,x=(condV L0).length:=⟨_,rfl⟩
      rw [← hm14] at ho14 ⊢;have HB14:=hid (below2_Efc HBw.out hb14);have HB11e:=hid (below2_Efc HBw11.out hb14);have hq14:w14.heap[w6.heap.size]? = some (.cells #[.int .i64 2,.int .i64 s1,.slice a10 m10 c10,.slice b6 bn d6,.slice none 0 0] 38 (0,0)):=(HB11e.out.block _ (Array.getElem?_eq_some_iff.1 HQ11.out).1).trans HQ11.out;have hq15:(w14.setCell ⟨w6.heap.size,0,none⟩ (.int .i64 1)).heap[w6.heap.size]? = some (.cells #[.int .i64 1,.int .i64 s1,.slice a10 m10 c10,.slice b6 bn d6,.slice none 0 0] 38 (0,0)):=Lib.heap_setCell_same hq14 (i:=0) _
      have g0:w14.cell? ⟨w6.heap.size,0,none⟩=some (.int .i64 2):=by rw [Lib.cell_of_heap hq14];rfl
      have y0:w14.frozen? ⟨w6.heap.size,0,none⟩=false:=Lib.frozen_of_heap hq14 0
      have g4':(w14.setCell ⟨w6.heap.size,0,none⟩ (.int .i64 1)).cell? ⟨w6.heap.size,4,none⟩=some (.slice none 0 0):=by rw [Lib.cell_of_heap hq15];rfl
      have y4:(w14.setCell ⟨w6.heap.size,0,none⟩ (.int .i64 1)).frozen? ⟨w6.heap.size,4,none⟩=false:=Lib.frozen_of_heap hq15 4
      obtain ⟨W16,hW16⟩: ∃ X,(w14.setCell ⟨w6.heap.size,0,none⟩ (.int .i64 1)).setCell ⟨w6.heap.size,4,none⟩ (.slice a14 m14 c14)=X:=⟨_,rfl⟩
      have ht16:Tq 38 38 w6.heap.size w14 W16:=by rw [← hW16];exact (tqF_set1 hq14 0 _).trans (tqF_set1 hq15 4 _)
      have HBl:=hid (show Below W5.heap.size W5 W16 from HB14.out.trans (ht16.1.mono HB6.out.size));have HQl:=hid (show W16.heap[w6.heap.size]? = some (.cells #[.int .i64 1,.int .i64 s1,.slice a10 m10 c10,.slice b6 bn d6,.slice a14 m14 c14] 38 (0,0)) by rw [← hW16];exact Lib.heap_setCell_same hq15 (i:=4) _);have HOl:=hid (ht16.own (own_same HO11.out HB11e.out) (by decide) (by decide));have HPl:=hid (ht16.own (own_same HP11.out HB11e.out) (by decide) (by decide))
      have HAl:=hid (show W16.ownsRow W5.heap.size 45 2 (.slice a14 m14 c14) (condV L0).length (cellsH (condV L0)) from by rw [← hm14];exact ht16.own (own_low17 ho14 HBw.out.size) (by decide) (by decide));have HM14:=hid hm14;clear ho14 hb14 hm14 hq14 hq15 ht16;have HXl:=hid ((HBl.out.block _ (Array.getElem?_eq_some_iff.1 HXF5.out).1).trans HXF5.out);have HTl5:=hid (show W16.there w.heap.size 0 5 from fun t ht=>⟨by rw [Nat.zero_add,Lib.cell_of_heap HXl.out];simp;omega,Lib.frozen_of_heap HXl.out _⟩)
      have HRl:=hid (range_row_Cb (cs:=[.int .i64 1,.int .i64 s1,.slice a10 m10 c10,.slice b6 bn d6,.slice a14 m14 c14]) HQl.out);have HOne:=hid (all_oneCell_toArray (cs:=[.int .i64 1,.int .i64 s1,.slice a10 m10 c10,.slice b6 bn d6,.slice a14 m14 c14]) (by intro v hv;simp at hv;rcases hv with rfl | rfl | rfl | rfl | rfl<;>rfl));obtain ⟨WE,hWE⟩: ∃ X,X=W16.setCells w.heap.size 0 [.int .i64 1,.int .i64 s1,.slice a10 m10 c10,.slice b6 bn d6,.slice a14 m14 c14]:=⟨_,rfl⟩
      have HWE:=hid hWE;have HFin:=hid (show WE.rangeAt w.heap.size 0 [.int .i64 1,.int .i64 s1,.slice a10 m10 c10,.slice b6 bn d6,.slice a14 m14 c14]∧CaI G WE p W5.heap.size (useV C u.data.toList A)∧TqC p w WE∧WE.ownsRow W5.heap.size 45 2 (.slice a10 m10 c10) m10 (cellsH (setH L0 tAge (Lib.itoa ag)))∧WE.ownsRow W5.heap.size 5 1 (.slice b6 bn d6) bn (cellsB l0)∧WE.ownsRow W5.heap.size 45 2 (.slice a14 m14 c14) (condV L0).length (cellsH (condV L0)) from by
       have ht:=tqF_sets HXl.out [.int .i64 1,.int .i64 s1,.slice a10 m10 c10,.slice b6 bn d6,.slice a14 m14 c14];rw [hWE];exact ⟨World.rangeAt_setCells_same _ _ _ _ HTl5.out,(HA5.out.1.kept HBl.out).tqF ht (by have:=HPM.out;omega) (by decide) (by decide) (by decide) (by decide) (by decide),tqC_new (HTq2.out.trans (HTY.out W16 HBl.out)) (Nat.le_refl _) (by have:=HPM.out;omega) _,ht.own HOl.out (by decide) (by decide),ht.own HPl.out (by decide) (by decide),ht.own HAl.out (by decide) (by decide)⟩)
      clear hWE
      go_wp2_with (first | (refine wpList_load_mid rfl 38 (.tmp 11) rfl w6.heap.size 0 rfl [.int .i64 1,.int .i64 s1,.slice a10 m10 c10,.slice b6 bn d6,.slice a14 m14 c14] _ HRl.out Tryz.underlying38 rfl sizeFd ?_) | (refine wpList_store_mid rfl 38 (.tmp 8) (.tmp 71) rfl w.heap.size 0 #[.int .i64 1,.int .i64 s1,.slice a10 m10 c10,.slice b6 bn d6,.slice a14 m14 c14] rfl rfl HTl5.out sizeFd HOne.out ?_;refine wpList_world17 HWE.out ?_))
      refine bodyPost_ret (results_fd rfl _ _ w.heap.size [.int .i64 1,.int .i64 s1,.slice a10 m10 c10,.slice b6 bn d6,.slice a14 m14 c14] rfl rfl HFin.out.1) rfl ?_;unfold FindP;rw [HFv.out];dsimp only;rw [← HM10.out,← HBn.out];exact ⟨_,_,_,W5.heap.size,rfl,HFin.out.2.1,HFin.out.2.2.2.1,HFin.out.2.2.2.2.1,HFin.out.2.2.2.2.2,HFin.out.2.2.1,(HTq2.out.trans HA5.out.2).1.size⟩

end Go.Proofs.YtpopljcmkbchcaaGreatDoor
