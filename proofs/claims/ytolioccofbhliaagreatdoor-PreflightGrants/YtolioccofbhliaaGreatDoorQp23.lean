/-
  Walks and plain facts that this claim leans on, put together out of 3 texts: Ejk, Ysl, Ysb.
-/
import Derived.Test.YtolioccofbhliaaGreatDoorProg
import Derived.Test.YtolioccofbhliaaGreatDoorQp1
import Derived.Test.YtolioccofbhliaaGreatDoorQp2
import Derived.Test.YtolioccofbhliaaGreatDoorQp3
import Derived.Test.YtolioccofbhliaaGreatDoorQp4
import Derived.Test.YtolioccofbhliaaGreatDoorQp8
import Derived.Test.YtolioccofbhliaaGreatDoorQp11
import Derived.Test.YtolioccofbhliaaGreatDoorQp13
import Derived.Test.YtolioccofbhliaaGreatDoorQp14
import Derived.Test.YtolioccofbhliaaGreatDoorQp16
import Derived.Test.YtolioccofbhliaaGreatDoorQp17
import Derived.Test.YtolioccofbhliaaGreatDoorQp18
import Derived.Test.YtolioccofbhliaaGreatDoorQp19
import Derived.Test.YtolioccofbhliaaGreatDoorQp20
import Derived.Test.YtolioccofbhliaaGreatDoorQp21
import Derived.Test.YtolioccofbhliaaGreatDoorQp22
import Derived.BigRegion
import Derived.Deep.RegionHeld
import Derived.Deep.RegionHeldLaw
import Derived.Lib.IndexAny
import Derived.WalkKit
import Derived.Lib.UnsafeStr
import Derived.Lib.BufferRead
import Derived.Lib.RuneBytes
import Derived.Laws.RangeAny
import Derived.Deep.LoopGhost
import Derived.Maps.OwnSet
import Derived.Maps.OwnOps
import Derived.Maps.AppendAt
import Derived.StringKeys
import Derived.BigQuiet
import Derived.Deep.QuietTactic
import Derived.LoopN
import Derived.RegionTactic
import Derived.Deep.RegionLaw
import Derived.Deep.RegionWith
import Derived.WalkSpells
import Derived.WalkLawsBesides
import Derived.Lib.FieldsP
import Derived.Lib.DecodeN
import Derived.Lib.IndexMore
import Derived.Lib.Join
import Derived.Lib.SmallJoins
import Derived.Laws.CopyOwn
import Derived.Laws.ResultCell
import Derived.Deep.MidRow
import Derived.Laws.OwnMore
import Derived.Below
import Derived.WalkSmall
import Derived.Lib.LaidTab
import Derived.Lib.AppendIntMem
import Derived.Laws.AppendOwn
import Derived.Laws.Runes
import Derived.Lib.OthersKept
import Derived.Lib.FrozenHead2
import Derived.Lib.Builder
import Derived.Lib.AppendStr
import Derived.Lib.Replace
import Derived.Shelf.GgClosure.GivesRunes
import Derived.Laws.BitsAll
import Derived.Laws.Shifts
import Derived.Deep.DeepAppendRoom
import Derived.Laws.IdiomStrings
import Derived.Laws.BytesString
import Derived.Laws.CopyRow
import Derived.Sort.OwnSorted
import Derived.Lib.SlicesCompact
import Derived.Shelf.Slices.In.SortNone
import Derived.Shelf.Slices.CompactS
import Derived.Lib.SliceRun
import Derived.Sort.KeysCollected
import Derived.Lib.Case
import Derived.Deep.Cut
import Derived.Lib.LastIndexByte
import Derived.Lib.Strings
import Derived.Laws.BitsAllLaws
import Derived.Lib.Bytealg
import Derived.Lib.BufferMore
import Derived.OwnWalk
import Derived.Shelf.Strings.Builder1
import Derived.Shelf.Strings.Builder2
import Derived.Shelf.Strings.OnBuilder
import Derived.Shelf.Strings.Trim
import Derived.Shelf.Small.Utf8
import Derived.Shelf.Small.Bits
import Derived.Shelf.Small.Strs
import Derived.Shelf.Small.Wraps
import Derived.Shelf.Strings.BuilderF
import Derived.Shelf.Strings.BuilderK
import Derived.Shelf.Strings.Builder2Cap
import Derived.Shelf.Strconv.Itoa0
import Derived.Shelf.Strconv.Itoa1
import Derived.Shelf.LaysM
import Derived.Shelf.Strconv.Itoa2
import Derived.Shelf.Strconv.Itoa3
import Derived.Shelf.Strings.Search1
import Derived.Shelf.Strings.Search2
import Derived.Shelf.Strings.Cut
import Derived.Shelf.Strings.Shaped
import Derived.Shelf.Sort.Plain
import Derived.Shelf.Strings.Prefix
import Derived.Shelf.Strings.Runes
import Derived.Shelf.Strings.IndexAny
import Derived.Shelf.Strings.AsciiSet
import Derived.Shelf.Strings.IndexAnyAll
import Derived.Shelf.Unicode.DecodeSlow
import Derived.Shelf.Unicode.DecodeAny
import Derived.Shelf.Unicode.DecodeLast
import Derived.Ground.SlgnProg
import Derived.Shelf.SlicesE.Compact
import Derived.Ground.SlgfProg
import Derived.Shelf.SlicesE.IndexFunc
import Derived.Shelf.SlicesE.DeleteFunc
import Derived.Laws.AppendOwnNone
import Derived.Scope
import Derived.ScopeJumps
import Derived.WalkMore
import Derived.Lib.TrimByte
import Derived.Lib.ItoaNum
import Derived.Deep.WholeRow
import Derived.Lib.SlTrimSet
import Derived.Shelf.Strings.SlTrimAscii
import Derived.Deep.CutRange
import Derived.Laws.Rows
import Derived.Laws.MakeOwn
import Derived.Shelf.Spec.SearchS
import Derived.Sort.Walk0
set_option linter.unusedSimpArgs false
set_option linter.unusedVariables false

namespace Go.Proofs.YtolioccofbhliaaGreatDoor
open Go.RowKit

def TxT (w:World) (v:Value) (L:List (List UInt8)):Prop:=TxAt w v L ∧ ∀ g,v.ownBlock=some g → ∃ cur fz,w.heap[g]? = some (Obj.cells cur 9 fz)

theorem TxAt.same19 {w w':World} {v:Value} {L:List (List UInt8)} (h:TxAt w v L) (hk: ∀ g,v.ownBlock=some g→w'.heap[g]? = w.heap[g]?):TxAt w' v L:=by
 obtain ⟨a,cap,rfl,h2,h3,h4⟩:=h
 refine ⟨a,cap,rfl,h2,h3,fun j hj=> ?_⟩
 obtain ⟨b,off,e,c1⟩:=h4 j hj
 have hb:=hk b (by rw [e];rfl)
 exact ⟨b,off,e,(World.cell?_of_block (a:=⟨b,off+j,none⟩) hb).trans c1⟩

theorem own_txT {w:World} {B:Nat} {v:Value} {L:List (List UInt8)} (h:w.ownsRow B 9 1 v L.length (cellsT L)):TxT w v L:=
 ⟨own_txt' h,fun g hg=>by
   obtain ⟨cur,hc⟩:=ownsRow_kind h g hg
   exact ⟨cur,_,hc⟩⟩

theorem TxT.tq {p:Nat} {w w':World} {v:Value} {L:List (List UInt8)} (h:TxT w v L) (hq:TqP p w w'):TxT w' v L:=by
 have hk: ∀ g,v.ownBlock=some g→w'.heap[g]? = w.heap[g]? :=fun g hg=>by
  obtain ⟨cur,fz,hc⟩:=h.2 g hg
  exact hq.2 g _ _ _ hc (by decide) (by decide)
 exact ⟨h.1.same19 hk,fun g hg=>by rw [hk g hg];exact h.2 g hg⟩

theorem TxT.kept {w w':World} {v:Value} {L:List (List UInt8)} (h:TxT w v L) (hb:Below w.heap.size w w'):TxT w' v L:=by
 have hk: ∀ g,v.ownBlock=some g→w'.heap[g]? = w.heap[g]? :=fun g hg=>by
  obtain ⟨cur,fz,hc⟩:=h.2 g hg
  exact hb.block g (Array.getElem?_eq_some_iff.1 hc).1
 exact ⟨h.1.same19 hk,fun g hg=>by rw [hk g hg];exact h.2 g hg⟩

theorem txT_nil (w:World):TxT w (.slice none 0 0) []:=⟨tx_nil _,fun g hg=>by cases hg⟩

theorem tq_kept {p:Nat} {w w':World} {k:Nat} {cur:Array Value} {S:TypeId} {fz:Nat×Nat} (hq:TqP p w w') (hk:w.heap[k]? = some (.cells cur S fz)) (h1:S≠154) (h2:S≠145):w'.heap[k]? = some (.cells cur S fz):=(hq.2 _ _ _ _ hk h1 h2).trans hk

theorem enters_al1: ∀ args w,(callFunc 92 args).run Tryz.prog w = .ok (.enter 92 args) w:=enters_of Tryz.func92 (by kernel_rfl) rfl

theorem enters_al2: ∀ args w,(callFunc 94 args).run Tryz.prog w = .ok (.enter 94 args) w:=enters_of Tryz.func94 (by kernel_rfl) rfl

set_option maxHeartbeats 4000000 in
theorem allows19_any (p:Nat) (T:List RwP) (S U m:ByteArray) (c:Bool) (v:Value) (Q:List (List UInt8)) (now:Int) (w:World) (hI:TbI w p T) (hl:T.length≤1000) (hm:m.size≤140737488351232) (hv:TxAt w v Q) (hql:Q.length≤9223372036854775807) (hs: ∀ x ∈ Q,x.length≤140737488351232):
 Calls Tryz.prog 36 #[.pointer (some ⟨p,0,none⟩),.string S,.string U,.bool c,.string m,v,.int .i64 now] w fun e w'=>e = .returned (.bool (alwT S.data.toList U.data.toList c m.data.toList Q now T))∧Below w.heap.size w w':=by
 obtain ⟨W1,hW1⟩: ∃ Y,w.alloc (.cells #[.pointer (some ⟨p,0,none⟩)] 64)=Y:=⟨_,rfl⟩
 obtain ⟨W2,hW2⟩: ∃ Y,W1.alloc (.cells #[.int .i64 now] 2)=Y:=⟨_,rfl⟩
 obtain ⟨W3,hW3⟩: ∃ Y,W2.alloc (.cells #[.string S,.string U,.bool c] 147)=Y:=⟨_,rfl⟩
 have hb1:Below w.heap.size w W1:=by rw [← hW1];exact (Below.refl _ w).alloc (Nat.le_refl _) _
 have hb12:Below W1.heap.size W1 W2:=by rw [← hW2];exact (Below.refl _ W1).alloc (Nat.le_refl _) _
 have hb23:Below W2.heap.size W2 W3:=by rw [← hW3];exact (Below.refl _ W2).alloc (Nat.le_refl _) _
 have hx1:W1.heap[w.heap.size]? = some (.cells #[.pointer (some ⟨p,0,none⟩)] 64 (0,0)):=by rw [← hW1];exact heap_alloc_new w _
 have hx2:W2.heap[W1.heap.size]? = some (.cells #[.int .i64 now] 2 (0,0)):=by rw [← hW2];exact heap_alloc_new W1 _
 have hx3:W3.heap[W2.heap.size]? = some (.cells #[.string S,.string U,.bool c] 147 (0,0)):=by rw [← hW3];exact heap_alloc_new W2 _
 have hy1:=(hb12.block _ (Array.getElem?_eq_some_iff.1 hx1).1).trans hx1;have hz1:=(hb23.block _ (Array.getElem?_eq_some_iff.1 hy1).1).trans hy1;have hz2:=(hb23.block _ (Array.getElem?_eq_some_iff.1 hx2).1).trans hx2;have hb3:=below2_Efc (below2_Efc hb1 hb12) hb23;have hI3:=hI.kept hb3;have s1:SayAt W3 92 #[.pointer (some ⟨w.heap.size,0,none⟩),.pointer (some ⟨W2.heap.size,0,none⟩),.pointer (some ⟨W1.heap.size,0,none⟩)] (fun x=>holT (metR S.data.toList U.data.toList c x) now T):=fun Y X hY hX=>
  allowsc1_any w.heap.size W2.heap.size W1.heap.size p S U X c T now Y (hI3.kept hY) hl ((hY.block _ (Array.getElem?_eq_some_iff.1 hz1).1).trans hz1) ((hY.block _ (Array.getElem?_eq_some_iff.1 hx3).1).trans hx3) ((hY.block _ (Array.getElem?_eq_some_iff.1 hz2).1).trans hz2)
 have s2:SayAt W3 94 #[.pointer (some ⟨w.heap.size,0,none⟩),.pointer (some ⟨W2.heap.size,0,none⟩),.pointer (some ⟨W1.heap.size,0,none⟩)] (fun x=>holT (namR S.data.toList U.data.toList c x) now T):=fun Y X hY hX=>
  allowsc2_any w.heap.size W2.heap.size W1.heap.size p S U X c T now Y (hI3.kept hY) hl ((hY.block _ (Array.getElem?_eq_some_iff.1 hz1).1).trans hz1) ((hY.block _ (Array.getElem?_eq_some_iff.1 hx3).1).trans hx3) ((hY.block _ (Array.getElem?_eq_some_iff.1 hz2).1).trans hz2) hX
 have HA:=hid (allowed19_any _ _ _ _ enters_al1 enters_al2 _ _ c m v Q W3 s1 s2 hm (hv.kept hb3) hql hs);rw [show okV c m.data.toList Q (fun x=>holT (metR S.data.toList U.data.toList c x) now T) (fun x=>holT (namR S.data.toList U.data.toList c x) now T)=alwT S.data.toList U.data.toList c m.data.toList Q now T from rfl] at HA;generalize alwT S.data.toList U.data.toList c m.data.toList Q now T=R at HA ⊢;obtain ⟨qa,qc,rfl,_,_,_⟩:=hv.view
 have HB:=hid hb3;obtain ⟨n,hn⟩: ∃ n,n=Q.length:=⟨_,rfl⟩
 rw [← hn] at HA ⊢;clear hn s1 s2 hI3 hb1 hb12 hb23 hb3 hx1 hx2 hx3 hy1 hz1 hz2 hI hl hm hv hql hs
 go_enter Tryz.func36,Tryz.ntmps36
 go_wp2_with fail
 refine HA.out.mono ?_;rintro e w4 ⟨rfl,hb4⟩
 have HB4:=hid (below2_Efc HB.out hb4);clear hb4
 go_wp2_with fail
 go_ret
 exact ⟨rfl,HB4.out⟩

theorem enters_drc: ∀ args w,(callFunc 97 args).run Tryz.prog w = .ok (.enter 97 args) w:=enters_of Tryz.func97 (by kernel_rfl) rfl

theorem dropT_def (s u:List UInt8) (T:List RwP):(T.filter fun z=> !(fun r:RwP=>decide (r.what.self=s)&&decide (r.what.url=u)) z)=drpT s u T:=rfl

set_option maxHeartbeats 4000000 in
theorem drop19_any (p:Nat) (T:List RwP) (S U:ByteArray) (w:World) (hI:TbI w p T) (hl:T.length≤1000):
 Calls Tryz.prog 44 #[.pointer (some ⟨p,0,none⟩),.string S,.string U] w fun e w'=>e = .returned (.tuple #[])∧TbI w' p (drpT S.data.toList U.data.toList T)∧TqP p w w':=by
 obtain ⟨W0,hW0⟩: ∃ Y,w.alloc (.cells #[.string S,.string U,.bool true] 147)=Y:=⟨_,rfl⟩
 obtain ⟨W1,hW1⟩: ∃ Y,W0.alloc (.cells #[.string S,.string U,.bool false] 147)=Y:=⟨_,rfl⟩
 have hb0:Below w.heap.size w W0:=by rw [← hW0];exact (Below.refl _ w).alloc (Nat.le_refl _) _
 have hb01:Below W0.heap.size W0 W1:=by rw [← hW1];exact (Below.refl _ W0).alloc (Nat.le_refl _) _
 have hb:=below2_Efc hb0 hb01;have f0:W0.heap[w.heap.size]? = some (.cells #[.string S,.string U,.bool true] 147 (0,0)):=by rw [← hW0];exact heap_alloc_new w _
 have f1:=(hb01.block _ (Array.getElem?_eq_some_iff.1 f0).1).trans f0;have hq1':W0.heap.size=w.heap.size+1:=by rw [← hW0];simp
 obtain ⟨q1,hq1⟩: ∃ q,q=w.heap.size+1:=⟨_,rfl⟩
 have f2:W1.heap[q1]? = some (.cells #[.string S,.string U,.bool false] 147 (0,0)):=by rw [hq1,← hq1',← hW1];exact heap_alloc_new W0 _
 obtain ⟨a0,c0,hrow0,hown0⟩:=hI
 have hp0:=(Array.getElem?_eq_some_iff.1 hrow0).1;have hrow1:=(hb.block p hp0).trans hrow0;have hown1:=own_same hown0 hb;have hnp:some p≠(Value.slice a0 T.length c0).ownBlock:=fun e=>by have:=(hown0.lt _ e.symm).1;omega
 have hn1:some w.heap.size≠(Value.slice a0 T.length c0).ownBlock:=fun e=>by have:=(hown0.lt _ e.symm).2;omega
 have hn2:some q1≠(Value.slice a0 T.length c0).ownBlock:=fun e=>by have:=(hown0.lt _ e.symm).2;omega
 have HD:=hid (deleteF19_any 97 #[.pointer (some ⟨w.heap.size,0,none⟩),.pointer (some ⟨q1,0,none⟩)] enters_drc (fun r=>decide (r.what.self=S.data.toList)&&decide (r.what.url=U.data.toList)) (.slice a0 T.length c0) T W1 (p+1) hown1 (by omega) (fun X z _ hX=>dropc19_any w.heap.size q1 S U z X ((hX.block _ (Array.getElem?_eq_some_iff.1 f1).1 hn1).trans f1) ((hX.block _ (Array.getElem?_eq_some_iff.1 f2).1 hn2).trans f2)));rw [dropT_def] at HD;obtain ⟨Z,hZ⟩: ∃ Z,Z=drpT S.data.toList U.data.toList T:=⟨_,rfl⟩
 rw [← hZ] at HD ⊢;obtain ⟨n,hn⟩: ∃ n,n=Z.length:=⟨_,rfl⟩
 rw [← hn] at HD;have HN:=hid hn;obtain ⟨n0,hn0⟩: ∃ n,n=T.length:=⟨_,rfl⟩
 rw [← hn0] at HD hrow1 hown1 hnp;have d0:W1.cell? ⟨p,0,none⟩=some (.slice a0 n0 c0):=by rw [Lib.cell_of_heap hrow1];rfl
 have HA1:=hid (show TqP p w W1 from Tq.below hb (by omega));have HR1:=hid (And.intro hrow1 (And.intro hown1 hnp));have HPs:=hid (show p<W1.heap.size by have:=hb.size;omega);rw [hq1] at HD;have HW:=hid (show (w.alloc (.cells #[.string S,.string U,.bool true] 147)).alloc (.cells #[.string S,.string U,.bool false] 147)=W1 by rw [hW0,hW1]);rw [← HW.out] at d0;clear hW0 hW1;clear hb hb0 hb01 f0 f1 f2 hrow1 hown1 hnp hn1 hn2 hrow0 hown0 hp0 hZ hn hn0 hl hq1' hq1
 go_enter Tryz.func44,Tryz.ntmps44
 go_wp2_with fail
 rw [HW.out];refine HD.out.mono ?_;rintro e w2 ⟨a,c,rfl,hown2,hg2,hsame2⟩
 have hrow2:=(hg2.block p HPs.out HR1.out.2.2).trans HR1.out.1;have hq2:TqP p w w2:=HA1.out.trans (tqp_grown HR1.out.2.1 hg2 (by have:=HPs.out;omega));obtain ⟨hI3,hq3⟩:=TbI.store hrow2 hown2 HN.out
 have e0:w2.cell? ⟨p,0,none⟩=some (.slice a0 n0 c0):=by rw [Lib.cell_of_heap hrow2];rfl
 have e1:w2.frozen? ⟨p,0,none⟩=false:=Lib.frozen_of_heap hrow2 0
 have HI3:=hid hI3;have HQ3:=hid (hq2.trans hq3);clear hI3 hq3 hrow2 hq2 hown2 hg2 hsame2 HD HR1
 go_wp2
 go_end0
 exact ⟨rfl,HI3.out,HQ3.out⟩

set_option maxHeartbeats 16000000 in
set_option maxRecDepth 100000 in
theorem put_any19 (p:Nat) (T:List RwP) (S U:ByteArray) (c:Bool) (vM vN:Value) (M N:List (List UInt8)) (all:Bool) (age now:Int) (w:World) (hI:TbI w p T) (hl:T.length≤32) (hM:TxT w vM M) (hN:TxT w vN N) (hml:M.length≤1000000) (hnl:N.length≤1000000) (hns: ∀ x ∈ N,x.length≤140737488351232) (h1:0≤now∧now≤4611686018427387904) (h2:0≤age∧age≤4611686018427387903):
 Calls Tryz.prog 34 #[.pointer (some ⟨p,0,none⟩),.string S,.string U,.bool c,.agg #[vM,vN,.bool all,.int .i64 age],.int .i64 now] w fun e w'=>e = .returned (.tuple #[])∧TbI w' p (putsT age now (rtsV S.data.toList U.data.toList c M N all) T)∧TqP p w w':=by
 obtain ⟨ma,mc,rfl,_,_,_⟩:=hM.1.view
 obtain ⟨na,nc,rfl,_,_,_⟩:=hN.1.view
 have HLM0:=hid hM;have HLN0:=hid hN;obtain ⟨nM,hnM⟩: ∃ n,n=M.length:=⟨_,rfl⟩
 obtain ⟨nN,hnN⟩: ∃ n,n=N.length:=⟨_,rfl⟩
 rw [← hnM,← hnN];obtain ⟨W1,hW1⟩: ∃ Y,w.alloc (.cells #[.slice ma nM mc,.slice na nN nc,.bool all,.int .i64 age] 60)=Y:=⟨_,rfl⟩
 obtain ⟨WB,hWB⟩: ∃ Y,W1.alloc (.cells #[.string S,.string U,.bool c] 147)=Y:=⟨_,rfl⟩
 have hb1:Below w.heap.size w W1:=by rw [← hW1];exact (Below.refl _ w).alloc (Nat.le_refl _) _
 have hb12:Below W1.heap.size W1 WB:=by rw [← hWB];exact (Below.refl _ W1).alloc (Nat.le_refl _) _
 have hx1:W1.heap[w.heap.size]? = some (.cells #[.slice ma nM mc,.slice na nN nc,.bool all,.int .i64 age] 60 (0,0)):=by rw [← hW1];exact heap_alloc_new w _
 have hxp:WB.heap[W1.heap.size]? = some (.cells #[.string S,.string U,.bool c] 147 (0,0)):=by rw [← hWB];exact heap_alloc_new W1 _
 have hxg:=(hb12.block _ (Array.getElem?_eq_some_iff.1 hx1).1).trans hx1;have hb2:=below2_Efc hb1 hb12;have HTM:=hid (show TxT WB (.slice ma nM mc) M by rw [hnM];exact hM.kept hb2);have HTN:=hid (show TxT WB (.slice na nN nc) N by rw [hnN];exact hN.kept hb2);have HGb:=hid hxg;have HPb:=hid hxp;have HI0M:=hid (show TbI WB p (putsT age now [] T) from hI.kept hb2);have HQ0M:=hid (show TqP p WB WB from Tq.refl);have HQW:=hid (show TqP p w WB from Tq.below hb2 (Nat.le_of_lt hI.lt));have HLM:=hid hnM;have HLN:=hid hnN;have HNs:=hid hns;have HTl:=hid hl;have HNw:=hid h1;have HAg:=hid h2
 have g0:WB.cell? ⟨w.heap.size,0,none⟩=some (.slice ma nM mc):=by rw [Lib.cell_of_heap hxg];rfl
 have hnM2:nM≤1000000:=by omega
 have hnN2:nN≤1000000:=by omega
 clear hI hl hM hN hml hnl hns h1 h2 hnM hnN hb1 hb12 hb2 hx1 hxp hxg HLM0 HLN0
 go_enter Tryz.func34,Tryz.ntmps34
 go_wp2_with fail
 go_loopw [14,24] (fun _ vi wr=> ∃ k:Nat,k≤nM∧vi = .int .i64 k∧Hid (TbI wr p (putsT age now (((M.take k).map (metR S.data.toList U.data.toList c))) T)∧TqP p WB wr)) (fun _ vi _=>nM - (intOf vi).toNat)
 case atStart=>exact ⟨0,Nat.zero_le _,rfl,by simpa using HI0M.out,HQ0M.out⟩
 case round=>
  obtain ⟨k,hk,rfl,HR⟩:=hrel
  by_cases hlt:k<nM
  ·have hkM:k<M.length:=by have:=HLM.out;omega
   have hin:(k:Int)<(nM:Int):=by omega
   obtain ⟨wr,rfl⟩: ∃ W,W=wr:=⟨_,rfl⟩
   have htx:=HTM.out.tq HR.out.2;obtain ⟨ma',mc',e1,_,_,hcell⟩:=htx.1.view
   injection e1 with e1 e2 e3
   clear e2 e3;obtain ⟨b1,o1,e4,hc⟩:=hcell k hkM
   rw [e4] at e1
   try subst e1
   obtain ⟨X,hX⟩: ∃ X:ByteArray,X=⟨M[k].toArray⟩:=⟨_,rfl⟩
   rw [← hX] at hc;have hXl:X.data.toList=M[k]:=by rw [hX]
   have HM:=hid (fun Y:World=>methodAt19_any S U X c Y);have HTk:=hid (show putsT age now (((M.take (k+1)).map (metR S.data.toList U.data.toList c))) T=putT (metR S.data.toList U.data.toList c X.data.toList) age now (putsT age now (((M.take k).map (metR S.data.toList U.data.toList c))) T) by
    rw [List.take_succ_eq_append_getElem hkM,List.map_append,List.map_singleton,← hXl]
    first | (rw [← List.append_assoc,putsT_app];rfl) | (rw [putsT_app];rfl))
   obtain ⟨Tk,hTk⟩: ∃ Y,Y=putsT age now (((M.take k).map (metR S.data.toList U.data.toList c))) T:=⟨_,rfl⟩
   have hlk:Tk.length≤32:=by rw [hTk];exact putsT_len _ _ _ _ HTl.out
   have HIk:=hid (show TbI wr p Tk by rw [hTk];exact HR.out.1);rw [← hTk] at HTk;have HQk:=hid HR.out.2;obtain ⟨x,hx⟩: ∃ x,x=metR S.data.toList U.data.toList c X.data.toList:=⟨_,rfl⟩
   rw [← hx] at HM HTk;have HPu:=hid (fun (Y:World) (hY:TbI Y p Tk)=>put19_any p Tk x age now Y hY hlk HNw.out HAg.out);have HCg:=hid (fun (wx:World) (hx:TqP p wr wx)=>(by rw [Lib.cell_of_heap (tq_kept (HQk.out.trans hx) HGb.out (by decide) (by decide))];rfl:wx.cell? ⟨w.heap.size,3,none⟩=some (.int .i64 age)));have HPl:=hid (fun (wx:World) (hx:TqP p wr wx)=>range_row_Cb (cs:=[.string S,.string U,.bool c]) (tq_kept (HQk.out.trans hx) HPb.out (by decide) (by decide)));have HPW:=hid (show p<wr.heap.size from HIk.out.lt);obtain ⟨S2,U2,X2,c2,n2,hx5⟩:=rt_five x
   rw [hx5,rtVal_eq] at HM HPu
   rw [hx5] at HTk;clear hTk hlk hx hx5 hXl hX hkM htx hcell HR
   go_wp2_with fail
   go_upto_region 5 with fail
   have HQ0:=hid (show TqP p wr wr.drew from ⟨(Below.refl _ _).drew,fun _ _ _ _ _ _ _=>rfl⟩);refine wp_region_held_drew (S:=(fun wx=>TqP p wr wx)) (by kernel_rfl) HQ0.out (fun hHeld=> ?_)
   refine wpAnyH_to (fuel':=8) (listed':= #[false,false,false,false,false,false,false,false]) rfl rfl ?_
   refine' wpAnyH_take (i:=0) (oi:=⟨some 28,_,_,_,_,_⟩) (v:=_) rfl (by kernel_rfl) (by kernel_rfl) (by kernel_rfl) (fun _ _ _ h=>h) (Or.inl ⟨by kernel_rfl,?hypm1⟩) (by assumption) ?restpm1
   case hypm1=>(intro wx hSw;(try dsimp only at hSw);have hk:=HCg.out wx hSw;go_simp;first | done | with_reducible rfl)
   (try simp only [Act.put,List.setIfInBounds_toArray,List.set_cons_zero,List.set_cons_succ])
   refine wpAnyH_take (i:=1) (oi:=⟨some 29,_,_,_,_,_⟩) rfl (by kernel_rfl) (by kernel_rfl) (by kernel_rfl) (fun _ _ _ h=>h) (yieldsIf_load_mid (by kernel_rfl) 147 (.tmp 12) rfl (W1.heap.size) 0 rfl [.string S,.string U,.bool c] _ HPl.out Tryz.underlying147 rfl sizePl19) (by assumption) ?_
   (try simp only [Act.put,List.setIfInBounds_toArray,List.set_cons_zero,List.set_cons_succ])
   refine' wpAnyH_take (i:=2) (oi:=⟨some 30,_,_,_,_,_⟩) (v:=_) rfl (by kernel_rfl) (by kernel_rfl) (by kernel_rfl) (fun _ _ _ h=>h) (Or.inl ⟨by kernel_rfl,?hypm2⟩) (by assumption) ?restpm2
   case hypm2=>(intro wx hSw;(try dsimp only at hSw);have hk:=HCg.out wx hSw;go_simp;first | done | with_reducible rfl)
   (try simp only [Act.put,List.setIfInBounds_toArray,List.set_cons_zero,List.set_cons_succ])
   refine' wpAnyH_take (i:=4) (oi:=⟨some 32,_,_,_,_,_⟩) (v:=_) rfl (by kernel_rfl) (by kernel_rfl) (by kernel_rfl) (fun _ _ _ h=>h) (Or.inl ⟨by kernel_rfl,?hypm3⟩) (by assumption) ?restpm3
   case hypm3=>(intro wx hSw;(try dsimp only at hSw);have hk:=HCg.out wx hSw;go_simp;first | done | with_reducible rfl)
   (try simp only [Act.put,List.setIfInBounds_toArray,List.set_cons_zero,List.set_cons_succ])
   refine' wpAnyH_take (i:=5) (oi:=⟨some 33,_,_,_,_,_⟩) (v:=_) rfl (by kernel_rfl) (by kernel_rfl) (by kernel_rfl) (fun _ _ _ h=>h) (Or.inl ⟨by kernel_rfl,?hypm4⟩) (by assumption) ?restpm4
   case hypm4=>(intro wx hSw;(try dsimp only at hSw);have hk:=HCg.out wx hSw;go_simp;first | done | with_reducible rfl)
   (try simp only [Act.put,List.setIfInBounds_toArray,List.set_cons_zero,List.set_cons_succ])
   refine' wpAnyH_take (i:=6) (oi:=⟨some 34,_,_,_,_,_⟩) (v:=_) rfl (by kernel_rfl) (by kernel_rfl) (by kernel_rfl) (fun _ _ _ h=>h) (Or.inl ⟨by kernel_rfl,?hypm5⟩) (by assumption) ?restpm5
   case hypm5=>(intro wx hSw;(try dsimp only at hSw);have hk:=HCg.out wx hSw;go_simp;first | done | with_reducible rfl)
   (try simp only [Act.put,List.setIfInBounds_toArray,List.set_cons_zero,List.set_cons_succ])
   refine wpAnyH_ready (rs:=[3]) (by kernel_rfl) (by simp) ?_
   refine AllReadyH.cons rfl (fun K9 hK=> ?_) AllReadyH.nil;rw [if_pos (by kernel_rfl)]
   go_simp
   go_wp2_with (go_at_call 90;refine (HM.out _).mono ?_;rintro e wapm ⟨rfl,hba⟩)
   have hbz:Below wr.heap.size wr wapm:=below2 (Below.refl _ wr).drew hba;have HQapm:=hid (show TqP p wr wapm from Tq.below hbz (by have:=HPW.out;omega));have HIapm:=hid (HIk.out.kept hbz);clear hbz;clear hba;refine hK.out _ _ HQapm.out (fun hHeld2=> ?_);clear hK K9 hHeld
   rename _=>hHeld
   refine wpAnyH_ready (rs:=[7]) (by kernel_rfl) (by simp) ?_
   refine AllReadyH.cons rfl (fun K9 hK=> ?_) AllReadyH.nil;rw [if_pos (by kernel_rfl)]
   go_simp
   go_wp2_with (go_at_call 89;refine (HPu.out _ HIapm.out).mono ?_;rintro e wbpm ⟨rfl,hIb,hqb⟩)
   have HQbpm:=hid (HQapm.out.trans hqb);have HIbpm:=hid hIb;clear hIb hqb;refine hK.out _ _ HQbpm.out (fun hHeld2=> ?_);clear hK K9 hHeld
   rename _=>hHeld
   refine wpAnyH_done (by kernel_rfl) ?_ _
   go_wp2_with fail
   go_roundw
   case rel=>
    have e5:TbI wbpm p (putsT age now (((M.take (k+1)).map (metR S.data.toList U.data.toList c))) T)∧TqP p WB wbpm:=⟨by rw [HTk.out];exact HIbpm.out,HQk.out.trans HQbpm.out⟩
    first
     | exact ⟨k+1,by omega,by go_num,e5⟩
     | ((repeat apply Exists.intro);refine ⟨?_,rfl⟩;exact ⟨k+1,by omega,by go_num,e5⟩)
     | ((repeat apply Exists.intro);exact ⟨⟨k+1,by omega,by go_num,e5⟩,rfl⟩)
   case measure=>simp [intOf];omega
  ·obtain rfl:k=nM:=by omega
   have hall:M.take k=M:=List.take_of_length_le (by have:=HLM.out;omega)
   obtain ⟨WC,hWC⟩: ∃ W,W=wr:=⟨_,rfl⟩
   subst hWC;have HI0N:=hid (show TbI WC p (putsT age now ((M.map (metR S.data.toList U.data.toList c))++[]) T) by
    have h:=HR.out.1;rw [hall] at h;rw [List.append_nil];exact h)
   have HQ0N:=hid HR.out.2;have g1:WC.cell? ⟨w.heap.size,1,none⟩=some (.slice na nN nc):=by rw [Lib.cell_of_heap (tq_kept HQ0N.out HGb.out (by decide) (by decide))];rfl
   clear hall HR hk hlt g0
   go_wp2_with fail
   go_loopw [16,40] (fun _ vi wr=> ∃ k:Nat,k≤nN∧vi = .int .i64 k∧Hid (TbI wr p (putsT age now ((M.map (metR S.data.toList U.data.toList c))++((N.take k).map (namR S.data.toList U.data.toList c))) T)∧TqP p WB wr)) (fun _ vi _=>nN - (intOf vi).toNat)
   case atStart=>exact ⟨0,Nat.zero_le _,rfl,by simpa using HI0N.out,HQ0N.out⟩
   case round=>
    obtain ⟨k,hk,rfl,HR⟩:=hrel
    by_cases hlt:k<nN
    ·have hkM:k<N.length:=by have:=HLN.out;omega
     have hin:(k:Int)<(nN:Int):=by omega
     obtain ⟨wr,rfl⟩: ∃ W,W=wr:=⟨_,rfl⟩
     have htx:=HTN.out.tq HR.out.2;obtain ⟨ma',mc',e1,_,_,hcell⟩:=htx.1.view
     injection e1 with e1 e2 e3
     clear e2 e3;obtain ⟨b1,o1,e4,hc⟩:=hcell k hkM
     rw [e4] at e1
     try subst e1
     obtain ⟨X,hX⟩: ∃ X:ByteArray,X=⟨N[k].toArray⟩:=⟨_,rfl⟩
     rw [← hX] at hc;have hXl:X.data.toList=N[k]:=by rw [hX]
     have hXs:X.size≤140737488351232:=by rw [Lib.size_eq,hXl];exact HNs.out _ (List.getElem_mem hkM)
     have HM:=hid (fun Y:World=>nameAt19_any S U X c Y hXs);have HTk:=hid (show putsT age now ((M.map (metR S.data.toList U.data.toList c))++((N.take (k+1)).map (namR S.data.toList U.data.toList c))) T=putT (namR S.data.toList U.data.toList c X.data.toList) age now (putsT age now ((M.map (metR S.data.toList U.data.toList c))++((N.take k).map (namR S.data.toList U.data.toList c))) T) by
      rw [List.take_succ_eq_append_getElem hkM,List.map_append,List.map_singleton,← hXl]
      first | (rw [← List.append_assoc,putsT_app];rfl) | (rw [putsT_app];rfl))
     obtain ⟨Tk,hTk⟩: ∃ Y,Y=putsT age now ((M.map (metR S.data.toList U.data.toList c))++((N.take k).map (namR S.data.toList U.data.toList c))) T:=⟨_,rfl⟩
     have hlk:Tk.length≤32:=by rw [hTk];exact putsT_len _ _ _ _ HTl.out
     have HIk:=hid (show TbI wr p Tk by rw [hTk];exact HR.out.1);rw [← hTk] at HTk;have HQk:=hid HR.out.2;obtain ⟨x,hx⟩: ∃ x,x=namR S.data.toList U.data.toList c X.data.toList:=⟨_,rfl⟩
     rw [← hx] at HM HTk;have HPu:=hid (fun (Y:World) (hY:TbI Y p Tk)=>put19_any p Tk x age now Y hY hlk HNw.out HAg.out);have HCg:=hid (fun (wx:World) (hx:TqP p wr wx)=>(by rw [Lib.cell_of_heap (tq_kept (HQk.out.trans hx) HGb.out (by decide) (by decide))];rfl:wx.cell? ⟨w.heap.size,3,none⟩=some (.int .i64 age)));have HPl:=hid (fun (wx:World) (hx:TqP p wr wx)=>range_row_Cb (cs:=[.string S,.string U,.bool c]) (tq_kept (HQk.out.trans hx) HPb.out (by decide) (by decide)));have HPW:=hid (show p<wr.heap.size from HIk.out.lt);obtain ⟨S2,U2,X2,c2,n2,hx5⟩:=rt_five x
     rw [hx5,rtVal_eq] at HM HPu
     rw [hx5] at HTk;clear hTk hlk hx hx5 hXl hX hkM htx hcell HR hXs
     go_wp2_with fail
     go_upto_region 10 with fail
     have HQ0:=hid (show TqP p wr wr.drew from ⟨(Below.refl _ _).drew,fun _ _ _ _ _ _ _=>rfl⟩);refine wp_region_held_drew (S:=(fun wx=>TqP p wr wx)) (by kernel_rfl) HQ0.out (fun hHeld=> ?_)
     refine wpAnyH_to (fuel':=8) (listed':= #[false,false,false,false,false,false,false,false]) rfl rfl ?_
     refine' wpAnyH_take (i:=0) (oi:=⟨some 44,_,_,_,_,_⟩) (v:=_) rfl (by kernel_rfl) (by kernel_rfl) (by kernel_rfl) (fun _ _ _ h=>h) (Or.inl ⟨by kernel_rfl,?hypn1⟩) (by assumption) ?restpn1
     case hypn1=>(intro wx hSw;(try dsimp only at hSw);have hk:=HCg.out wx hSw;go_simp;first | done | with_reducible rfl)
     (try simp only [Act.put,List.setIfInBounds_toArray,List.set_cons_zero,List.set_cons_succ])
     refine wpAnyH_take (i:=1) (oi:=⟨some 45,_,_,_,_,_⟩) rfl (by kernel_rfl) (by kernel_rfl) (by kernel_rfl) (fun _ _ _ h=>h) (yieldsIf_load_mid (by kernel_rfl) 147 (.tmp 12) rfl (W1.heap.size) 0 rfl [.string S,.string U,.bool c] _ HPl.out Tryz.underlying147 rfl sizePl19) (by assumption) ?_
     (try simp only [Act.put,List.setIfInBounds_toArray,List.set_cons_zero,List.set_cons_succ])
     refine' wpAnyH_take (i:=2) (oi:=⟨some 46,_,_,_,_,_⟩) (v:=_) rfl (by kernel_rfl) (by kernel_rfl) (by kernel_rfl) (fun _ _ _ h=>h) (Or.inl ⟨by kernel_rfl,?hypn2⟩) (by assumption) ?restpn2
     case hypn2=>(intro wx hSw;(try dsimp only at hSw);have hk:=HCg.out wx hSw;go_simp;first | done | with_reducible rfl)
     (try simp only [Act.put,List.setIfInBounds_toArray,List.set_cons_zero,List.set_cons_succ])
     refine' wpAnyH_take (i:=4) (oi:=⟨some 48,_,_,_,_,_⟩) (v:=_) rfl (by kernel_rfl) (by kernel_rfl) (by kernel_rfl) (fun _ _ _ h=>h) (Or.inl ⟨by kernel_rfl,?hypn3⟩) (by assumption) ?restpn3
     case hypn3=>(intro wx hSw;(try dsimp only at hSw);have hk:=HCg.out wx hSw;go_simp;first | done | with_reducible rfl)
     (try simp only [Act.put,List.setIfInBounds_toArray,List.set_cons_zero,List.set_cons_succ])
     refine' wpAnyH_take (i:=5) (oi:=⟨some 49,_,_,_,_,_⟩) (v:=_) rfl (by kernel_rfl) (by kernel_rfl) (by kernel_rfl) (fun _ _ _ h=>h) (Or.inl ⟨by kernel_rfl,?hypn4⟩) (by assumption) ?restpn4
     case hypn4=>(intro wx hSw;(try dsimp only at hSw);have hk:=HCg.out wx hSw;go_simp;first | done | with_reducible rfl)
     (try simp only [Act.put,List.setIfInBounds_toArray,List.set_cons_zero,List.set_cons_succ])
     refine' wpAnyH_take (i:=6) (oi:=⟨some 50,_,_,_,_,_⟩) (v:=_) rfl (by kernel_rfl) (by kernel_rfl) (by kernel_rfl) (fun _ _ _ h=>h) (Or.inl ⟨by kernel_rfl,?hypn5⟩) (by assumption) ?restpn5
     case hypn5=>(intro wx hSw;(try dsimp only at hSw);have hk:=HCg.out wx hSw;go_simp;first | done | with_reducible rfl)
     (try simp only [Act.put,List.setIfInBounds_toArray,List.set_cons_zero,List.set_cons_succ])
     refine wpAnyH_ready (rs:=[3]) (by kernel_rfl) (by simp) ?_
     refine AllReadyH.cons rfl (fun K9 hK=> ?_) AllReadyH.nil;rw [if_pos (by kernel_rfl)]
     go_simp
     go_wp2_with (go_at_call 91;refine (HM.out _).mono ?_;rintro e wapn ⟨rfl,hba⟩)
     have hbz:Below wr.heap.size wr wapn:=below2 (Below.refl _ wr).drew hba;have HQapn:=hid (show TqP p wr wapn from Tq.below hbz (by have:=HPW.out;omega));have HIapn:=hid (HIk.out.kept hbz);clear hbz;clear hba;refine hK.out _ _ HQapn.out (fun hHeld2=> ?_);clear hK K9 hHeld
     rename _=>hHeld
     refine wpAnyH_ready (rs:=[7]) (by kernel_rfl) (by simp) ?_
     refine AllReadyH.cons rfl (fun K9 hK=> ?_) AllReadyH.nil;rw [if_pos (by kernel_rfl)]
     go_simp
     go_wp2_with (go_at_call 89;refine (HPu.out _ HIapn.out).mono ?_;rintro e wbpn ⟨rfl,hIb,hqb⟩)
     have HQbpn:=hid (HQapn.out.trans hqb);have HIbpn:=hid hIb;clear hIb hqb;refine hK.out _ _ HQbpn.out (fun hHeld2=> ?_);clear hK K9 hHeld
     rename _=>hHeld
     refine wpAnyH_done (by kernel_rfl) ?_ _
     go_wp2_with fail
     go_roundw
     case rel=>
      have e5:TbI wbpn p (putsT age now ((M.map (metR S.data.toList U.data.toList c))++((N.take (k+1)).map (namR S.data.toList U.data.toList c))) T)∧TqP p WB wbpn:=⟨by rw [HTk.out];exact HIbpn.out,HQk.out.trans HQbpn.out⟩
      first
       | exact ⟨k+1,by omega,by go_num,e5⟩
       | ((repeat apply Exists.intro);refine ⟨?_,rfl⟩;exact ⟨k+1,by omega,by go_num,e5⟩)
       | ((repeat apply Exists.intro);exact ⟨⟨k+1,by omega,by go_num,e5⟩,rfl⟩)
     case measure=>simp [intOf];omega
    ·obtain rfl:k=nN:=by omega
     have hall:N.take k=N:=List.take_of_length_le (by have:=HLN.out;omega)
     obtain ⟨WD,hWD⟩: ∃ W,W=wr:=⟨_,rfl⟩
     subst hWD;obtain ⟨Tk,hTk⟩: ∃ Y,Y=putsT age now ((M.map (metR S.data.toList U.data.toList c))++N.map (namR S.data.toList U.data.toList c)) T:=⟨_,rfl⟩
     have HIk:=hid (show TbI WD p Tk by
      have h:=HR.out.1;rw [hall] at h;rw [hTk];exact h)
     have HQk:=hid HR.out.2;have hlk:Tk.length≤32:=by rw [hTk];exact putsT_len _ _ _ _ HTl.out
     have g2:WD.cell? ⟨w.heap.size,2,none⟩=some (.bool all):=by rw [Lib.cell_of_heap (tq_kept HQk.out HGb.out (by decide) (by decide))];rfl
     cases all with
     | false=>
       have HFi:=hid (show putsT age now (rtsV S.data.toList U.data.toList c M N false) T=Tk by rw [hTk];unfold rtsV;simp);clear hall hTk HR hk hlt
       go_wp2_with fail
       go_end0
       exact ⟨rfl,by rw [HFi.out];exact HIk.out,HQW.out.trans HQk.out⟩
     | true=>
       obtain ⟨x,hx⟩: ∃ x,x=namR S.data.toList U.data.toList c [42]:=⟨_,rfl⟩
       have HFi:=hid (show putsT age now (rtsV S.data.toList U.data.toList c M N true) T=putT x age now Tk by
        rw [hTk,hx]
        unfold rtsV;rw [putsT_app]
        rfl)
       have HM:=hid (fun Y:World=>nameAt19_any S U ⟨#[42]⟩ c Y (by decide));rw [show (⟨#[42]⟩:ByteArray).data.toList=[42] from rfl,← hx] at HM;have HPu:=hid (fun (Y:World) (hY:TbI Y p Tk)=>put19_any p Tk x age now Y hY hlk HNw.out HAg.out);have HCg:=hid (fun (wx:World) (hx:TqP p WD wx)=>(by rw [Lib.cell_of_heap (tq_kept (HQk.out.trans hx) HGb.out (by decide) (by decide))];rfl:wx.cell? ⟨w.heap.size,3,none⟩=some (.int .i64 age)));have HPl:=hid (fun (wx:World) (hx:TqP p WD wx)=>range_row_Cb (cs:=[.string S,.string U,.bool c]) (tq_kept (HQk.out.trans hx) HPb.out (by decide) (by decide)))
       have HPW:=hid (show p<WD.heap.size from HIk.out.lt);obtain ⟨S2,U2,X2,c2,n2,hx5⟩:=rt_five x
       rw [hx5,rtVal_eq] at HM HPu
       rw [hx5] at HFi;clear hall hTk hlk hx hx5 HR hk hlt
       go_wp2_with fail
       go_upto_region 13 with fail
       have HQ0:=hid (show TqP p WD WD.drew from ⟨(Below.refl _ _).drew,fun _ _ _ _ _ _ _=>rfl⟩);refine wp_region_held_drew (S:=(fun wx=>TqP p WD wx)) (by kernel_rfl) HQ0.out (fun hHeld=> ?_)
       refine wpAnyH_to (fuel':=7) (listed':= #[false,false,false,false,false,false,false]) rfl rfl ?_
       refine' wpAnyH_take (i:=0) (oi:=⟨some 55,_,_,_,_,_⟩) (v:=_) rfl (by kernel_rfl) (by kernel_rfl) (by kernel_rfl) (fun _ _ _ h=>h) (Or.inl ⟨by kernel_rfl,?hyps1⟩) (by assumption) ?restps1
       case hyps1=>(intro wx hSw;(try dsimp only at hSw);have hk:=HCg.out wx hSw;go_simp;first | done | with_reducible rfl)
       (try simp only [Act.put,List.setIfInBounds_toArray,List.set_cons_zero,List.set_cons_succ])
       refine wpAnyH_take (i:=1) (oi:=⟨some 56,_,_,_,_,_⟩) rfl (by kernel_rfl) (by kernel_rfl) (by kernel_rfl) (fun _ _ _ h=>h) (yieldsIf_load_mid (by kernel_rfl) 147 (.tmp 12) rfl (W1.heap.size) 0 rfl [.string S,.string U,.bool c] _ HPl.out Tryz.underlying147 rfl sizePl19) (by assumption) ?_
       (try simp only [Act.put,List.setIfInBounds_toArray,List.set_cons_zero,List.set_cons_succ])
       refine' wpAnyH_take (i:=3) (oi:=⟨some 58,_,_,_,_,_⟩) (v:=_) rfl (by kernel_rfl) (by kernel_rfl) (by kernel_rfl) (fun _ _ _ h=>h) (Or.inl ⟨by kernel_rfl,?hyps2⟩) (by assumption) ?restps2
       case hyps2=>(intro wx hSw;(try dsimp only at hSw);have hk:=HCg.out wx hSw;go_simp;first | done | with_reducible rfl)
       (try simp only [Act.put,List.setIfInBounds_toArray,List.set_cons_zero,List.set_cons_succ])
       refine' wpAnyH_take (i:=4) (oi:=⟨some 59,_,_,_,_,_⟩) (v:=_) rfl (by kernel_rfl) (by kernel_rfl) (by kernel_rfl) (fun _ _ _ h=>h) (Or.inl ⟨by kernel_rfl,?hyps3⟩) (by assumption) ?restps3
       case hyps3=>(intro wx hSw;(try dsimp only at hSw);have hk:=HCg.out wx hSw;go_simp;first | done | with_reducible rfl)
       (try simp only [Act.put,List.setIfInBounds_toArray,List.set_cons_zero,List.set_cons_succ])
       refine' wpAnyH_take (i:=5) (oi:=⟨some 60,_,_,_,_,_⟩) (v:=_) rfl (by kernel_rfl) (by kernel_rfl) (by kernel_rfl) (fun _ _ _ h=>h) (Or.inl ⟨by kernel_rfl,?hyps4⟩) (by assumption) ?restps4
       case hyps4=>(intro wx hSw;(try dsimp only at hSw);have hk:=HCg.out wx hSw;go_simp;first | done | with_reducible rfl)
       (try simp only [Act.put,List.setIfInBounds_toArray,List.set_cons_zero,List.set_cons_succ])
       refine wpAnyH_ready (rs:=[2]) (by kernel_rfl) (by simp) ?_
       refine AllReadyH.cons rfl (fun K9 hK=> ?_) AllReadyH.nil;rw [if_pos (by kernel_rfl)]
       go_simp
       go_wp2_with (go_at_call 91;refine (HM.out _).mono ?_;rintro e waps ⟨rfl,hba⟩)
       have hbz:Below WD.heap.size WD waps:=below2 (Below.refl _ WD).drew hba;have HQaps:=hid (show TqP p WD waps from Tq.below hbz (by have:=HPW.out;omega));have HIaps:=hid (HIk.out.kept hbz);clear hbz;clear hba;refine hK.out _ _ HQaps.out (fun hHeld2=> ?_);clear hK K9 hHeld
       rename _=>hHeld
       refine wpAnyH_ready (rs:=[6]) (by kernel_rfl) (by simp) ?_
       refine AllReadyH.cons rfl (fun K9 hK=> ?_) AllReadyH.nil;rw [if_pos (by kernel_rfl)]
       go_simp
       go_wp2_with (go_at_call 89;refine (HPu.out _ HIaps.out).mono ?_;rintro e wbps ⟨rfl,hIb,hqb⟩)
       have HQbps:=hid (HQaps.out.trans hqb);have HIbps:=hid hIb;clear hIb hqb;refine hK.out _ _ HQbps.out (fun hHeld2=> ?_);clear hK K9 hHeld
       rename _=>hHeld
       refine wpAnyH_done (by kernel_rfl) ?_ _
       go_wp2_with fail
       go_end0
       exact ⟨rfl,by rw [HFi.out];exact HIbps.out,HQW.out.trans (HQk.out.trans HQbps.out)⟩

end Go.Proofs.YtolioccofbhliaaGreatDoor

namespace Go.Proofs.YtolioccofbhliaaGreatDoor
open Go.RowKit

def srtT (X:List (List UInt8)):List (List UInt8):=X.mergeSort fun x y=>decide (x≤y)

end Go.Proofs.YtolioccofbhliaaGreatDoor

namespace Go.Proofs.YtolioccofbhliaaGreatDoor
open Go.RowKit

def bs_ren:Go.Shelf.Ren:=⟨fun | 26=>136 | 33=>178 | 34=>179 | 38=>220 | n=>n,fun | 0=>0 | 3=>3 | 4=>4 | 9=>9 | 24=>50 | 40=>156 | n=>n,fun | n=>n⟩

theorem bs_lays:Go.Proofs.Lays2.n26 Tryz.prog bs_ren:={
 mixed:=by kernel_rfl
 f26:=Tryz.func136.trans (congrArg some (by kernel_rfl))
 f33:=Tryz.func178.trans (congrArg some (by kernel_rfl))
 f34:=Tryz.func179.trans (congrArg some (by kernel_rfl))
 f38:=Tryz.func220.trans (congrArg some (by kernel_rfl))
 t0:=Tryz.underlying0
 a0:=Tryz.isAgg0
 z0:=Tryz.sizeOf0
 v0:=Tryz.zeroValue0
 t3:=Tryz.underlying3
 a3:=Tryz.isAgg3
 z3:=Tryz.sizeOf3
 v3:=Tryz.zeroValue3
 t4:=Tryz.underlying4
 a4:=Tryz.isAgg4
 z4:=Tryz.sizeOf4
 v4:=Tryz.zeroValue4
 t9:=Tryz.underlying9
 a9:=Tryz.isAgg9
 z9:=Tryz.sizeOf9
 v9:=Tryz.zeroValue9
 t24:=Tryz.underlying50
 a24:=Tryz.isAgg50
 z24:=Tryz.sizeOf50
 v24:=Tryz.zeroValue50
 t40:=Tryz.underlying156
 a40:=Tryz.isAgg156
 z40:=Tryz.sizeOf156
 v40:=Tryz.zeroValue156 }

theorem srt_mem (X:List (List UInt8)) (t:List UInt8):t ∈ srtT X ↔ t ∈ X:=by unfold srtT;exact List.mem_mergeSort

theorem srt_pair (X:List (List UInt8)):(srtT X).Pairwise (fun a b=>a≤b):=by
 have h:=List.pairwise_mergeSort (le:=fun x y:List UInt8=>decide (x≤y)) (fun a b c h1 h2=>by
  simp only [decide_eq_true_eq] at *
  exact List.le_trans h1 h2) (fun a b=>by
  simp only [Bool.or_eq_true,decide_eq_true_eq]
  exact List.le_total a b) X
 exact h.imp (fun h=>by simpa using h)

theorem bs_found (S:List (List UInt8)) (t:ByteArray) (hp:S.Pairwise (fun a b=>a≤b)) (Sx:Nat→ByteArray) (h1: ∀ j (h:j<S.length),Sx j=⟨S[j].toArray⟩) (h2: ∀ j,S.length≤j→Sx j=t):
 decide (Lib.bsGo (fun j=>Op.bytesLess (Sx j).toList t.toList) S.length 0 S.length<S.length∧Sx (Lib.bsGo (fun j=>Op.bytesLess (Sx j).toList t.toList) S.length 0 S.length)=t)=S.contains t.data.toList:=by
 have hls: ∀ j,Op.bytesLess (Sx j).toList t.toList=decide ((Sx j).data.toList<t.data.toList):=fun j=>by rw [bytesLess_eq,Lib.toList_data,Lib.toList_data]
 obtain ⟨k,hk1,hk2,hk3⟩: ∃ k,k≤S.length∧(∀ j,j<k→(Sx j).data.toList<t.data.toList) ∧ ∀ j,k≤j → ¬ (Sx j).data.toList<t.data.toList:=by
  have key: ∀ n,n≤S.length→(∃ k,k≤n∧(∀ j,j<k→(Sx j).data.toList<t.data.toList) ∧ ∀ j,k≤j→j<n → ¬ (Sx j).data.toList<t.data.toList):=by
   intro n
   induction n with
   | zero=>intro _;exact ⟨0,Nat.le_refl _,fun j h=>absurd h (Nat.not_lt_zero _),fun j _ h=>absurd h (Nat.not_lt_zero _)⟩
   | succ n ih=>
     intro hn;obtain ⟨k,h3,h4,h5⟩:=ih (by omega)
     by_cases hlt:(Sx n).data.toList<t.data.toList
     ·refine ⟨n+1,Nat.le_refl _,fun j hj=> ?_,fun j h6 h7=>by omega⟩
      by_cases hjn:j=n
      ·rw [hjn];exact hlt
      ·have hle:S[j]'(by omega)≤S[n]'(by omega):=List.pairwise_iff_getElem.1 hp j n (by omega) (by omega) (by omega)
       rw [h1 n (by omega)] at hlt;rw [h1 j (by omega)];exact List.lt_of_le_of_lt hle hlt
     ·refine ⟨k,by omega,h4,fun j h6 h7=> ?_⟩
      by_cases hjn:j=n
      ·rw [hjn];exact hlt
      ·exact h5 j h6 (by omega)
  obtain ⟨k,h3,h4,h5⟩:=key S.length (Nat.le_refl _)
  refine ⟨k,h3,h4,fun j hj=> ?_⟩
  by_cases h6:j<S.length
  ·exact h5 j hj h6
  ·rw [h2 j (by omega)];exact List.lt_irrefl _
 have hbs:Lib.bsGo (fun j=>Op.bytesLess (Sx j).toList t.toList) S.length 0 S.length=k:=by
  refine Lib.bsGo_spec _ k (fun j hj=> ?_) (fun j hj=> ?_) _ _ _ (by omega) (by omega) hk1
  ·rw [hls];exact decide_eq_true (hk2 j hj)
  ·rw [hls];exact decide_eq_false (hk3 j hj)
 rw [hbs];rw [Bool.eq_iff_iff];simp only [decide_eq_true_eq,List.contains_iff_mem]
 constructor
 ·rintro ⟨h3,h4⟩
  rw [h1 k h3] at h4;rw [← h4];exact List.getElem_mem h3
 ·intro hm
  obtain ⟨j,hj,e⟩:=List.getElem_of_mem hm
  have hkj:k≤j:=by
   rcases Nat.lt_or_ge j k with h | h
   ·have:=hk2 j h
    rw [h1 j hj] at this;have e2:(⟨S[j].toArray⟩:ByteArray).data.toList=S[j]:=rfl;rw [e2,e] at this
    exact absurd this (List.lt_irrefl _)
   ·exact h
  have hkl:k<S.length:=by omega
  refine ⟨hkl,?_⟩
  have h5: ¬ S[k]<t.data.toList:=by have:=hk3 k (Nat.le_refl _);rw [h1 k hkl] at this;exact this
  have h6:S[k]≤t.data.toList:=by
   by_cases hjk:k=j
   ·subst hjk;rw [e];exact List.le_refl _
   ·have:=List.pairwise_iff_getElem.1 hp k j hkl hj (by omega)
    rw [e] at this;exact this
  have h7:S[k]=t.data.toList:=List.le_antisymm h6 (List.not_lt.1 h5);rw [h1 k hkl,h7]

theorem search_any (v:Value) (X:List (List UInt8)) (t:ByteArray) (w:World) (hv:PathAt w v (srtT X)) (hl:X.length≤1000000):
 Calls Tryz.prog 136 #[v,.string t] w fun e w'=> ∃ i:Int,e = .returned (.tuple #[.int .i64 i,.bool (X.contains t.data.toList)])∧Below w.heap.size w w':=by
 have hc:(srtT X).contains t.data.toList=X.contains t.data.toList:=by
  rw [Bool.eq_iff_iff];simp only [List.contains_iff_mem];exact srt_mem X _
 have hlen:(srtT X).length=X.length:=by unfold srtT;exact List.length_mergeSort ..
 rcases hv with ⟨rfl,hn⟩ | ⟨b,cap,rfl,_,_,_,h5⟩
 ·refine (Any2.slices_BinarySearch_string_empty bs_lays none 0 t w).mono ?_
  rintro e w' ⟨rfl,rfl⟩
  refine ⟨0,?_,Below.refl _ _⟩
  rw [← hc,hn];rfl
 ·refine (Any2.slices_BinarySearch_string bs_lays b 0 (srtT X).length cap (fun j=>if h:j<(srtT X).length then ⟨(srtT X)[j].toArray⟩ else t) t w (by omega) (fun j hj=>by
   simp only [hj,dif_pos]
   rw [Nat.zero_add];exact h5 j hj)).mono ?_
  rintro e w' ⟨rfl,q,rfl⟩
  have hf:=bs_found (srtT X) t (srt_pair X) (fun j=>if h:j<(srtT X).length then ⟨(srtT X)[j].toArray⟩ else t) (fun j h=>by simp only [h,dif_pos]) (fun j h=>by rw [dif_neg (by omega)]);rw [← hc,← hf];exact ⟨_,rfl,Go.below_drewN (Below.refl _ _) _⟩

end Go.Proofs.YtolioccofbhliaaGreatDoor
