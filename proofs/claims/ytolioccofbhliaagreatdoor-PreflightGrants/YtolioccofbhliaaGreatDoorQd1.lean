/-
  Walks and plain facts that this claim leans on, put together out of 3 texts: Azh, Etx, Ekd.
-/
import Derived.Test.YtolioccofbhliaaGreatDoorProg
import Derived.Test.YtolioccofbhliaaGreatDoorQp1
import Derived.Test.YtolioccofbhliaaGreatDoorQp2
import Derived.Test.YtolioccofbhliaaGreatDoorQp3
import Derived.Test.YtolioccofbhliaaGreatDoorQp4
import Derived.Test.YtolioccofbhliaaGreatDoorQp5
import Derived.Test.YtolioccofbhliaaGreatDoorQp6
import Derived.Test.YtolioccofbhliaaGreatDoorQp7
import Derived.Test.YtolioccofbhliaaGreatDoorQp8
import Derived.Test.YtolioccofbhliaaGreatDoorQp9
import Derived.Test.YtolioccofbhliaaGreatDoorQp10
import Derived.Test.YtolioccofbhliaaGreatDoorQp11
import Derived.Test.YtolioccofbhliaaGreatDoorQp12
import Derived.Test.YtolioccofbhliaaGreatDoorQp13
import Derived.Test.YtolioccofbhliaaGreatDoorQp14
import Derived.Test.YtolioccofbhliaaGreatDoorQp15
import Derived.Test.YtolioccofbhliaaGreatDoorQp16
import Derived.Test.YtolioccofbhliaaGreatDoorQp17
import Derived.Test.YtolioccofbhliaaGreatDoorQp18
import Derived.Test.YtolioccofbhliaaGreatDoorQp19
import Derived.Test.YtolioccofbhliaaGreatDoorQp20
import Derived.Test.YtolioccofbhliaaGreatDoorQp21
import Derived.Test.YtolioccofbhliaaGreatDoorQp22
import Derived.Test.YtolioccofbhliaaGreatDoorQp23
import Derived.Test.YtolioccofbhliaaGreatDoorQp24
import Derived.Test.YtolioccofbhliaaGreatDoorQp25
import Derived.Test.YtolioccofbhliaaGreatDoorQp26
import Derived.Test.YtolioccofbhliaaGreatDoorQp27
import Derived.Test.YtolioccofbhliaaGreatDoorQp28
import Derived.Test.YtolioccofbhliaaGreatDoorQg1
import Derived.Test.YtolioccofbhliaaGreatDoorQg2
import Derived.Test.YtolioccofbhliaaGreatDoorQg3
import Derived.Test.YtolioccofbhliaaGreatDoorQg4
import Derived.Test.YtolioccofbhliaaGreatDoorQg5
import Derived.Test.YtolioccofbhliaaGreatDoorQg6
import Derived.Test.YtolioccofbhliaaGreatDoorQg7
import Derived.Deep.SlicePairs
import Derived.WalkKit
import Derived.Lib.Strings
import Derived.Lib.UnsafeStr
import Derived.Laws.IdiomStrings
import Derived.Laws.AppendOwn
import Derived.Laws.BitsAllLaws
import Derived.Lib.Bytealg
import Derived.Lib.BufferMore
import Derived.Shelf.Strings.Builder1
import Derived.Shelf.Strings.Builder2
import Derived.Shelf.Strings.OnBuilder
import Derived.Shelf.Strings.Trim
import Derived.Shelf.Small.Utf8
import Derived.Shelf.Small.Bits
import Derived.Shelf.Small.Strs
import Derived.Shelf.Small.Wraps
import Derived.Shelf.Strings.BuilderF
import Derived.Shelf.Strings.BuilderK
import Derived.Shelf.Strings.Builder2Cap
import Derived.Shelf.Strconv.Itoa0
import Derived.Shelf.Strconv.Itoa1
import Derived.Shelf.LaysM
import Derived.Shelf.Strconv.Itoa2
import Derived.Shelf.Strconv.Itoa3
import Derived.Shelf.Strings.Search1
import Derived.Shelf.Strings.Search2
import Derived.Shelf.Strings.Cut
import Derived.Shelf.Strings.Shaped
import Derived.Shelf.Sort.Plain
import Derived.Shelf.Strings.Prefix
import Derived.Shelf.Strings.Runes
import Derived.Shelf.Strings.IndexAny
import Derived.Shelf.Strings.AsciiSet
import Derived.Shelf.Strings.IndexAnyAll
import Derived.Shelf.Unicode.DecodeSlow
import Derived.Shelf.Unicode.DecodeAny
import Derived.Shelf.Unicode.DecodeLast
import Derived.Shelf.Slices.CompactS
import Derived.Shelf.Slices.In.SortNone
import Derived.Ground.SlgnProg
import Derived.Shelf.SlicesE.Compact
import Derived.Ground.SlgfProg
import Derived.Shelf.SlicesE.IndexFunc
import Derived.Shelf.SlicesE.DeleteFunc
import Derived.WalkSpells
import Derived.WalkLawsBesides
import Derived.Lib.SlTrimSet
import Derived.Lib.Join
import Derived.Lib.IndexMore
import Derived.Laws.OwnMore
import Derived.Below
import Derived.WalkSmall
import Derived.Lib.SmallJoins
import Derived.Deep.QuietTactic
import Derived.BigQuiet
import Derived.Deep.LoopGhost
import Derived.Deep.MidRow
import Derived.Shelf.Strings.SlTrimAscii
import Derived.BigRegion
import Derived.Deep.RegionHeld
import Derived.Deep.RegionHeldLaw
import Derived.Lib.IndexAny
import Derived.Lib.BufferRead
import Derived.Lib.RuneBytes
import Derived.Laws.RangeAny
import Derived.Maps.OwnSet
import Derived.Maps.OwnOps
import Derived.Maps.AppendAt
import Derived.StringKeys
import Derived.LoopN
import Derived.RegionTactic
import Derived.Deep.RegionLaw
import Derived.Deep.RegionWith
import Derived.Lib.FieldsP
import Derived.Lib.DecodeN
import Derived.Laws.CopyOwn
import Derived.Laws.ResultCell
import Derived.Lib.LaidTab
import Derived.Lib.AppendIntMem
import Derived.Laws.Runes
import Derived.Lib.OthersKept
import Derived.Lib.FrozenHead2
import Derived.Lib.Builder
import Derived.Lib.AppendStr
import Derived.Lib.Replace
import Derived.Shelf.GgClosure.GivesRunes
import Derived.Laws.BitsAll
import Derived.Laws.Shifts
import Derived.Deep.DeepAppendRoom
import Derived.Laws.BytesString
import Derived.Laws.CopyRow
import Derived.SizedLaws
import Derived.Deep.Strs
import Derived.ChangeSlices
import Derived.Deep.CutRange
import Derived.Laws.Rows
import Derived.Laws.MakeOwn
import Derived.Deep.WholeRow
import Derived.Laws.AppendOwnNone
set_option linter.unusedSimpArgs false
set_option linter.unusedVariables false

namespace Go.Proofs.YtolioccofbhliaaGreatDoor
open Go.RowKit

theorem undHd0: ∃ f0 f1,Tryz.prog.underlying 45=some (.struct #[f0,f1])∧f0.offset=0∧f1.offset=1∧f0.type=9∧f1.type=9:=⟨_,_,Tryz.underlying45,rfl,rfl,rfl,rfl⟩

theorem spot_none0 {w:World} {x:Addr} {v:Value} (h:w.cell? x=some v):x.spot=none:=by
 unfold World.cell? at h
 cases hs:x.spot with
 | none=>rfl
 | some y=>
   rw [hs] at h;split at h
   ·simp at h
   ·cases h

theorem addr_add0 {x:Addr} (h:x.spot=none) (j:Nat):x.add j=⟨x.block,x.off+j,none⟩:=by
 unfold Addr.add;split
 ·subst_vars;rw [← h];rfl
 ·rfl

theorem hd_arg0 {H:Type} {enc:TypeId×Value→H} {W:World} {a:Option Addr} {len cap:Nat} {d:DataW H} {p:List MemPlace} {fuel:Nat}
 (hf:DataW.trod enc Tryz.prog W 0 (fun _=>true) true fuel 27 [.slice a len cap]=some (d,p)):
 ∃ L,HdAt W (.slice a len cap) L∧Szd maxLen L:=by
 obtain ⟨f0,f1,hu,o0,o1,t0,t1⟩:=undHd0
 have c1:Tryz.prog.cellsOf 9=1:=by kernel_rfl
 rcases Deep.open_slice_pairs Tryz.underlying27 hu (by kernel_rfl) o0 o1 (by rw [t0];exact c1) (by rw [t1];exact c1) hf with ⟨hcs,_⟩ | ⟨x,len',cap',m,n,V0,V1,D0,D1,P0,P1,hcs,_,hl,hm,hmm,hx,hcell⟩
 ·simp at hcs
  obtain ⟨rfl,rfl,rfl⟩:=hcs
  exact ⟨[],hd_nil _,fun h hh=>by simp at hh⟩
 ·simp at hcs
  obtain ⟨rfl,rfl,rfl⟩:=hcs
  have hlm:len≤m:=by rw [hmm];simp;omega
  have each: ∀ i,i<len → ∃ s:ByteArray×ByteArray,W.cell? (x.add (i*2))=some (.string s.1)∧W.cell? (x.add (i*2+1))=some (.string s.2)∧s.1.data.toList.length≤maxLen∧s.2.data.toList.length≤maxLen:=fun i hi=>by
   obtain ⟨q0,q1,r0,r1⟩:=hcell i (by omega)
   rw [t0] at r0;rw [t1] at r1;obtain ⟨s0,e0,y0,z0⟩:=DataW.trod_string Tryz.underlying9 r0
   obtain ⟨s1,e1,y1,z1⟩:=DataW.trod_string Tryz.underlying9 r1
   simp at e0 e1;rw [e0] at q0;rw [e1] at q1;exact ⟨(s0,s1),q0,q1,by rw [← Lib.size_eq];exact z0,by rw [← Lib.size_eq];exact z1⟩
  obtain ⟨F,hF⟩:=Deep.choose_lt each
  have hL:((List.range len).map fun i=>(⟨(F i).1.data.toList,(F i).2.data.toList⟩:Hd)).length=len:=by simp
  refine ⟨(List.range len).map fun i=>⟨(F i).1.data.toList,(F i).2.data.toList⟩,⟨some x,cap,by rw [hL],by rw [hL];exact hl,hm,fun i hi=> ?_⟩,fun h hh=> ?_⟩
  ·rw [hL] at hi
   have h0:=hF 0 (by omega)
   have hsp:x.spot=none:=spot_none0 (by simpa [Addr.add] using h0.1)
   obtain ⟨q0,q1,_⟩:=hF i hi
   rw [addr_add0 hsp] at q0 q1;refine ⟨x.block,x.off,by rw [← hsp],?_,?_⟩
   ·rw [q0];simp
   ·rw [Nat.add_assoc,q1];simp
  ·rw [List.mem_map] at hh
   obtain ⟨i,hi,rfl⟩:=hh
   exact (hF i (by simpa using hi)).2.2

end Go.Proofs.YtolioccofbhliaaGreatDoor

namespace Go.Proofs.YtolioccofbhliaaGreatDoor
open Go.RowKit

theorem spot_none15 {w:World} {x:Addr} {v:Value} (h:w.cell? x=some v):x.spot=none:=by
 unfold World.cell? at h
 cases hs:x.spot with
 | none=>rfl
 | some y=>
   rw [hs] at h;split at h
   ·simp at h
   ·cases h

end Go.Proofs.YtolioccofbhliaaGreatDoor

namespace Go.Proofs.YtolioccofbhliaaGreatDoor
open Go.RowKit

theorem wAll_mem19 {H:Type} {P:Program} {e:TypeId}: ∀ {l:List (DataW H)} {d:DataW H},d ∈ l → ∀ n ∈ d.weights P e,n ∈ DataW.weightsAll P e l
 | [],_,h,_,_=>by cases h
 | a::l,d,h,n,hn=>by
   rw [DataW.weightsAll,List.mem_append]
   rcases List.mem_cons.1 h with rfl | h
   ·exact .inl hn
   ·exact .inr (wAll_mem19 h n hn)

theorem sized_tx19 {H:Type} {P:Program} {ts:List TypeId} {ds:List (DataW H)} (h:(DataW.weightsEach P ts ds).all (· ≤ reachBytes)=true) {j:Nat} {t e:TypeId} {elems spare:List (DataW H)} (ht:ts[j]? = some t) (hd:ds[j]? = some (.slice elems spare))
 (hu:P.underlying t=some (.slice e)) {x:List UInt8} (hm:DataW.lit (.string x) ∈ elems):x.length≤140737488351232:=by
 have key: ∀ n ∈ (DataW.lit (.string x):DataW H).weights P e,n≤140737488351232:=fun n hn=>by
  have h1:n ∈ DataW.weightsAll P e elems:=wAll_mem19 hm n hn;have h2:n ∈ (DataW.slice elems spare:DataW H).weights P t:=by
   rw [DataW.weights,hu]
   simp only [List.mem_cons,List.mem_append]
   exact .inr (.inl h1)
  have:=List.all_eq_true.1 h _ (DataW.weights_mem_each ht hd n h2);exact of_decide_eq_true this
 exact key x.length (by simp [DataW.weights])

theorem txs_arg19 {H:Type} {enc:TypeId×Value→H} {W:World} {a:Option Addr} {len cap:Nat} {d:DataW H} {p:List MemPlace} {ts:List TypeId} {ds:List (DataW H)} {j fuel:Nat}
 (hf:DataW.trod enc Tryz.prog W 0 (fun _=>true) true fuel 50 [.slice a len cap]=some (d,p)) (hwt:(DataW.weightsEach Tryz.prog ts ds).all (· ≤ reachBytes)=true) (ht:ts[j]? = some 50) (hd:ds[j]? = some d):
 ∃ L,TxAt W (.slice a len cap) L ∧ ∀ y ∈ L,y.length≤140737488351232:=by
 rcases Deep.open_strs Tryz.underlying50 Tryz.underlying9 (by kernel_rfl) hf with ⟨hcs,_⟩ | ⟨x,len',cap',m,Sx,hcs,_,hl,hm,hmm,hx,hcell⟩
 ·simp at hcs
  obtain ⟨rfl,rfl,rfl⟩:=hcs
  exact ⟨[],tx_nil _,fun y hy=>by simp at hy⟩
 ·simp at hcs
  obtain ⟨rfl,rfl,rfl⟩:=hcs
  have hlm:len≤m:=by rw [hmm];simp;omega
  have hx1:=(Prod.mk.injEq _ _ _ _ ▸ hx:_∧_).1;have hL:((List.range len).map fun i=>(Sx i).data.toList).length=len:=by simp
  refine ⟨(List.range len).map fun i=>(Sx i).data.toList,⟨some x,cap,by rw [hL],by rw [hL];exact hl,hm,fun i hi=> ?_⟩,fun y hy=> ?_⟩
  ·rw [hL] at hi
   have h0:=(hcell 0 (by omega)).1;have hsp:x.spot=none:=spot_none15 (by simpa [Addr.add] using h0)
   have q:=(hcell i (by omega)).1;have e:x.add i=⟨x.block,x.off+i,none⟩:=by
    unfold Addr.add;split
    ·subst_vars;rw [← hsp];rfl
    ·rfl
   rw [e] at q;exact ⟨x.block,x.off,by rw [← hsp],by rw [q];simp⟩
  ·rw [List.mem_map] at hy
   obtain ⟨i,hi,rfl⟩:=hy
   exact sized_tx19 hwt ht (by rw [hd,hx1]) Tryz.underlying50 (List.mem_map.2 ⟨i,hi,rfl⟩)

theorem undRp19: ∃ f0 f1 f2,Tryz.prog.underlying 30=some (.struct #[f0,f1,f2])∧f0.offset=0∧f1.offset=1∧f2.offset=2∧f0.type=3∧f1.type=27∧f2.type=28:=⟨_,_,_,Tryz.underlying30,rfl,rfl,rfl,rfl,rfl,rfl⟩

theorem rep_arg19 {H:Type} {enc:TypeId×Value→H} {W:World} {cs:List Value} {d:DataW H} {p:List MemPlace} {fuel:Nat}
 (hf:DataW.trod enc Tryz.prog W 0 (fun _=>true) true fuel 30 cs=some (d,p)):
 ∃ st va vn vc ba bn bc L bl,cs=[.int .i64 st,.slice va vn vc,.slice ba bn bc]∧HdAt W (.slice va vn vc) L∧Szd maxLen L∧bl.length=bn∧SlB_Cb W (.slice ba bn bc) bl∧bn≤bc∧bc≤maxLen:=by
 obtain ⟨f0,f1,f2,hu,o0,o1,o2,t0,t1,t2⟩:=undRp19
 obtain ⟨y0,y1,y2,n,_,hl,h0,h1,h2⟩:=Deep.trod_struct3 hu hf
 have c3:Tryz.prog.cellsOf 30=3:=by kernel_rfl
 rw [c3] at hl;rw [o0,t0,show Tryz.prog.cellsOf 3=1 by kernel_rfl] at h0
 rw [o1,t1,show Tryz.prog.cellsOf 27=1 by kernel_rfl] at h1
 rw [o2,t2,show Tryz.prog.cellsOf 28=1 by kernel_rfl] at h2
 match cs,hl with
 | [c0,c1,c2],_=>
   simp only [List.drop_zero,List.drop_succ_cons,List.take_succ_cons,List.take_zero] at h0 h1 h2
   obtain ⟨st,e0,_,_⟩:=DataW.trod_int Tryz.underlying3 h0
   have e1: ∃ va vn vc,c1 = .slice va vn vc:=by
    obtain ⟨g0,g1,hg,q0,q1,s0,s1⟩:=undHd0
    have k1:Tryz.prog.cellsOf 9=1:=by kernel_rfl
    rcases Deep.open_slice_pairs Tryz.underlying27 hg (by kernel_rfl) q0 q1 (by rw [s0];exact k1) (by rw [s1];exact k1) h1 with ⟨hcs,_⟩ | ⟨x,len',cap',m,n,V0,V1,D0,D1,P0,P1,hcs,_⟩
    ·simp at hcs;exact ⟨_,_,_,hcs⟩
    ·simp at hcs;exact ⟨_,_,_,hcs⟩
   obtain ⟨va,vn,vc,rfl⟩:=e1
   obtain ⟨zs,ba,bn,bc,rfl,hr⟩: ∃ zs ba bn bc,c2 = .slice ba bn bc∧IsRow_Cb .u8 W ba bn bc zs:=by
    rcases Go.ChangeShapes.open_ints Tryz.underlying28 Tryz.underlying5 (by kernel_rfl) h2 with ⟨hcs,_⟩ | ⟨x,l,c,zs,hcs,_,hl,hm,hz,_,hcell,hwz⟩
    ·simp at hcs;exact ⟨[],none,0,0,hcs,.inl ⟨rfl,rfl,rfl,rfl⟩⟩
    ·simp at hcs;exact ⟨zs,some x,l,c,hcs,.inr ⟨_,rfl,hl,hm,by simpa using hz,hcell,hwz⟩⟩
   obtain ⟨bl,b1,b2,b3,b4⟩:=hr.bytes
   simp at e0;subst e0;obtain ⟨L,l1,l2⟩:=hd_arg0 (show DataW.trod enc Tryz.prog W 0 (fun _=>true) true n 27 [.slice va vn vc]=some (y1.1,y1.2) from h1)
   exact ⟨st,va,vn,vc,ba,bn,bc,L,bl,rfl,l1,l2,b1,b2,b3,b4⟩

end Go.Proofs.YtolioccofbhliaaGreatDoor
