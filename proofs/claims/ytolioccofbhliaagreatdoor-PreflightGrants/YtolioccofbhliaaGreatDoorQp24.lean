/-
  Walks and plain facts that this claim leans on, put together out of 1 texts: Ejo.
-/
import Derived.Test.YtolioccofbhliaaGreatDoorProg
import Derived.Test.YtolioccofbhliaaGreatDoorQp1
import Derived.Test.YtolioccofbhliaaGreatDoorQp2
import Derived.Test.YtolioccofbhliaaGreatDoorQp3
import Derived.Test.YtolioccofbhliaaGreatDoorQp4
import Derived.Test.YtolioccofbhliaaGreatDoorQp13
import Derived.Test.YtolioccofbhliaaGreatDoorQp14
import Derived.Test.YtolioccofbhliaaGreatDoorQp16
import Derived.Test.YtolioccofbhliaaGreatDoorQp17
import Derived.Test.YtolioccofbhliaaGreatDoorQp18
import Derived.Test.YtolioccofbhliaaGreatDoorQp19
import Derived.Test.YtolioccofbhliaaGreatDoorQp21
import Derived.Test.YtolioccofbhliaaGreatDoorQp22
import Derived.Test.YtolioccofbhliaaGreatDoorQp23
import Derived.BigRegion
import Derived.Deep.RegionHeld
import Derived.Deep.RegionHeldLaw
import Derived.Lib.IndexAny
import Derived.WalkKit
import Derived.Lib.UnsafeStr
import Derived.Lib.BufferRead
import Derived.Lib.RuneBytes
import Derived.Laws.RangeAny
import Derived.Deep.LoopGhost
import Derived.Maps.OwnSet
import Derived.Maps.OwnOps
import Derived.Maps.AppendAt
import Derived.StringKeys
import Derived.BigQuiet
import Derived.Deep.QuietTactic
import Derived.LoopN
import Derived.RegionTactic
import Derived.Deep.RegionLaw
import Derived.Deep.RegionWith
import Derived.WalkSpells
import Derived.WalkLawsBesides
import Derived.Lib.FieldsP
import Derived.Lib.DecodeN
import Derived.Lib.IndexMore
import Derived.Lib.Join
import Derived.Lib.SmallJoins
import Derived.Laws.CopyOwn
import Derived.Laws.ResultCell
import Derived.Deep.MidRow
import Derived.Laws.OwnMore
import Derived.Below
import Derived.WalkSmall
import Derived.Lib.LaidTab
import Derived.Lib.AppendIntMem
import Derived.Laws.AppendOwn
import Derived.Laws.Runes
import Derived.Lib.OthersKept
import Derived.Lib.FrozenHead2
import Derived.Lib.Builder
import Derived.Lib.AppendStr
import Derived.Lib.Replace
import Derived.Shelf.GgClosure.GivesRunes
import Derived.Laws.BitsAll
import Derived.Laws.Shifts
import Derived.Deep.DeepAppendRoom
import Derived.Laws.IdiomStrings
import Derived.Laws.BytesString
import Derived.Laws.CopyRow
import Derived.Sort.OwnSorted
import Derived.Lib.SlicesCompact
import Derived.Shelf.Slices.In.SortNone
import Derived.Shelf.Slices.CompactS
import Derived.Sort.KeysCollected
import Derived.Lib.Case
import Derived.Lib.LastIndexByte
import Derived.Lib.Strings
import Derived.Laws.BitsAllLaws
import Derived.Lib.Bytealg
import Derived.Lib.BufferMore
import Derived.Shelf.Strings.Builder1
import Derived.Shelf.Strings.Builder2
import Derived.Shelf.Strings.OnBuilder
import Derived.Shelf.Strings.Trim
import Derived.Shelf.Small.Utf8
import Derived.Shelf.Small.Bits
import Derived.Shelf.Small.Strs
import Derived.Shelf.Small.Wraps
import Derived.Shelf.Strings.BuilderF
import Derived.Shelf.Strings.BuilderK
import Derived.Shelf.Strings.Builder2Cap
import Derived.Shelf.Strconv.Itoa0
import Derived.Shelf.Strconv.Itoa1
import Derived.Shelf.LaysM
import Derived.Shelf.Strconv.Itoa2
import Derived.Shelf.Strconv.Itoa3
import Derived.Shelf.Strings.Search1
import Derived.Shelf.Strings.Search2
import Derived.Shelf.Strings.Cut
import Derived.Shelf.Strings.Shaped
import Derived.Shelf.Sort.Plain
import Derived.Shelf.Strings.Prefix
import Derived.Shelf.Strings.Runes
import Derived.Shelf.Strings.IndexAny
import Derived.Shelf.Strings.AsciiSet
import Derived.Shelf.Strings.IndexAnyAll
import Derived.Shelf.Unicode.DecodeSlow
import Derived.Shelf.Unicode.DecodeAny
import Derived.Shelf.Unicode.DecodeLast
import Derived.Ground.SlgnProg
import Derived.Shelf.SlicesE.Compact
import Derived.Ground.SlgfProg
import Derived.Shelf.SlicesE.IndexFunc
import Derived.Shelf.SlicesE.DeleteFunc
import Derived.Scope
import Derived.ScopeJumps
import Derived.WalkMore
import Derived.Lib.TrimByte
import Derived.Lib.ItoaNum
import Derived.Deep.WholeRow
import Derived.OwnWalk
import Derived.Lib.SlTrimSet
import Derived.Shelf.Strings.SlTrimAscii
import Derived.Deep.CutRange
import Derived.Laws.Rows
import Derived.Laws.MakeOwn
import Derived.Shelf.Spec.SearchS
import Derived.Sort.Walk0
import Derived.Laws.AppendOwnNone
set_option linter.unusedSimpArgs false
set_option linter.unusedVariables false

namespace Go.Proofs.YtolioccofbhliaaGreatDoor
open Go.RowKit Go.Sort Go.Shelf

def TkPost (P:List (List UInt8)) (w:World) (e:Ending) (w':World):Prop:= ∃ a c,e = .returned (.slice a P.length c)∧w'.ownsRow w.heap.size 9 1 (.slice a P.length c) P.length (cellsT P)∧Below w.heap.size w w'

def IpPost (B:Nat) (v:Value) (P:List (List UInt8)) (w:World) (e:Ending) (w':World):Prop:= ∃ a c,e = .returned (.slice a P.length c)∧w'.ownsRow B 9 1 (.slice a P.length c) P.length (cellsT P)∧w.grownBy w' v.ownBlock ∧ ∀ g,(Value.slice a P.length c).ownBlock=some g→v.ownBlock=some g

theorem own_take19 {w:World} {B g n c:Nat} {T:TypeId} {X Y:List Value} (h:w.ownsRow B T 1 (.slice (some ⟨g,0,none⟩) n c) n (X++Y)):w.ownsRow B T 1 (.slice (some ⟨g,0,none⟩) X.length c) X.length X:=by
 have h1:=h.1;obtain ⟨cur,hg,hrow,_,hnc,hcm,hcs,htake⟩:=own_in17 h
 rw [List.length_append] at h1;refine ⟨by simp,.inr ⟨g,c,cur,rfl,hg,hrow,by omega,hcm,hcs,?_⟩⟩
 have e:cur.toList.take (X.length*1)=(cur.toList.take (n*1)).take (X.length*1):=by rw [List.take_take,Nat.min_eq_left (by omega)]
 rw [e,htake,Nat.mul_one,List.take_left' rfl]

set_option maxHeartbeats 1000000 in
theorem tokc19_any (s:ByteArray) (w:World) (hs:s.size≤140737488351232):
 Calls Tryz.prog 132 #[.string s] w fun e w'=>e = .returned (.bool (!tokL s.data.toList))∧w'=w:=by
 have HT:=hid (fun w=>token_any s w hs);obtain ⟨b,hb⟩: ∃ b,b=tokL s.data.toList:=⟨_,rfl⟩
 rw [← hb] at HT ⊢;clear hb
 go_enter Tryz.func132,Tryz.ntmps132
 go_wp2_with fail
 refine (HT.out _).mono ?_;rintro e w1 ⟨rfl,rfl⟩
 go_wp2_with fail
 go_ret
 exact ⟨rfl,rfl⟩

theorem enters_tokc: ∀ args w,(callFunc 132 args).run Tryz.prog w = .ok (.enter 132 args) w:=enters_of Tryz.func132 (by kernel_rfl) rfl

def encK (x:List UInt8):Value:=encStr (x.take 140737488351232)

theorem encK_eq {x:List UInt8} (h:x.length≤140737488351232):encK x=encStr x:=by unfold encK;rw [List.take_of_length_le h]

theorem putRow_encK (w:World) (blk off:Nat) (d:Array (List UInt8)) (h: ∀ x ∈ d.toList,x.length≤140737488351232):putRow encK w blk off d=putRow encStr w blk off d:=by
 unfold putRow
 congr 1
 funext c
 unfold putCells
 congr 1
 funext k x
 split
 ·rename_i hk
  have hj:k - off<d.size:=by omega
  have:d[k - off]! = d[k - off]:=getElem!_pos d _ hj;rw [this];exact encK_eq (h _ (by simp))
 ·rfl

theorem tokc_gives (x:List UInt8) (W:World):FnGives Tryz.prog 132 #[] #[encK x] (.bool (!tokL (x.take 140737488351232))) W:=by
 refine (tokc19_any ⟨(x.take 140737488351232).toArray⟩ W (by rw [Lib.size_eq];simp;omega)).mono ?_;rintro e w' ⟨rfl,rfl⟩
 exact ⟨rfl,0,rfl⟩

theorem one_encK:OneCell encK:=fun x=>rfl

theorem zero_encK (w:World):(zeroValue 9).run Tryz.prog w = .ok (encK []) w:=by kernel_rfl

theorem filt_encK {P:List (List UInt8)} (h: ∀ x ∈ P,x.length≤140737488351232):(P.filter fun x=> !(fun y:List UInt8=> !tokL (y.take 140737488351232)) x)=P.filter tokL:=by
 refine List.filter_congr fun x hx=> ?_
 simp only [Bool.not_not];rw [List.take_of_length_le (h x hx)]

set_option maxHeartbeats 2000000 in
theorem delT19_any (v:Value) (P:List (List UInt8)) (w:World) (B:Nat) (hown:w.ownsRow B 9 1 v P.length (cellsT P)) (hl:P.length≤4611686018427387903) (hs: ∀ x ∈ P,x.length≤140737488351232):
 Calls Tryz.prog 131 #[v,.func (.func 132) #[] #[]] w (IpPost B v (P.filter tokL) w):=by
 rcases hown.2 with ⟨rfl,h0⟩ | ⟨g,cap,cur,rfl,hbase,hb,h1,h2,h3,h4⟩
 ·have hP:P=[]:=List.eq_nil_of_length_eq_zero h0
  subst hP
  go_enter Tryz.func131,Tryz.ntmps131
  go_wp2_with (go_at_call 176;refine (Tryz.slices_IndexFunc_empty (α:=Nat) _ _ _ _).mono ?_;rintro e w1 ⟨rfl,hw1⟩;rw [hw1];clear hw1)
  go_ret
  exact ⟨none,0,rfl,World.ownsRow_nil _ _ _ _,⟨rfl,rfl,rfl,Nat.le_refl _,fun _ _ _=>rfl⟩,fun g h=>h⟩
 ·have hd:=Tryz.slices_DeleteFunc encK one_encK (fun y:List UInt8=> !tokL (y.take 140737488351232)) 132 #[] enters_tokc [] zero_encK g 0 cap P.toArray w (fun W x _=>tokc_gives x W) (fun n os dk x _=>tokc_gives x _) (by
   have hH:=holds_of_block hb (ss:=P) (by rw [cells_enc];simpa using h4)
   intro j hj;have h:=hH j hj;rw [h.1];refine ⟨?_,h.2⟩
   rw [encK_eq];have hj':j<P.length:=by simpa using hj
   rw [getElem!_pos P.toArray j hj];exact hs _ (by simp)) (by simp;omega) (by simpa using h1)
  simp only [List.size_toArray] at hd;rw [filt_encK hs] at hd;refine hd.mono ?_;rintro e w' ⟨rfl,q,rfl⟩
  have hfl:=List.length_filter_le tokL P;have hl2:(P.filter tokL++List.replicate (P.length - (P.filter tokL).length) []).length=P.length:=by rw [List.length_append,List.length_replicate];omega
  rw [putRow_encK _ _ _ _ (fun x hx=>by
   rw [List.toList_toArray] at hx;rcases List.mem_append.1 hx with hx | hx
   ·exact hs x (List.mem_filter.1 hx).1
   ·rw [(List.mem_replicate.1 hx).2];simp)]
  have o2:=ownsRow_sorted (w:=w) (n:=q) (os:= #[]) (ts:=P.filter tokL++List.replicate (P.length - (P.filter tokL).length) []) (ss:=P) hl2 hbase hb h1 h2 (by simpa using h3)
  have g2:=grownBy_sorted (w:=w) (g:=g) (n:=q) (os:= #[]) (P.filter tokL++List.replicate (P.length - (P.filter tokL).length) []).toArray;rw [grow_none16] at o2 g2;rw [cells_enc,cellsT_app] at o2
  have o3:=own_take19 o2;rw [cellsT_len] at o3;exact ⟨some ⟨g,0,none⟩,cap,rfl,o3,g2,fun g h=>h⟩

set_option maxHeartbeats 2000000 in
theorem tokens19_any (v:Value) (L:List Hd) (n:ByteArray) (w:World) (h:HdAt w v L) (hs:n.size≤1000) (hz:Szd 140737488351232 L) (hl:L.length≤1000000) (hb:bulkV L≤1000000):
 Calls Tryz.prog 82 #[v,.string n] w (TkPost (tksV L n.data.toList) w):=by
 have HS:=hid (split16_any v L n w h (by omega) hz hl (by omega));have hpl:=pcsV_len16 L n.data.toList;unfold tksV;obtain ⟨P,hP⟩: ∃ P,P=pcsV L n.data.toList:=⟨_,rfl⟩
 rw [← hP] at HS hpl ⊢;unfold SpPost at HS;obtain ⟨R,hR⟩: ∃ R,R=P.filter tokL:=⟨_,rfl⟩
 rw [← hR];obtain ⟨a0,c0,rfl,_,_,_⟩:=h.view
 have HPl:=hid hpl;have HBk:=hid hb;clear h hz hl hb hP hpl
 go_enter Tryz.func82,Tryz.ntmps82
 go_wp2_with fail
 refine HS.out.mono ?_;rintro e w1 ⟨v1,q1,rfl,hown1,hb1⟩
 have HD:=hid (delT19_any v1 P w1 w.heap.size hown1 (by have:=HPl.out.1;have:=HBk.out;omega) (fun x hx=>by have:=HPl.out.2 x hx;have:=HBk.out;omega));have HO1:=hid hown1;obtain ⟨a1,c1,rfl⟩:=own_sl16 hown1
 have HB1:=hid hb1;unfold IpPost at HD;obtain ⟨k,hk⟩: ∃ k,k=P.length:=⟨_,rfl⟩
 rw [← hR] at HD;rw [← hk] at HD HO1;rw [← hk];clear hown1 hb1 hR hk HPl
 go_wp2_with fail
 refine HD.out.mono ?_;rintro e w2 ⟨a2,c2,rfl,hown2,hg2,_⟩
 have HO2:=hid hown2;have HB2:=hid (HB1.out.grown hg2 HB1.out.size (fun g hg=>(HO1.out.lt g hg).1));clear hown2 hg2
 go_wp2_with fail
 go_ret
 exact ⟨a2,c2,rfl,HO2.out,HB2.out⟩

set_option maxHeartbeats 4000000 in
set_option maxRecDepth 100000 in
theorem once19_any (v:Value) (X:List (List UInt8)) (w:World) (B:Nat) (hown:w.ownsRow B 9 1 v X.length (cellsT X)) (hl:X.length≤1000001):
 Calls Tryz.prog 81 #[v] w (IpPost B v (srtN X) w):=by
 obtain ⟨a0,c0,rfl⟩:=own_sl16 hown
 obtain ⟨n,hn⟩: ∃ n,n=X.length:=⟨_,rfl⟩
 by_cases h0:n=0
 ·have hXn:X=[]:=List.eq_nil_of_length_eq_zero (by omega)
  subst hXn;obtain rfl:n=0:=h0;have HO:=hid hown;clear hown hn;dsimp only [List.length_nil]
  go_enter Tryz.func81,Tryz.ntmps81
  go_wp2_with (go_at_call 100;refine (Tryz.slices_Sort_string_none _ _ _).mono ?_;rintro e wz ⟨rfl,hwz⟩;rw [hwz];clear hwz)
  go_wp2_with (go_at_call 101;refine (Tryz.slices_Compact_string_empty _ _ _).mono ?_;rintro e wz ⟨rfl,hwz⟩;rw [hwz];clear hwz)
  go_ret
  exact ⟨a0,c0,rfl,HO.out,⟨rfl,rfl,rfl,Nat.le_refl _,fun _ _ _=>rfl⟩,fun g h=>h⟩
 ·rcases hown.2 with ⟨_,hn0⟩ | ⟨g,cap,cur,hv,hbase,hb,h1,h2,h3,h4⟩
  ·omega
  ·injection hv with e1 e2 e3
   subst e1 e3;have hsl:=srt16_len X;have HSo:=hid (Tryz.slices_Sort_string g 0 c0 X w (holds_of_block hb (by rw [cells_enc];simpa using h4)) (Array.getElem?_eq_some_iff.1 hb).1 (by omega));have HAft:Hid (∀ nn os,(Sort.grow (Sort.putRow encStr (Sort.ahead w nn) g 0 (srt16 X).toArray) os).ownsRow B 9 1 (.slice (some ⟨g,0,none⟩) n c0) n (cellsT (srt16 X))∧w.grownBy (Sort.grow (Sort.putRow encStr (Sort.ahead w nn) g 0 (srt16 X).toArray) os) (some g)):=fun nn os=>by
    have o1:=ownsRow_sorted (w:=w) (n:=nn) (os:=os) (ts:=srt16 X) (ss:=X) hsl hbase hb (by omega) h2 (by simpa using h3)
    have g1:=grownBy_sorted (w:=w) (g:=g) (n:=nn) (os:=os) (srt16 X).toArray;rw [← hn] at o1;exact ⟨o1,g1⟩
   have HCp:=hid (fun (Z:World) (hO:Z.ownsRow B 9 1 (.slice (some ⟨g,0,none⟩) n c0) n (cellsT (srt16 X)))=>(show Calls Tryz.prog 101 #[.slice (some ⟨g,0,none⟩) n c0] Z (IpPost B (.slice (some ⟨g,0,none⟩) n c0) (srtN X) Z) from by
    rcases hO.2 with ⟨_,hn0⟩ | ⟨g2,cap2,cur2,hv2,hbase2,hb2,k1,k2,k3,k4⟩
    ·exact absurd hn0 h0
    ·injection hv2 with e5 e6 e7
     injection e5 with e5
     injection e5 with e5 _ _
     subst e5;subst e7;have hsn:(srt16 X).length=n:=by rw [hsl,hn]
     have hC:=Tryz.slices_Compact_string g 0 c0 (srt16 X) Z (holds_of_block hb2 (by rw [cells_enc,hsn];simpa using k4)) (by omega) (by omega)
     rw [hsn,compact_srt] at hC
     refine hC.mono ?_;rintro e w' ⟨rfl,q,rfl⟩
     have hcl:=srtN_len16 X;have hl2:(srtN X++List.replicate (n - (srtN X).length) []).length=(srt16 X).length:=by rw [List.length_append,List.length_replicate];omega
     have o2:=ownsRow_sorted (w:=Z) (n:=q) (os:= #[]) (ts:=srtN X++List.replicate (n - (srtN X).length) []) (ss:=srt16 X) hl2 hbase2 hb2 (by omega) k2 (by simpa using k3)
     have g2:=grownBy_sorted (w:=Z) (g:=g) (n:=q) (os:= #[]) (srtN X++List.replicate (n - (srtN X).length) []).toArray;rw [grow_none16] at o2 g2;rw [cells_enc,cellsT_app] at o2
     have o3:=own_take19 o2;rw [cellsT_len] at o3;exact ⟨some ⟨g,0,none⟩,c0,rfl,o3,g2,fun g h=>h⟩))
   rw [← hn] at HSo ⊢;clear hown hb h1 h2 h3 h4 hbase hsl hn
   go_enter Tryz.func81,Tryz.ntmps81
   go_wp2_with (go_at_call 100;refine HSo.out.mono ?_;rintro e wz ⟨rfl,nn,os,hwz⟩;have HW:=hid hwz;clear hwz)
   go_wp2_with (go_at_call 101;refine (HCp.out _ (by have:=(HAft.out nn os).1;rw [HW.out];exact this)).mono ?_;rintro e w5 ⟨a5,c5,rfl,ho5,hg5,hs5⟩)
   go_ret
   have hG:=(HAft.out nn os).2;have e9:=HW.out;rw [show (List.mergeSort X fun x y=>decide (x≤y))=srt16 X from rfl] at e9;rw [← e9] at hG;exact ⟨a5,c5,rfl,ho5,grown_t17 hG hg5,hs5⟩

set_option maxHeartbeats 8000000 in
set_option maxRecDepth 100000 in
theorem lowered19_any (v:Value) (P:List (List UInt8)) (w:World) (h:TxAt w v P) (hl:P.length≤1000001) (hs: ∀ x ∈ P,x.length≤140737488351232):
 Calls Tryz.prog 83 #[v] w (TkPost (P.map low) w):=by
 obtain ⟨i0,hi,hz0,hz1,hz2⟩:=info3 infoTx
 obtain ⟨va,vc,rfl,_,_,hcell⟩:=h.view
 have HV:=hid hcell;have HZ:=hid hs;obtain ⟨n,hn⟩: ∃ n,n=P.length:=⟨_,rfl⟩
 have HN:=hid hn;rw [← hn] at hl ⊢;obtain ⟨w0,hm0,ho0,hg0⟩:=run_make_own (P:=Tryz.prog) w w.heap.size 50 9 i0 _ 1 Tryz.underlying50 hi hz0 hz1 .i64 .i64 n (by rw [hz2];omega) (by unfold maxLen;omega) (Nat.le_refl _)
 have HM:=hid ho0;have HB0:=hid (show Below w.heap.size w w0 from (Below.refl _ w).grown hg0 (Nat.le_refl _) (fun k hk=>by cases hk));clear h hcell hs hn ho0 hg0
 go_enter Tryz.func83,Tryz.ntmps83
 go_wp2_with fail
 go_loopw [3,5,11] (fun v3 _ vi wr=> ∃ (k:Nat) (ra:Option Addr) (rc:Nat),k≤n∧vi = .int .i64 k∧v3 = .slice ra k rc∧Hid (wr.ownsRow w.heap.size 9 1 (.slice ra k rc) k (cellsT ((P.map low).take k))∧Below w.heap.size w wr)) (fun _ _ vi _=>n - (intOf vi).toNat)
 case atStart=>exact ⟨0,_,_,Nat.zero_le _,rfl,rfl,HM.out,HB0.out⟩
 case round=>
  obtain ⟨k,ra,rc,hk,rfl,rfl,HR⟩:=hrel
  by_cases hlt:k<n
  ·have hkP:k<P.length:=by have:=HN.out;omega
   have hlt':(k:Int)<(n:Int):=by omega
   obtain ⟨pb,po,rfl,hpc0⟩:=HV.out k hkP
   have hpc:=(HR.out.2.cell (World.block_lt_of_cell? w _ hpc0)).trans hpc0;obtain ⟨X,hX⟩: ∃ X:ByteArray,X=⟨P[k].toArray⟩:=⟨_,rfl⟩
   rw [← hX] at hpc;have hXl:X.data.toList=P[k]:=by rw [hX]
   have hXs:X.size≤140737488351232:=by rw [Lib.size_eq,hXl];exact HZ.out _ (List.getElem_mem hkP)
   have HD:=hid (show (P.map low).take (k+1)=(P.map low).take k++[low X.data.toList] by rw [List.take_succ_eq_append_getElem (by rw [List.length_map];exact hkP),List.getElem_map,hXl]);obtain ⟨M,hM⟩: ∃ B':ByteArray,⟨(low X.data.toList).toArray⟩=B':=⟨_,rfl⟩
   have HM2:=hid (show M.data.toList=low X.data.toList by rw [← hM]);have HLo:Hid (∀ Y:World,Calls Tryz.prog 99 #[.string X] Y fun e w'=>e = .returned (.string M)∧Below Y.heap.size Y w'):=fun Y=>by rw [← hM];exact lower_any X Y hXs
   clear hpc0 hX hXl hM hXs
   go_wp2_with fail
   refine (HLo.out _).mono ?_;rintro e w3 ⟨rfl,hb3⟩
   have HB3:=hid (HR.out.2.trans (hb3.mono HR.out.2.size));have HO3:=hid (own_same HR.out.1 hb3);have hs3:=HB3.out.size;clear hb3 HLo
   go_wp2_with (at_builtin;go_must (refine wpList_append_own _ rfl _ _ 50 rfl w.heap.size 9 i0 (.string ByteArray.empty) 1 16 Tryz.underlying50 hi hz0 hz1 hz2 rfl (by decide) _ _ _ rfl (HO3.out.alloc _) ⟨w3.heap.size,0,none⟩ 1 1 [.string M] rfl rfl ?c1 ?c2 ?c3 ?c4 ?c5 ?_))
   case c1=>
    intro q u hq
    match q,hq with
    | 0,hq=>simp at hq;subst hq;simp [Addr.add]
   case c2=>intro u hu;simp at hu;subst hu;rfl
   case c3=>unfold maxLen;omega
   case c4=>omega
   case c5=>simp;omega
   intro v4 w4 hown4 hgrow4 hnil4;obtain ⟨a4,c4,rfl⟩:=own_sl16 hown4
   have HO4:=hid (show w4.ownsRow w.heap.size 9 1 (.slice a4 (k+1) c4) (k+1) (cellsT ((P.map low).take (k+1))) by
    rw [HD.out,cellsT_app,← HM2.out,cellsT_one];exact hown4)
   have HB4:=hid (show Below w.heap.size w w4 from (HB3.out.alloc hs3 _).grown hgrow4 (by simp;omega) (fun g hg=>(HO3.out.lt g hg).1));clear hown4 hgrow4 hnil4 hs3
   go_wp2
   go_roundw
   case rel=>
    first
     | exact ⟨k+1,a4,c4,by omega,by go_num,rfl,HO4.out,HB4.out⟩
     | ((repeat apply Exists.intro);refine ⟨?_,rfl⟩;exact ⟨k+1,a4,c4,by omega,by go_num,rfl,HO4.out,HB4.out⟩)
     | ((repeat apply Exists.intro);exact ⟨⟨k+1,a4,c4,by omega,by go_num,rfl,HO4.out,HB4.out⟩,rfl⟩)
   case measure=>simp [intOf];omega
  ·obtain rfl:k=n:=by omega
   have HFin:=hid (show wr.ownsRow w.heap.size 9 1 (.slice ra (P.map low).length rc) (P.map low).length (cellsT (P.map low))∧Below w.heap.size w wr by
    have h:=HR.out.1;rw [List.take_of_length_le (by rw [List.length_map];have:=HN.out;omega)] at h;have e:k=(P.map low).length:=by rw [List.length_map];exact HN.out
    rw [← e];exact ⟨h,HR.out.2⟩)
   have HE:=hid (show (P.map low).length=k by rw [List.length_map];exact HN.out.symm);clear HR hlt hk
   go_wp2_with fail
   go_ret
   refine ⟨ra,rc,?_,HFin.out.1,HFin.out.2⟩
   rw [HE.out];rfl

set_option maxHeartbeats 1000000 in
theorem among19_any (a:Option Addr) (n c:Nat) (w:World):
 Calls Tryz.prog 86 #[.slice a n c] w fun e w'=>e = .returned (.func (.func 135) #[] #[.pointer (some ⟨w.heap.size,0,none⟩)])∧w'.heap[w.heap.size]? = some (.cells #[.slice a n c] 50 (0,0))∧Below w.heap.size w w':=by
 have H:=hid (heap_alloc_new w (.cells #[.slice a n c] 50));have HB:=hid ((Below.refl w.heap.size w).alloc (Nat.le_refl _) (.cells #[.slice a n c] 50))
 go_enter Tryz.func86,Tryz.ntmps86
 go_wp2
 go_ret
 exact ⟨rfl,H.out,HB.out⟩

theorem enters_amc: ∀ args w,(callFunc 135 args).run Tryz.prog w = .ok (.enter 135 args) w:=enters_of Tryz.func135 (by kernel_rfl) rfl

theorem srtT_srtN (X:List (List UInt8)):srtT (srtN X)=srtN X:=srt16_srtN X

set_option maxHeartbeats 1000000 in
theorem amongc19_any (b:Nat) (v:Value) (X:List (List UInt8)) (t:ByteArray) (w:World) (hc:w.cell? ⟨b,0,none⟩=some v) (hv:PathAt w v (srtN X)) (hl:(srtN X).length≤1000000):
 Calls Tryz.prog 135 #[.string t,.pointer (some ⟨b,0,none⟩)] w fun e w'=>e = .returned (.bool ((srtN X).contains t.data.toList))∧Below w.heap.size w w':=by
 have HS:=hid (search_any v (srtN X) t w (by rw [srtT_srtN];exact hv) hl);obtain ⟨q,hq⟩: ∃ q,(srtN X).contains t.data.toList=q:=⟨_,rfl⟩
 rw [hq] at HS ⊢;obtain ⟨a,n,c,rfl⟩: ∃ a n c,v = .slice a n c:=by
  rcases hv with ⟨rfl,_⟩ | ⟨b,cap,rfl,_⟩
  ·exact ⟨_,_,_,rfl⟩
  ·exact ⟨_,_,_,rfl⟩
 clear hv hq hl
 go_enter Tryz.func135,Tryz.ntmps135
 go_wp2_with fail
 refine HS.out.mono ?_;rintro e w1 ⟨i,rfl,hb1⟩
 have HB1:=hid hb1;clear hb1
 go_wp2
 go_ret
 exact ⟨rfl,HB1.out⟩

theorem amc_say {w:World} {b:Nat} {v:Value} {X:List (List UInt8)} {B:Nat} (hb:w.heap[b]? = some (.cells #[v] 50 (0,0))) (hv:w.ownsRow B 9 1 v (srtN X).length (cellsT (srtN X))) (hl:(srtN X).length≤1000000):SayAt w 135 #[.pointer (some ⟨b,0,none⟩)] (fun x=>(srtN X).contains x):=fun Y t hY _=>
 amongc19_any b v X t Y (by rw [Lib.cell_of_heap ((hY.block b (Array.getElem?_eq_some_iff.1 hb).1).trans hb)];rfl) (own_path (own_same hv hY)) hl

set_option maxHeartbeats 2000000 in
theorem lasts19_any (v:Value) (L:List Hd) (w:World) (h:HdAt w v L) (hz:Szd 140737488351232 L) (hl:L.length≤1000000) (hb:bulkV L≤1000000):
 Calls Tryz.prog 84 #[v] w fun e w'=>e = .returned (.int .i64 (grA L))∧Below w.heap.size w w':=by
 have HG:=hid (get_any v L ⟨nMA.toArray⟩ w h (by decide) hz hl (by omega));simp only [show (⟨nMA.toArray⟩:ByteArray).data.toList=nMA from rfl] at HG;have htl:=getT_len L nMA;unfold grA;obtain ⟨a0,c0,rfl,_,_,_⟩:=h.view
 generalize getT L nMA=T at HG htl ⊢;obtain ⟨X,rfl⟩: ∃ X:ByteArray,T=X.data.toList:=⟨⟨T.toArray⟩,rfl⟩
 simp only [Lib.mk_data] at HG;have hxs:X.size≤1000000:=by rw [Lib.size_eq];omega
 have HI:=hid (fun w=>int_any X w (by omega));have hr:=intV_range_Efa X.data.toList;unfold ageI;obtain ⟨m,hm⟩: ∃ m,m=intV X.data.toList:=⟨_,rfl⟩
 obtain ⟨q,hq⟩: ∃ q,q=intOk X.data.toList:=⟨_,rfl⟩
 rw [← hm] at HI hr ⊢;rw [← hq] at HI ⊢;have HR:=hid hr;clear h hz hl hb htl hxs hm hq hr
 cases q with
 | false=>
   go_enter Tryz.func84,Tryz.ntmps84
   go_wp2_with fail
   refine HG.out.mono ?_;rintro e w1 ⟨rfl,hb1⟩
   have HB1:=hid hb1;clear hb1
   go_wp2_with fail
   refine (HI.out _).mono ?_;rintro e w2 ⟨rfl,hw2⟩
   rw [← hw2];clear hw2
   go_wp2_with fail
   go_ret
   exact ⟨rfl,HB1.out⟩
 | true=>
   by_cases hmm:m≤7200
   all_goals
    go_enter Tryz.func84,Tryz.ntmps84
    go_wp2_with fail
    refine HG.out.mono ?_;rintro e w1 ⟨rfl,hb1⟩
    have HB1:=hid hb1;clear hb1
    go_wp2_with fail
    refine (HI.out _).mono ?_;rintro e w2 ⟨rfl,hw2⟩
    rw [← hw2];clear hw2
    go_wp2_with fail
    go_ret
    refine ⟨?_,HB1.out⟩
    first | rfl | (simp [Int.min_def,hmm];done) | (simp only [if_true];rw [Int.min_def];split<;>simp_all<;>omega)

end Go.Proofs.YtolioccofbhliaaGreatDoor
