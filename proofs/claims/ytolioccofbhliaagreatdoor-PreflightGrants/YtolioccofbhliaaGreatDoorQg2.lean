/-
  Walks and plain facts that this claim leans on, put together out of 4 texts: Zc, Efe, Ehw, Ejz.
-/
import Derived.Test.YtolioccofbhliaaGreatDoorProg
import Derived.Test.YtolioccofbhliaaGreatDoorQp1
import Derived.Test.YtolioccofbhliaaGreatDoorQp2
import Derived.Test.YtolioccofbhliaaGreatDoorQp3
import Derived.Test.YtolioccofbhliaaGreatDoorQp4
import Derived.Test.YtolioccofbhliaaGreatDoorQp5
import Derived.Test.YtolioccofbhliaaGreatDoorQp6
import Derived.Test.YtolioccofbhliaaGreatDoorQp7
import Derived.Test.YtolioccofbhliaaGreatDoorQp8
import Derived.Test.YtolioccofbhliaaGreatDoorQp9
import Derived.Test.YtolioccofbhliaaGreatDoorQp10
import Derived.Test.YtolioccofbhliaaGreatDoorQp11
import Derived.Test.YtolioccofbhliaaGreatDoorQp12
import Derived.Test.YtolioccofbhliaaGreatDoorQp13
import Derived.Test.YtolioccofbhliaaGreatDoorQp14
import Derived.Test.YtolioccofbhliaaGreatDoorQp15
import Derived.Test.YtolioccofbhliaaGreatDoorQp16
import Derived.Test.YtolioccofbhliaaGreatDoorQp17
import Derived.Test.YtolioccofbhliaaGreatDoorQp18
import Derived.Test.YtolioccofbhliaaGreatDoorQp19
import Derived.Test.YtolioccofbhliaaGreatDoorQp20
import Derived.Test.YtolioccofbhliaaGreatDoorQp21
import Derived.Test.YtolioccofbhliaaGreatDoorQp22
import Derived.Test.YtolioccofbhliaaGreatDoorQp23
import Derived.Test.YtolioccofbhliaaGreatDoorQp24
import Derived.Test.YtolioccofbhliaaGreatDoorQp25
import Derived.Test.YtolioccofbhliaaGreatDoorQp26
import Derived.Test.YtolioccofbhliaaGreatDoorQp27
import Derived.Test.YtolioccofbhliaaGreatDoorQp28
import Derived.Test.YtolioccofbhliaaGreatDoorQg1
import Derived.WalkKit
import Derived.Lib.Strings
import Derived.Lib.UnsafeStr
import Derived.Laws.IdiomStrings
import Derived.Laws.AppendOwn
import Derived.Laws.BitsAllLaws
import Derived.Lib.Bytealg
import Derived.Lib.BufferMore
import Derived.Shelf.Strings.Builder1
import Derived.Shelf.Strings.Builder2
import Derived.Shelf.Strings.OnBuilder
import Derived.Shelf.Strings.Trim
import Derived.Shelf.Small.Utf8
import Derived.Shelf.Small.Bits
import Derived.Shelf.Small.Strs
import Derived.Shelf.Small.Wraps
import Derived.Shelf.Strings.BuilderF
import Derived.Shelf.Strings.BuilderK
import Derived.Shelf.Strings.Builder2Cap
import Derived.Shelf.Strconv.Itoa0
import Derived.Shelf.Strconv.Itoa1
import Derived.Shelf.LaysM
import Derived.Shelf.Strconv.Itoa2
import Derived.Shelf.Strconv.Itoa3
import Derived.Shelf.Strings.Search1
import Derived.Shelf.Strings.Search2
import Derived.Shelf.Strings.Cut
import Derived.Shelf.Strings.Shaped
import Derived.Shelf.Sort.Plain
import Derived.Shelf.Strings.Prefix
import Derived.Shelf.Strings.Runes
import Derived.Shelf.Strings.IndexAny
import Derived.Shelf.Strings.AsciiSet
import Derived.Shelf.Strings.IndexAnyAll
import Derived.Shelf.Unicode.DecodeSlow
import Derived.Shelf.Unicode.DecodeAny
import Derived.Shelf.Unicode.DecodeLast
import Derived.Shelf.Slices.CompactS
import Derived.Shelf.Slices.In.SortNone
import Derived.Ground.SlgnProg
import Derived.Shelf.SlicesE.Compact
import Derived.Ground.SlgfProg
import Derived.Shelf.SlicesE.IndexFunc
import Derived.Shelf.SlicesE.DeleteFunc
import Derived.WalkSpells
import Derived.WalkLawsBesides
import Derived.Lib.SlTrimSet
import Derived.Lib.Join
import Derived.Lib.IndexMore
import Derived.Laws.OwnMore
import Derived.Below
import Derived.WalkSmall
import Derived.Lib.SmallJoins
import Derived.Deep.QuietTactic
import Derived.BigQuiet
import Derived.Deep.LoopGhost
import Derived.Deep.MidRow
import Derived.Shelf.Strings.SlTrimAscii
import Derived.Deep.CutRange
import Derived.Laws.Rows
import Derived.Laws.CopyOwn
import Derived.Laws.MakeOwn
import Derived.Laws.RangeAny
import Derived.Lib.DecodeN
import Derived.Lib.OthersKept
import Derived.RegionTactic
import Derived.Deep.RegionWith
import Derived.Laws.Runes
import Derived.Deep.WholeRow
import Derived.Deep.RegionLaw
import Derived.Deep.RegionHeldLaw
import Derived.BigRegion
import Derived.Deep.RegionHeld
import Derived.Lib.IndexAny
import Derived.Lib.BufferRead
import Derived.Lib.RuneBytes
import Derived.Maps.OwnSet
import Derived.Maps.OwnOps
import Derived.Maps.AppendAt
import Derived.StringKeys
import Derived.LoopN
import Derived.Lib.FieldsP
import Derived.Laws.ResultCell
import Derived.Lib.LaidTab
import Derived.Lib.AppendIntMem
import Derived.Lib.FrozenHead2
import Derived.Lib.Builder
import Derived.Lib.AppendStr
import Derived.Lib.Replace
import Derived.Shelf.GgClosure.GivesRunes
import Derived.Laws.BitsAll
import Derived.Laws.Shifts
import Derived.Deep.DeepAppendRoom
import Derived.Laws.BytesString
import Derived.Laws.CopyRow
import Derived.Sort.OwnSorted
import Derived.Lib.SlicesCompact
import Derived.Laws.AppendOwnNone
import Derived.Lib.SliceRun
import Derived.Sort.KeysCollected
import Derived.Lib.Case
import Derived.Deep.Cut
import Derived.Lib.LastIndexByte
import Derived.OwnWalk
import Derived.Scope
import Derived.ScopeJumps
import Derived.WalkMore
import Derived.Lib.TrimByte
import Derived.Lib.ItoaNum
import Derived.Shelf.Spec.SearchS
import Derived.Sort.Walk0
set_option linter.unusedSimpArgs false
set_option linter.unusedVariables false

namespace Go.Proofs.YtolioccofbhliaaGreatDoor
open Go.RowKit

def fewHd (m:Nat) (h:Hd):Hd:=⟨h.name.take m,h.value.take m⟩

def fewH (L:List Hd) (n m:Nat):List Hd:=(L.take n).map (fewHd m)

theorem fewH_len (L:List Hd) (n m:Nat):(fewH L n m).length≤n:=by simp [fewH];omega

theorem fewH_szd (L:List Hd) (n m:Nat):Szd m (fewH L n m):=fun h hh=>by
 unfold fewH at hh;obtain ⟨a,_,rfl⟩:=List.mem_map.1 hh
 simp [fewHd];omega

set_option maxHeartbeats 2000000 in
set_option maxRecDepth 100000 in
theorem fewHeaders_any (v:Value) (L:List Hd) (n m:Nat) (w:World) (h:HdAt w v L) (hz:Szd maxLen L) (hn:n≤1000) (hm:m≤1000):
 Calls Tryz.prog 11 #[v,.int .i64 n,.int .i64 m] w (HdPost (fewH L n m) w):=by
 obtain ⟨i0,hi,hz0,hz1,hz2⟩:=info3 infoHd
 obtain ⟨a1,c1,rfl,hc1,hm1,hv1⟩:=h.view
 have V1:=hid hv1;have HZ:=hid hz;clear h hv1 hz
 go_enter Tryz.func11,Tryz.ntmps11
 go_wp2
 go_loopw [7,8] (fun vv i wr=> ∃ k:Nat,k≤L.length∧k≤n∧i = .int .i64 k∧wr.ownsRow w.heap.size 45 2 vv k (cellsH (fewH L k m))∧Below w.heap.size w wr)
  (fun _ i _=>L.length - (intOf i).toNat)
 case atStart=>exact ⟨0,Nat.zero_le _,Nat.zero_le _,rfl,World.ownsRow_nil _ _ _ _,Below.refl _ _⟩
 case round=>
  obtain ⟨k,hk,hkn,rfl,hown,hbw⟩:=hrel
  have HO:=hid hown;have hwr:=hbw.size;clear hown;by_cases hlt:k<L.length
  ·have hlt':(k:Int)<(L.length:Int):=by omega
   by_cases hltn:k<n
   ·have hltn':(k:Int)<(n:Int):=by omega
    obtain ⟨b1,o1,rfl,e1,e2⟩:=V1.out k hlt
    have f1:wr.cell? ⟨b1,o1+k*2,none⟩=some (.string ⟨L[k].name.toArray⟩):=(hbw.cell (World.block_lt_of_cell? w _ e1)).trans e1
    have f2:wr.cell? ⟨b1,o1+k*2+1,none⟩=some (.string ⟨L[k].value.toArray⟩):=(hbw.cell (World.block_lt_of_cell? w _ e2)).trans e2
    obtain ⟨nm,hnm⟩: ∃ x:ByteArray,x=⟨L[k].name.toArray⟩:=⟨_,rfl⟩
    obtain ⟨vl,hvl⟩: ∃ x:ByteArray,x=⟨L[k].value.toArray⟩:=⟨_,rfl⟩
    rw [← hnm] at f1 e1;rw [← hvl] at f2 e2;have hs1:nm.size≤9223372036854775807:=by rw [hnm,xsize];exact (HZ.out _ (List.getElem_mem hlt)).1
    have hs2:vl.size≤9223372036854775807:=by rw [hvl,xsize];exact (HZ.out _ (List.getElem_mem hlt)).2
    obtain ⟨nm',hnm'⟩: ∃ x:ByteArray,x=⟨(nm.data.toList.take m).toArray⟩:=⟨_,rfl⟩
    obtain ⟨vl',hvl'⟩: ∃ x:ByteArray,x=⟨(vl.data.toList.take m).toArray⟩:=⟨_,rfl⟩
    have HF1:=hid hnm';have HF2:=hid hvl';have HS:=hid (show cellsH (fewH L (k+1) m)=cellsH (fewH L k m)++[.string nm',.string vl'] by
     unfold fewH;rw [List.take_add_one,List.getElem?_eq_getElem hlt,List.map_append,cellsH_app]
     congr 1
     rw [hnm',hvl',hnm,hvl];rfl)
    have hblk2:b1<w.heap.size:=World.block_lt_of_cell? w _ e1;have HK:=hid (fun (X:World) (hX:Below w.heap.size w X)=>(⟨hX,(hX.cell hblk2).trans e1,(hX.cell hblk2).trans e2⟩:Below w.heap.size w X∧X.cell? ⟨b1,o1+k*2,none⟩=some (.string nm)∧X.cell? ⟨b1,o1+k*2+1,none⟩=some (.string vl)));have hbD:Below w.heap.size w wr.drew:=hbw.drew;clear e1 e2 hblk2;clear hnm hvl hnm' hvl'
    go_wp2
    go_region_held_law (fun wx=>Below w.heap.size w wx∧wx.cell? ⟨b1,o1+k*2,none⟩=some (.string nm)∧wx.cell? ⟨b1,o1+k*2+1,none⟩=some (.string vl))
     (first | exact HK.out _ hbD | exact HK.out _ (by assumption) | (go_split_ands;exact HK.out _ (by assumption)) | (go_split_ands;exact HK.out _ (belowA (by assumption) _)))
     (first
       | (go_at_call 39;refine (xfew_any _ m _ (by omega) (by assumption)).mono ?_;rintro e w' ⟨rfl,rfl⟩;first | rw [← HF1.out] | rw [← HF2.out])
       | (refine xstep_append_own rfl (.tmp 20) (.tmp 36) 27 rfl w.heap.size 45 i0 _ 2 32 Tryz.underlying27 hi hz0 hz1 hz2 rfl (by decide) u7 k (cellsH (fewH L k m)) rfl (by exact HO.out.alloc _) ⟨wr.heap.size,0,none⟩ 1 1 [.string nm',.string vl'] rfl rfl (by intro j u hj;match j,hj with | 0,hj=>(simp at hj;subst hj;simp [Addr.add]) | 1,hj=>(simp at hj;subst hj;simp [Addr.add])) (by intro u hu;simp at hu;rcases hu with rfl | rfl<;>rfl) (by unfold maxLen;omega) (by omega) (by simp;omega) ?_;intro v6 w6 hown6 hgrow6 hnil6;have hbW6:Below w.heap.size w w6:=(belowA hbD _).grown hgrow6 (by simp;omega) (fun g hg=>(HO.out.lt g hg).1)))
    all_goals
     (try dsimp only at *)
     go_wp2
     go_roundw
     case rel=>
      refine ⟨k+1,by omega,by omega,by go_num,?_,hbW6⟩;rw [HS.out]
      first | exact hown6 | simpa using hown6
     case measure=>simp [intOf];omega
   ·have hltn':decide ((k:Int)<(n:Int))=false:=by rw [decide_eq_false_iff_not];omega
    have hke:k=n:=by omega
    subst hke;have hlen:(fewH L k m).length=k:=by simp [fewH];omega
    have HR:=hid (show wr.ownsRow w.heap.size 45 2 u7 (fewH L k m).length (cellsH (fewH L k m)) by rw [hlen];exact HO.out);clear hlen
    go_wp2
    go_ret
    exact ⟨_,rfl,HR.out,hbw⟩
  ·have hke:k=L.length:=by omega
   subst hke;have hlt':decide ((L.length:Int)<(L.length:Int))=false:=by rw [decide_eq_false_iff_not];omega
   have hef:fewH L L.length m=fewH L n m:=by
    unfold fewH;rw [List.take_length,List.take_of_length_le hkn]
   have hlen:(fewH L n m).length=L.length:=by rw [← hef];simp [fewH]
   have HR:=hid (show wr.ownsRow w.heap.size 45 2 u7 (fewH L n m).length (cellsH (fewH L n m)) by rw [hlen,← hef];exact HO.out);clear hlen hef
   go_wp2
   go_ret
   exact ⟨_,rfl,HR.out,hbw⟩

end Go.Proofs.YtolioccofbhliaaGreatDoor

namespace Go.Proofs.YtolioccofbhliaaGreatDoor
open Go.RowKit

theorem TxAt.take16 {w:World} {a:Option Addr} {n c:Nat} {L:List (List UInt8)} (h:TxAt w (.slice a n c) L) (k:Nat) (hk:k≤L.length):TxAt w (.slice a k c) (L.take k):=by
 obtain ⟨a',c',e,h1,h2,h3⟩:=h.view
 injection e with e1 e2 e3
 subst e1 e3;refine ⟨a,c,by rw [List.length_take,Nat.min_eq_left hk],by rw [List.length_take];omega,h2,fun j hj=> ?_⟩
 have hj2:j<L.length:=by rw [List.length_take] at hj;omega
 obtain ⟨b,off,e4,e5⟩:=h3 j hj2
 exact ⟨b,off,e4,by rw [List.getElem_take];exact e5⟩

end Go.Proofs.YtolioccofbhliaaGreatDoor

namespace Go.Proofs.YtolioccofbhliaaGreatDoor
open Go.RowKit

set_option maxHeartbeats 400000 in
theorem fewBytes_any_Ehw (a:Option Addr) (len cap n:Nat) (l:List UInt8) (w:World) (hl:l.length=len) (hS:SlB_Cb w (.slice a len cap) l) (hc:len≤cap) (hm:cap≤maxLen) (hn:n≤9223372036854775807):
 Calls Tryz.prog 45 #[.slice a len cap,.int .i64 n] w fun e w'=> ∃ len',len'=(l.take n).length∧len'≤cap∧e = .returned (.slice a len' cap)∧SlB_Cb w (.slice a len' cap) (l.take n)∧w=w':=by
 unfold maxLen at hm;by_cases h:n<len
 ·have h':(n:Int)<(len:Int):=by omega
  go_enter Tryz.func45,Tryz.ntmps45
  go_wp2
  go_ret
  exact ⟨n,by simp;omega,by omega,rfl,hS.take n (by omega),rfl⟩
 ·have h':(len:Int)≤(n:Int):=by omega
  go_enter Tryz.func45,Tryz.ntmps45
  go_wp2
  go_ret
  have e:l.take n=l:=List.take_of_length_le (by omega)
  rw [e];exact ⟨len,hl.symm,hc,rfl,hS,rfl⟩

end Go.Proofs.YtolioccofbhliaaGreatDoor

namespace Go.Proofs.YtolioccofbhliaaGreatDoor
open Go.RowKit

theorem step_append_own19 {P:Program} {ops:Array Oper} {o:Oper} {a:Act} {w:World} {K:Act→World→Prop} {Q:Exit→Act→World→Prop} {E:Prop} (hgd:o.guard=none) (s x:Operand) (t:TypeId)
 (ho:o.op = .call { callee:= .builtin .append,args:= #[s,x],argTypes:= #[t,t] })
 (base:Nat) (e:TypeId) (i:TypeInfo) (z:Value) (size bytes:Nat) (ht:P.underlying t=some (.slice e)) (hi:P.info? e=some i) (hz:i.zero=some z)
 (hsize:i.size=size) (hby:i.bytes=bytes) (hzs:z.cells.size=size) (hsz:0<size)
 (v:Value) (n:Nat) (xs:List Value) (hs:a.eval s=v) (hown:w.ownsRow base e size v n xs)
 (ad:Addr) (m c:Nat) (news:List Value) (hx:a.eval x = .slice (some ad) m c) (hl:news.length=m*size) (hnews: ∀ j u,news[j]? = some u→w.cell? (ad.add j)=some u) (h1: ∀ u ∈ news,u.oneCell'=true)
 (h63:n+m≤maxLen) (hbytes:(n+m)*bytes≤140737488355328) (hbase:base≤w.heap.size)
 (h: ∀ v' w',w'.ownsRow base e size v' (n+m) (xs++news)→w.grownBy w' v.ownBlock→(v' = .slice none 0 0 ↔ v = .slice none 0 0∧m=0)→K (a.put o.dst v') w'):
 if Region.wanted o (yielded ops a.tmps)=true then Oper.wp P o a w K Q else E:=by
 rw [if_pos (by simp [Region.wanted,hgd])];exact wp_append_own w s x t ho base e i z size bytes ht hi hz hsize hby hzs hsz v n xs hs hown ad m c news hx hl hnews h1 h63 hbytes hbase h

theorem own_mt19 (w:World) (T:TypeId) (k:Nat):(w.alloc (.cells #[] T)).ownsRow w.heap.size T k (.slice (some ⟨w.heap.size,0,none⟩) 0 0) 0 []:=
 ⟨by simp,.inr ⟨w.heap.size,0,#[],rfl,Nat.le_refl _,heap_alloc_new w _,Nat.le_refl _,Nat.zero_le _,by simp,by simp⟩⟩

theorem own_sl19 {w:World} {B k n:Nat} {e:TypeId} {v:Value} {xs:List Value} (h:w.ownsRow B e k v n xs): ∃ a c,v = .slice a n c:=by
 rcases h.2 with ⟨rfl,rfl⟩ | ⟨g,cap,cur,rfl,_⟩
 ·exact ⟨none,0,rfl⟩
 ·exact ⟨_,cap,rfl⟩

theorem below_own19 {B base e k n:Nat} {w0 W W':World} {v:Value} {xs:List Value} (h:W.ownsRow base e k v n xs) (hg:W.grownBy W' v.ownBlock) (hB:B≤base) (hs:B≤W.heap.size) (h0:Below B w0 W):Below B w0 W':=
 h0.trans ⟨hg.os,hg.tape,hg.output,hg.size,fun j hj=>hg.block j (Nat.lt_of_lt_of_le hj hs) (fun e=>by have:=(h.lt j e.symm).1;omega)⟩

theorem own_grown19 {B B' n m:Nat} {W W':World} {v u:Value} {X Y:List Value} (h:W.ownsRow B 45 2 v n X) (h2:W.ownsRow B' 5 1 u m Y) (hg:W.grownBy W' u.ownBlock):W'.ownsRow B 45 2 v n X:=
 ownsRow_same h (fun g hgv=>hg.block g (h.lt g hgv).2 (fun e=>by
  obtain ⟨c1,h1⟩:=ownsRow_kind h g hgv
  obtain ⟨c2,h3⟩:=ownsRow_kind h2 g e.symm
  rw [h1] at h3;injection h3 with h3
  injection h3 with _ h3 _
  exact absurd h3 (by decide)))

theorem set3_19 {w:World} {g:Nat} {x0 x1 x2 a b c:Value} {T:TypeId} {f:Nat×Nat} (h:w.heap[g]? = some (.cells #[x0,x1,x2] T f)):(((w.setCell ⟨g,0,none⟩ a).setCell ⟨g,1,none⟩ b).setCell ⟨g,2,none⟩ c).heap[g]? = some (.cells #[a,b,c] T f):=by
 have h1:=Lib.heap_setCell_same h (i:=0) a;have h2:=Lib.heap_setCell_same h1 (i:=1) b;exact Lib.heap_setCell_same h2 (i:=2) c

theorem far3_19 {w:World} {g k:Nat} (hne:k≠g) (a b c:Value):(((w.setCell ⟨g,0,none⟩ a).setCell ⟨g,1,none⟩ b).setCell ⟨g,2,none⟩ c).heap[k]? = w.heap[k]? :=by
 rw [heap_setCell_other _ _ _ _ hne,heap_setCell_other _ _ _ _ hne,heap_setCell_other _ _ _ _ hne]

theorem below3_19 {B g:Nat} {w0 w:World} (h:Below B w0 w) (hg:B≤g) (a b c:Value):Below B w0 (((w.setCell ⟨g,0,none⟩ a).setCell ⟨g,1,none⟩ b).setCell ⟨g,2,none⟩ c):=
 ((h.setCell (p:=⟨g,0,none⟩) hg _).setCell (p:=⟨g,1,none⟩) hg _).setCell (p:=⟨g,2,none⟩) hg _

theorem infoBy19:(Tryz.prog.info? 5).map (fun i=>(i.zero,i.size,i.bytes))=some (some (.int .u8 0),1,1):=by kernel_rfl

theorem results_rp19 {fn:Func} {p:Tmp} (h:fn.results = #[.cell p 30]) (tmps:Array Value) (w:World) (b:Nat) (cs:List Value) (hl:cs.length=3) (hp:tmps.getD p undef = .pointer (some ⟨b,0,none⟩)) (hc:w.rangeAt b 0 cs):(results fn tmps).run Tryz.prog w = .ok (.agg cs.toArray) w:=by
 rw [Array.getD_eq_getD_getElem?] at hp;simp only [results,h]
 simp [Sem.run_bind,Result.andThen,hp,asAddr,run_loadVar_mid w b 0 30 cs _ hc Tryz.underlying30 rfl (by rw [hl];exact sizeRp19)]

set_option maxHeartbeats 40000000 in
set_option maxRecDepth 100000 in
theorem reply19_any (st:Int) (vH:Value) (L:List Hd) (ba:Option Addr) (bn bc:Nat) (bl:List UInt8) (w:World) (hv:HdAt w vH L) (hz:Szd maxLen L) (hl:bl.length=bn) (hB:SlB_Cb w (.slice ba bn bc) bl) (hc:bn≤bc) (hm:bc≤maxLen):
 Calls Tryz.prog 12 #[.agg #[.int .i64 st,vH,.slice ba bn bc]] w fun e w'=> ∃ va vn vc da dn dc,e = .returned (.agg #[.int .i64 st,.slice va vn vc,.slice da dn dc])∧HdAt w' (.slice va vn vc) (fewH L 12 200)∧Below w.heap.size w w':=by
 obtain ⟨va,vc,rfl,_,_,_⟩:=hv.view
 obtain ⟨vn,hvn⟩: ∃ n,n=L.length:=⟨_,rfl⟩
 rw [← hvn] at hv ⊢;obtain ⟨i0,hi,hz0,hz1,hz2⟩:=info3 infoBy19
 obtain ⟨W1,hW1⟩: ∃ X,w.alloc (.cells #[.int .i64 st,.slice va vn vc,.slice ba bn bc] 30)=X:=⟨_,rfl⟩
 obtain ⟨V,hV⟩: ∃ X,W1.alloc (.cells #[.int .i64 0,.slice none 0 0,.slice none 0 0] 30)=X:=⟨_,rfl⟩
 have hb1:Below w.heap.size w W1:=by rw [← hW1];exact (Below.refl _ w).alloc (Nat.le_refl _) _
 have hb2:Below W1.heap.size W1 V:=by rw [← hV];exact (Below.refl _ W1).alloc (Nat.le_refl _) _
 have x1:W1.heap[w.heap.size]? = some (.cells #[.int .i64 st,.slice va vn vc,.slice ba bn bc] 30 (0,0)):=by rw [← hW1];exact heap_alloc_new w _
 have x2:V.heap[W1.heap.size]? = some (.cells #[.int .i64 0,.slice none 0 0,.slice none 0 0] 30 (0,0)):=by rw [← hV];exact heap_alloc_new W1 _
 have hbV:=below2 hb1 hb2;have HX2:=hid x2;have HL1:=hid (show W1.heap.size<V.heap.size from (Array.getElem?_eq_some_iff.1 x2).1);have HS:=hid (fun (Y:World) (hY:Below V.heap.size V Y)=>below2 hb2 hY);have HSw:=hid (fun (Y:World) (hY:Below W1.heap.size W1 Y)=>below2 hb1 hY);have HBx:=hid (fun (Y:World) (hY:Below W1.heap.size W1 Y)=>(by
  have hq:=(hY.block _ (Array.getElem?_eq_some_iff.1 x1).1).trans x1;exact ⟨by rw [Lib.cell_of_heap hq];rfl,by rw [Lib.cell_of_heap hq];rfl,by rw [Lib.cell_of_heap hq];rfl⟩:Y.cell? ⟨w.heap.size,0,none⟩=some (.int .i64 st)∧Y.cell? ⟨w.heap.size,1,none⟩=some (.slice va vn vc)∧Y.cell? ⟨w.heap.size,2,none⟩=some (.slice ba bn bc)))
 obtain ⟨LF,hLF⟩: ∃ X,X=fewH L 12 200:=⟨_,rfl⟩
 obtain ⟨nb,hnb⟩: ∃ n,n=(bl.take 300).length:=⟨_,rfl⟩
 have hnb3:nb≤300:=by rw [hnb,List.length_take];omega
 have HFw:=hid (fun (Y:World) (hY:Below V.heap.size V Y)=>fewHeaders_any (.slice va vn vc) L 12 200 Y (hv.kept (below2 hbV hY)) hz (by decide) (by decide));have HFb:Hid (∀ Y:World,Below V.heap.size V Y→Calls Tryz.prog 45 #[.slice ba bn bc,.int .i64 300] Y fun e w'=>e = .returned (.slice ba nb bc)∧Y=w'):=fun Y hY=>(fewBytes_any_Ehw ba bn bc 300 bl Y hl (hB.kept (below2 hbV hY)) hc hm (by decide)).mono (by
  rintro e w' ⟨len',h1,h2,h3,h4,h5⟩
  rw [← hnb] at h1;subst h1;exact ⟨h3,h5⟩)
 rw [← hLF] at HFw ⊢;unfold HdPost at HFw;have HQ0:=hid (show Below V.heap.size V V.drew from (Below.refl _ V).drew)
 cases ba with
 | none=>
   have hbn:nb=0:=by
    rcases hB with ⟨c,e,rfl⟩ | ⟨x,cap,e,_⟩
    ·rw [hnb];rfl
    ·cases e
   subst hbn;clear hv hz hl hB hc hm hvn hb1 hb2 x1 x2 hbV hLF hnb hnb3
   go_enter Tryz.func12,Tryz.ntmps12
   go_upto_region 1 with fail
   refine wp_region_held_drew (S:=(fun wx=>Below W1.heap.size W1 wx)) (by kernel_rfl) (HS.out _ HQ0.out) (fun hHeld=> ?_)
   generalize V.drew=W0 at HQ0 hHeld ⊢;refine wpAnyH_to (fuel':=12) (listed':= #[false,false,false,false,false,false,false,false,false,false,false,false]) rfl rfl ?_
   refine' wpAnyH_take (i:=0) (oi:=⟨some 3,_,_,_,_,_⟩) (v:=_) rfl (by kernel_rfl) (by kernel_rfl) (by kernel_rfl) (fun _ _ _ h=>h) (Or.inl ⟨by kernel_rfl,?hyyn1⟩) (by assumption) ?restyn1
   case hyyn1=>(intro wx hSw;(try dsimp only at hSw);obtain ⟨q0,q1,q2⟩:=HBx.out _ hSw;go_simp;first | done | with_reducible rfl)
   (try simp only [Act.put,List.setIfInBounds_toArray,List.set_cons_zero,List.set_cons_succ])
   refine' wpAnyH_take (i:=1) (oi:=⟨some 4,_,_,_,_,_⟩) (v:=_) rfl (by kernel_rfl) (by kernel_rfl) (by kernel_rfl) (fun _ _ _ h=>h) (Or.inl ⟨by kernel_rfl,?hyyn2⟩) (by assumption) ?restyn2
   case hyyn2=>(intro wx hSw;(try dsimp only at hSw);obtain ⟨q0,q1,q2⟩:=HBx.out _ hSw;go_simp;first | done | with_reducible rfl)
   (try simp only [Act.put,List.setIfInBounds_toArray,List.set_cons_zero,List.set_cons_succ])
   refine' wpAnyH_take (i:=2) (oi:=⟨some 5,_,_,_,_,_⟩) (v:=_) rfl (by kernel_rfl) (by kernel_rfl) (by kernel_rfl) (fun _ _ _ h=>h) (Or.inl ⟨by kernel_rfl,?hyyn3⟩) (by assumption) ?restyn3
   case hyyn3=>(intro wx hSw;(try dsimp only at hSw);obtain ⟨q0,q1,q2⟩:=HBx.out _ hSw;go_simp;first | done | with_reducible rfl)
   (try simp only [Act.put,List.setIfInBounds_toArray,List.set_cons_zero,List.set_cons_succ])
   refine' wpAnyH_take (i:=3) (oi:=⟨some 6,_,_,_,_,_⟩) (v:=_) rfl (by kernel_rfl) (by kernel_rfl) (by kernel_rfl) (fun _ _ _ h=>h) (Or.inl ⟨by kernel_rfl,?hyyn4⟩) (by assumption) ?restyn4
   case hyyn4=>(intro wx hSw;(try dsimp only at hSw);obtain ⟨q0,q1,q2⟩:=HBx.out _ hSw;go_simp;first | done | with_reducible rfl)
   (try simp only [Act.put,List.setIfInBounds_toArray,List.set_cons_zero,List.set_cons_succ])
   refine' wpAnyH_take (i:=6) (oi:=⟨some 9,_,_,_,_,_⟩) (v:=_) rfl (by kernel_rfl) (by kernel_rfl) (by kernel_rfl) (fun _ _ _ h=>h) (Or.inl ⟨by kernel_rfl,?hyyn5⟩) (by assumption) ?restyn5
   case hyyn5=>(intro wx hSw;(try dsimp only at hSw);obtain ⟨q0,q1,q2⟩:=HBx.out _ hSw;go_simp;first | done | with_reducible rfl)
   (try simp only [Act.put,List.setIfInBounds_toArray,List.set_cons_zero,List.set_cons_succ])
   refine' wpAnyH_take (i:=7) (oi:=⟨some 10,_,_,_,_,_⟩) (v:=_) rfl (by kernel_rfl) (by kernel_rfl) (by kernel_rfl) (fun _ _ _ h=>h) (Or.inl ⟨by kernel_rfl,?hyyn6⟩) (by assumption) ?restyn6
   case hyyn6=>(intro wx hSw;(try dsimp only at hSw);obtain ⟨q0,q1,q2⟩:=HBx.out _ hSw;go_simp;first | done | with_reducible rfl)
   (try simp only [Act.put,List.setIfInBounds_toArray,List.set_cons_zero,List.set_cons_succ])
   refine wpAnyH_ready (rs:=[4,5]) (by kernel_rfl) (by simp) ?_
   refine AllReadyH.cons rfl (fun K9 hK=> ?_) (AllReadyH.cons rfl (fun K9 hK=> ?_) AllReadyH.nil)
   ·as_aux_lemma=>
     rw [if_pos (by kernel_rfl)]
     go_simp
     go_wp2_with (go_at_call 11;refine (HFw.out _ HQ0.out).mono ?_;rintro e w1 ⟨v1,rfl,ho1,hb1⟩)
     obtain ⟨ah,ch,rfl⟩:=own_sl19 ho1
     have HQ1:=hid (below2 HQ0.out hb1);have HH1:=hid (own_base19 ho1 HQ0.out.size);clear ho1 hb1;refine hK.out _ _ (HS.out _ HQ1.out) (fun hHeld2=> ?_);clear hK K9 hHeld
     rename _=>hHeld
     refine wpAnyH_ready (rs:=[5,8]) (by kernel_rfl) (by simp) ?_
     refine AllReadyH.cons rfl (fun K9 hK=> ?_) (AllReadyH.cons rfl (fun K9 hK=> ?_) AllReadyH.nil)
     ·as_aux_lemma=>
       rw [if_pos (by kernel_rfl)]
       go_simp
       have hb2:Below w1.heap.size w1 (w1.alloc (.cells #[] 5)):=(Below.refl _ w1).alloc (Nat.le_refl _) _;have ho2:=own_mt19 w1 5 1;generalize (w1.alloc (.cells #[] 5))=w2 at hb2 ho2 ⊢;have HQ2:=hid (below2 HQ1.out hb2);have HB2:=hid (own_base19 ho2 HQ1.out.size);have HH2:=hid (own_same HH1.out hb2);clear ho2 hb2;refine hK.out _ _ (HS.out _ HQ2.out) (fun hHeld2=> ?_);clear hK K9 hHeld
       rename _=>hHeld
       refine wpAnyH_ready (rs:=[8]) (by kernel_rfl) (by simp) ?_
       refine AllReadyH.cons rfl (fun K9 hK=> ?_) AllReadyH.nil;rw [if_pos (by kernel_rfl)]
       go_simp
       go_wp2_with (go_at_call 45;refine (HFb.out _ HQ2.out).mono ?_;rintro e w3 ⟨rfl,rfl⟩)
       refine hK.out _ _ (HS.out _ HQ2.out) (fun hHeld2=> ?_);clear hK K9 hHeld
       rename _=>hHeld
       refine wpAnyH_ready (rs:=[9]) (by kernel_rfl) (by simp) ?_
       refine AllReadyH.cons rfl (fun K9 hK=> ?_) AllReadyH.nil;rw [if_pos (by kernel_rfl)]
       go_simp
       refine hK.out _ _ (HS.out _ HQ2.out) (fun hHeld2=> ?_);clear hK K9 hHeld
       rename _=>hHeld
       refine' wpAnyH_take (i:=10) (oi:=⟨some 13,_,_,_,_,_⟩) (v:=_) rfl (by kernel_rfl) (by kernel_rfl) (by kernel_rfl) (fun _ _ _ h=>h) (Or.inl ⟨by kernel_rfl,?hyyn7⟩) (by assumption) ?restyn7
       case hyyn7=>(intro wx hSw;(try dsimp only at hSw);obtain ⟨q0,q1,q2⟩:=HBx.out _ hSw;go_simp;first | done | with_reducible rfl)
       (try simp only [Act.put,List.setIfInBounds_toArray,List.set_cons_zero,List.set_cons_succ])
       have hx5:=(HQ2.out.block _ HL1.out).trans HX2.out;have HX5:=hid hx5;have d0:w2.cell? ⟨W1.heap.size,0,none⟩=some (.int .i64 0):=by rw [Lib.cell_of_heap hx5];rfl
       have f0:w2.frozen? ⟨W1.heap.size,0,none⟩=false:=Lib.frozen_of_heap hx5 0
       have d1:w2.cell? ⟨W1.heap.size,1,none⟩=some (.slice none 0 0):=by rw [Lib.cell_of_heap hx5];rfl
       have f1:w2.frozen? ⟨W1.heap.size,1,none⟩=false:=Lib.frozen_of_heap hx5 1
       have d2:w2.cell? ⟨W1.heap.size,2,none⟩=some (.slice none 0 0):=by rw [Lib.cell_of_heap hx5];rfl
       have f2:w2.frozen? ⟨W1.heap.size,2,none⟩=false:=Lib.frozen_of_heap hx5 2
       clear hx5;refine wpAnyH_ready (rs:=[11]) (by kernel_rfl) (by simp) ?_
       refine AllReadyH.cons rfl (fun K9 hK=> ?_) AllReadyH.nil;rw [if_pos (by kernel_rfl)]
       go_simp
       go_wp2_with fail
       refine hK.out _ _ (below3_19 (HS.out _ HQ2.out) (Nat.le_refl _) _ _ _) (fun hHeld2=> ?_);clear hK K9 hHeld
       rename _=>hHeld
       refine wpAnyH_done (by kernel_rfl) ?_ _
       go_wp2_with fail
       refine bodyPost_ret (results_rp19 rfl _ _ W1.heap.size [_,_,_] rfl rfl (range_row_Cb (set3_19 HX5.out))) rfl ?_;refine ⟨_,_,_,_,_,_,rfl,own_hd (ownsRow_same HH2.out (fun g hg=>far3_19 (fun e=>by have:=(HH2.out.lt g hg).1;have:=HL1.out;omega) _ _ _)),HSw.out _ (below3_19 (HS.out _ HQ2.out) (Nat.le_refl _) _ _ _)⟩
     ·as_aux_lemma=>
       rw [if_pos (by kernel_rfl)]
       go_simp
       go_wp2_with (go_at_call 45;refine (HFb.out _ HQ1.out).mono ?_;rintro e w6 ⟨rfl,rfl⟩)
       refine hK.out _ _ (HS.out _ HQ1.out) (fun hHeld2=> ?_);clear hK K9 hHeld
       rename _=>hHeld
       refine wpAnyH_ready (rs:=[5]) (by kernel_rfl) (by simp) ?_
       refine AllReadyH.cons rfl (fun K9 hK=> ?_) AllReadyH.nil;rw [if_pos (by kernel_rfl)]
       go_simp
       have hb7:Below w1.heap.size w1 (w1.alloc (.cells #[] 5)):=(Below.refl _ w1).alloc (Nat.le_refl _) _;have ho7:=own_mt19 w1 5 1;generalize (w1.alloc (.cells #[] 5))=w7 at hb7 ho7 ⊢;have HQ7:=hid (below2 HQ1.out hb7);have HB7:=hid (own_base19 ho7 HQ1.out.size);have HH7:=hid (own_same HH1.out hb7);clear ho7 hb7;refine hK.out _ _ (HS.out _ HQ7.out) (fun hHeld2=> ?_);clear hK K9 hHeld
       rename _=>hHeld
       refine wpAnyH_ready (rs:=[9]) (by kernel_rfl) (by simp) ?_
       refine AllReadyH.cons rfl (fun K9 hK=> ?_) AllReadyH.nil;rw [if_pos (by kernel_rfl)]
       go_simp
       refine hK.out _ _ (HS.out _ HQ7.out) (fun hHeld2=> ?_);clear hK K9 hHeld
       rename _=>hHeld
       refine' wpAnyH_take (i:=10) (oi:=⟨some 13,_,_,_,_,_⟩) (v:=_) rfl (by kernel_rfl) (by kernel_rfl) (by kernel_rfl) (fun _ _ _ h=>h) (Or.inl ⟨by kernel_rfl,?hyyn8⟩) (by assumption) ?restyn8
       case hyyn8=>(intro wx hSw;(try dsimp only at hSw);obtain ⟨q0,q1,q2⟩:=HBx.out _ hSw;go_simp;first | done | with_reducible rfl)
       (try simp only [Act.put,List.setIfInBounds_toArray,List.set_cons_zero,List.set_cons_succ])
       have hx9:=(HQ7.out.block _ HL1.out).trans HX2.out;have HX9:=hid hx9;have d0:w7.cell? ⟨W1.heap.size,0,none⟩=some (.int .i64 0):=by rw [Lib.cell_of_heap hx9];rfl
       have f0:w7.frozen? ⟨W1.heap.size,0,none⟩=false:=Lib.frozen_of_heap hx9 0
       have d1:w7.cell? ⟨W1.heap.size,1,none⟩=some (.slice none 0 0):=by rw [Lib.cell_of_heap hx9];rfl
       have f1:w7.frozen? ⟨W1.heap.size,1,none⟩=false:=Lib.frozen_of_heap hx9 1
       have d2:w7.cell? ⟨W1.heap.size,2,none⟩=some (.slice none 0 0):=by rw [Lib.cell_of_heap hx9];rfl
       have f2:w7.frozen? ⟨W1.heap.size,2,none⟩=false:=Lib.frozen_of_heap hx9 2
       clear hx9;refine wpAnyH_ready (rs:=[11]) (by kernel_rfl) (by simp) ?_
       refine AllReadyH.cons rfl (fun K9 hK=> ?_) AllReadyH.nil;rw [if_pos (by kernel_rfl)]
       go_simp
       go_wp2_with fail
       refine hK.out _ _ (below3_19 (HS.out _ HQ7.out) (Nat.le_refl _) _ _ _) (fun hHeld2=> ?_);clear hK K9 hHeld
       rename _=>hHeld
       refine wpAnyH_done (by kernel_rfl) ?_ _
       go_wp2_with fail
       refine bodyPost_ret (results_rp19 rfl _ _ W1.heap.size [_,_,_] rfl rfl (range_row_Cb (set3_19 HX9.out))) rfl ?_;refine ⟨_,_,_,_,_,_,rfl,own_hd (ownsRow_same HH7.out (fun g hg=>far3_19 (fun e=>by have:=(HH7.out.lt g hg).1;have:=HL1.out;omega) _ _ _)),HSw.out _ (below3_19 (HS.out _ HQ7.out) (Nat.le_refl _) _ _ _)⟩
   ·as_aux_lemma=>
     rw [if_pos (by kernel_rfl)]
     go_simp
     have hb10:Below W0.heap.size W0 (W0.alloc (.cells #[] 5)):=(Below.refl _ W0).alloc (Nat.le_refl _) _;have ho10:=own_mt19 W0 5 1;generalize (W0.alloc (.cells #[] 5))=w10 at hb10 ho10 ⊢;have HQ10:=hid (below2 HQ0.out hb10);have HB10:=hid (own_base19 ho10 HQ0.out.size);clear ho10 hb10;refine hK.out _ _ (HS.out _ HQ10.out) (fun hHeld2=> ?_);clear hK K9 hHeld
     rename _=>hHeld
     refine wpAnyH_ready (rs:=[4]) (by kernel_rfl) (by simp) ?_
     refine AllReadyH.cons rfl (fun K9 hK=> ?_) AllReadyH.nil;rw [if_pos (by kernel_rfl)]
     go_simp
     go_wp2_with (go_at_call 11;refine (HFw.out _ HQ10.out).mono ?_;rintro e w11 ⟨v11,rfl,ho11,hb11⟩)
     obtain ⟨ah,ch,rfl⟩:=own_sl19 ho11
     have HQ11:=hid (below2 HQ10.out hb11);have HH11:=hid (own_base19 ho11 HQ10.out.size);have HB11:=hid (own_same HB10.out hb11);clear ho11 hb11;refine hK.out _ _ (HS.out _ HQ11.out) (fun hHeld2=> ?_);clear hK K9 hHeld
     rename _=>hHeld
     refine wpAnyH_ready (rs:=[8]) (by kernel_rfl) (by simp) ?_
     refine AllReadyH.cons rfl (fun K9 hK=> ?_) AllReadyH.nil;rw [if_pos (by kernel_rfl)]
     go_simp
     go_wp2_with (go_at_call 45;refine (HFb.out _ HQ11.out).mono ?_;rintro e w12 ⟨rfl,rfl⟩)
     refine hK.out _ _ (HS.out _ HQ11.out) (fun hHeld2=> ?_);clear hK K9 hHeld
     rename _=>hHeld
     refine wpAnyH_ready (rs:=[9]) (by kernel_rfl) (by simp) ?_
     refine AllReadyH.cons rfl (fun K9 hK=> ?_) AllReadyH.nil;rw [if_pos (by kernel_rfl)]
     go_simp
     refine hK.out _ _ (HS.out _ HQ11.out) (fun hHeld2=> ?_);clear hK K9 hHeld
     rename _=>hHeld
     refine' wpAnyH_take (i:=10) (oi:=⟨some 13,_,_,_,_,_⟩) (v:=_) rfl (by kernel_rfl) (by kernel_rfl) (by kernel_rfl) (fun _ _ _ h=>h) (Or.inl ⟨by kernel_rfl,?hyyn9⟩) (by assumption) ?restyn9
     case hyyn9=>(intro wx hSw;(try dsimp only at hSw);obtain ⟨q0,q1,q2⟩:=HBx.out _ hSw;go_simp;first | done | with_reducible rfl)
     (try simp only [Act.put,List.setIfInBounds_toArray,List.set_cons_zero,List.set_cons_succ])
     have hx14:=(HQ11.out.block _ HL1.out).trans HX2.out;have HX14:=hid hx14;have d0:w11.cell? ⟨W1.heap.size,0,none⟩=some (.int .i64 0):=by rw [Lib.cell_of_heap hx14];rfl
     have f0:w11.frozen? ⟨W1.heap.size,0,none⟩=false:=Lib.frozen_of_heap hx14 0
     have d1:w11.cell? ⟨W1.heap.size,1,none⟩=some (.slice none 0 0):=by rw [Lib.cell_of_heap hx14];rfl
     have f1:w11.frozen? ⟨W1.heap.size,1,none⟩=false:=Lib.frozen_of_heap hx14 1
     have d2:w11.cell? ⟨W1.heap.size,2,none⟩=some (.slice none 0 0):=by rw [Lib.cell_of_heap hx14];rfl
     have f2:w11.frozen? ⟨W1.heap.size,2,none⟩=false:=Lib.frozen_of_heap hx14 2
     clear hx14;refine wpAnyH_ready (rs:=[11]) (by kernel_rfl) (by simp) ?_
     refine AllReadyH.cons rfl (fun K9 hK=> ?_) AllReadyH.nil;rw [if_pos (by kernel_rfl)]
     go_simp
     go_wp2_with fail
     refine hK.out _ _ (below3_19 (HS.out _ HQ11.out) (Nat.le_refl _) _ _ _) (fun hHeld2=> ?_);clear hK K9 hHeld
     rename _=>hHeld
     refine wpAnyH_done (by kernel_rfl) ?_ _
     go_wp2_with fail
     refine bodyPost_ret (results_rp19 rfl _ _ W1.heap.size [_,_,_] rfl rfl (range_row_Cb (set3_19 HX14.out))) rfl ?_;refine ⟨_,_,_,_,_,_,rfl,own_hd (ownsRow_same HH11.out (fun g hg=>far3_19 (fun e=>by have:=(HH11.out.lt g hg).1;have:=HL1.out;omega) _ _ _)),HSw.out _ (below3_19 (HS.out _ HQ11.out) (Nat.le_refl _) _ _ _)⟩
 | some ad=>
   obtain ⟨NW,hNW⟩: ∃ X,X=Lib.byteCells (bl.take 300):=⟨_,rfl⟩
   have HNl:=hid (show NW.length=nb*1 by rw [hNW,hnb,Lib.byteCells_length,Nat.mul_one]);have HNo:=hid (show ∀ u ∈ NW,u.oneCell'=true by
    intro u hu;rw [hNW] at hu;unfold Lib.byteCells at hu;obtain ⟨b,_,rfl⟩:=List.mem_map.1 hu
    rfl)
   have HN3:=hid hnb3;have HNw:=hid (fun (Y:World) (hY:Below V.heap.size V Y)=>(by
    rcases hB with ⟨c,e,_⟩ | ⟨x,cap,e,hcell⟩
    ·cases e
    ·injection e with e1 e2 e3
     injection e1 with e1
     subst e1;intro j u hu;rw [hNW] at hu;unfold Lib.byteCells at hu;rw [List.getElem?_map] at hu;obtain ⟨b,hb,rfl⟩:=Option.map_eq_some_iff.1 hu
     obtain ⟨hj,rfl⟩:=List.getElem?_eq_some_iff.1 hb
     have hj2:j<bl.length:=by rw [List.length_take] at hj;omega
     rw [List.getElem_take];exact ((below2 hbV hY).cell (World.block_lt_of_cell? w _ (hcell j hj2))).trans (hcell j hj2): ∀ j u,NW[j]? = some u→Y.cell? (ad.add j)=some u))
   clear hv hz hl hB hc hm hvn hb1 hb2 x1 x2 hbV hLF hnb hnb3 hNW
   go_enter Tryz.func12,Tryz.ntmps12
   go_upto_region 1 with fail
   refine wp_region_held_drew (S:=(fun wx=>Below W1.heap.size W1 wx)) (by kernel_rfl) (HS.out _ HQ0.out) (fun hHeld=> ?_)
   generalize V.drew=W0 at HQ0 hHeld ⊢;refine wpAnyH_to (fuel':=12) (listed':= #[false,false,false,false,false,false,false,false,false,false,false,false]) rfl rfl ?_
   refine' wpAnyH_take (i:=0) (oi:=⟨some 3,_,_,_,_,_⟩) (v:=_) rfl (by kernel_rfl) (by kernel_rfl) (by kernel_rfl) (fun _ _ _ h=>h) (Or.inl ⟨by kernel_rfl,?hyys1⟩) (by assumption) ?restys1
   case hyys1=>(intro wx hSw;(try dsimp only at hSw);obtain ⟨q0,q1,q2⟩:=HBx.out _ hSw;go_simp;first | done | with_reducible rfl)
   (try simp only [Act.put,List.setIfInBounds_toArray,List.set_cons_zero,List.set_cons_succ])
   refine' wpAnyH_take (i:=1) (oi:=⟨some 4,_,_,_,_,_⟩) (v:=_) rfl (by kernel_rfl) (by kernel_rfl) (by kernel_rfl) (fun _ _ _ h=>h) (Or.inl ⟨by kernel_rfl,?hyys2⟩) (by assumption) ?restys2
   case hyys2=>(intro wx hSw;(try dsimp only at hSw);obtain ⟨q0,q1,q2⟩:=HBx.out _ hSw;go_simp;first | done | with_reducible rfl)
   (try simp only [Act.put,List.setIfInBounds_toArray,List.set_cons_zero,List.set_cons_succ])
   refine' wpAnyH_take (i:=2) (oi:=⟨some 5,_,_,_,_,_⟩) (v:=_) rfl (by kernel_rfl) (by kernel_rfl) (by kernel_rfl) (fun _ _ _ h=>h) (Or.inl ⟨by kernel_rfl,?hyys3⟩) (by assumption) ?restys3
   case hyys3=>(intro wx hSw;(try dsimp only at hSw);obtain ⟨q0,q1,q2⟩:=HBx.out _ hSw;go_simp;first | done | with_reducible rfl)
   (try simp only [Act.put,List.setIfInBounds_toArray,List.set_cons_zero,List.set_cons_succ])
   refine' wpAnyH_take (i:=3) (oi:=⟨some 6,_,_,_,_,_⟩) (v:=_) rfl (by kernel_rfl) (by kernel_rfl) (by kernel_rfl) (fun _ _ _ h=>h) (Or.inl ⟨by kernel_rfl,?hyys4⟩) (by assumption) ?restys4
   case hyys4=>(intro wx hSw;(try dsimp only at hSw);obtain ⟨q0,q1,q2⟩:=HBx.out _ hSw;go_simp;first | done | with_reducible rfl)
   (try simp only [Act.put,List.setIfInBounds_toArray,List.set_cons_zero,List.set_cons_succ])
   refine' wpAnyH_take (i:=6) (oi:=⟨some 9,_,_,_,_,_⟩) (v:=_) rfl (by kernel_rfl) (by kernel_rfl) (by kernel_rfl) (fun _ _ _ h=>h) (Or.inl ⟨by kernel_rfl,?hyys5⟩) (by assumption) ?restys5
   case hyys5=>(intro wx hSw;(try dsimp only at hSw);obtain ⟨q0,q1,q2⟩:=HBx.out _ hSw;go_simp;first | done | with_reducible rfl)
   (try simp only [Act.put,List.setIfInBounds_toArray,List.set_cons_zero,List.set_cons_succ])
   refine' wpAnyH_take (i:=7) (oi:=⟨some 10,_,_,_,_,_⟩) (v:=_) rfl (by kernel_rfl) (by kernel_rfl) (by kernel_rfl) (fun _ _ _ h=>h) (Or.inl ⟨by kernel_rfl,?hyys6⟩) (by assumption) ?restys6
   case hyys6=>(intro wx hSw;(try dsimp only at hSw);obtain ⟨q0,q1,q2⟩:=HBx.out _ hSw;go_simp;first | done | with_reducible rfl)
   (try simp only [Act.put,List.setIfInBounds_toArray,List.set_cons_zero,List.set_cons_succ])
   refine wpAnyH_ready (rs:=[4,5]) (by kernel_rfl) (by simp) ?_
   refine AllReadyH.cons rfl (fun K9 hK=> ?_) (AllReadyH.cons rfl (fun K9 hK=> ?_) AllReadyH.nil)
   ·as_aux_lemma=>
     rw [if_pos (by kernel_rfl)]
     go_simp
     go_wp2_with (go_at_call 11;refine (HFw.out _ HQ0.out).mono ?_;rintro e w15 ⟨v15,rfl,ho15,hb15⟩)
     obtain ⟨ah,ch,rfl⟩:=own_sl19 ho15
     have HQ15:=hid (below2 HQ0.out hb15);have HH15:=hid (own_base19 ho15 HQ0.out.size);clear ho15 hb15;refine hK.out _ _ (HS.out _ HQ15.out) (fun hHeld2=> ?_);clear hK K9 hHeld
     rename _=>hHeld
     refine wpAnyH_ready (rs:=[5,8]) (by kernel_rfl) (by simp) ?_
     refine AllReadyH.cons rfl (fun K9 hK=> ?_) (AllReadyH.cons rfl (fun K9 hK=> ?_) AllReadyH.nil)
     ·as_aux_lemma=>
       rw [if_pos (by kernel_rfl)]
       go_simp
       have hb16:Below w15.heap.size w15 (w15.alloc (.cells #[] 5)):=(Below.refl _ w15).alloc (Nat.le_refl _) _;have ho16:=own_mt19 w15 5 1;generalize (w15.alloc (.cells #[] 5))=w16 at hb16 ho16 ⊢;have HQ16:=hid (below2 HQ15.out hb16);have HB16:=hid (own_base19 ho16 HQ15.out.size);have HH16:=hid (own_same HH15.out hb16);clear ho16 hb16;refine hK.out _ _ (HS.out _ HQ16.out) (fun hHeld2=> ?_);clear hK K9 hHeld
       rename _=>hHeld
       refine wpAnyH_ready (rs:=[8]) (by kernel_rfl) (by simp) ?_
       refine AllReadyH.cons rfl (fun K9 hK=> ?_) AllReadyH.nil;rw [if_pos (by kernel_rfl)]
       go_simp
       go_wp2_with (go_at_call 45;refine (HFb.out _ HQ16.out).mono ?_;rintro e w17 ⟨rfl,rfl⟩)
       refine hK.out _ _ (HS.out _ HQ16.out) (fun hHeld2=> ?_);clear hK K9 hHeld
       rename _=>hHeld
       refine wpAnyH_ready (rs:=[9]) (by kernel_rfl) (by simp) ?_
       refine AllReadyH.cons rfl (fun K9 hK=> ?_) AllReadyH.nil;refine step_append_own19 rfl (.tmp 8) (.tmp 11) 28 rfl V.heap.size 5 i0 _ 1 1 Tryz.underlying28 hi hz0 hz1 hz2 rfl (by decide) (.slice (some ⟨w15.heap.size,0,none⟩) 0 0) 0 [] rfl HB16.out ad nb bc NW rfl HNl.out (HNw.out _ HQ16.out) HNo.out (by have:=HN3.out;unfold maxLen;omega) (by have:=HN3.out;omega) HQ16.out.size ?_
       intro v18 w18 ho18 hg18 hn18;obtain ⟨da,dc,rfl⟩:=own_sl19 ho18
       have HQ18:=hid (below_own19 HB16.out hg18 (Nat.le_refl _) HQ16.out.size HQ16.out);have HH18:=hid (own_grown19 HH16.out HB16.out hg18);clear ho18 hg18 hn18;refine hK.out _ _ (HS.out _ HQ18.out) (fun hHeld2=> ?_);clear hK K9 hHeld
       rename _=>hHeld
       refine' wpAnyH_take (i:=10) (oi:=⟨some 13,_,_,_,_,_⟩) (v:=_) rfl (by kernel_rfl) (by kernel_rfl) (by kernel_rfl) (fun _ _ _ h=>h) (Or.inl ⟨by kernel_rfl,?hyys7⟩) (by assumption) ?restys7
       case hyys7=>(intro wx hSw;(try dsimp only at hSw);obtain ⟨q0,q1,q2⟩:=HBx.out _ hSw;go_simp;first | done | with_reducible rfl)
       (try simp only [Act.put,List.setIfInBounds_toArray,List.set_cons_zero,List.set_cons_succ])
       have hx19:=(HQ18.out.block _ HL1.out).trans HX2.out;have HX19:=hid hx19;have d0:w18.cell? ⟨W1.heap.size,0,none⟩=some (.int .i64 0):=by rw [Lib.cell_of_heap hx19];rfl
       have f0:w18.frozen? ⟨W1.heap.size,0,none⟩=false:=Lib.frozen_of_heap hx19 0
       have d1:w18.cell? ⟨W1.heap.size,1,none⟩=some (.slice none 0 0):=by rw [Lib.cell_of_heap hx19];rfl
       have f1:w18.frozen? ⟨W1.heap.size,1,none⟩=false:=Lib.frozen_of_heap hx19 1
       have d2:w18.cell? ⟨W1.heap.size,2,none⟩=some (.slice none 0 0):=by rw [Lib.cell_of_heap hx19];rfl
       have f2:w18.frozen? ⟨W1.heap.size,2,none⟩=false:=Lib.frozen_of_heap hx19 2
       clear hx19;refine wpAnyH_ready (rs:=[11]) (by kernel_rfl) (by simp) ?_
       refine AllReadyH.cons rfl (fun K9 hK=> ?_) AllReadyH.nil;rw [if_pos (by kernel_rfl)]
       go_simp
       go_wp2_with fail
       refine hK.out _ _ (below3_19 (HS.out _ HQ18.out) (Nat.le_refl _) _ _ _) (fun hHeld2=> ?_);clear hK K9 hHeld
       rename _=>hHeld
       refine wpAnyH_done (by kernel_rfl) ?_ _
       go_wp2_with fail
       refine bodyPost_ret (results_rp19 rfl _ _ W1.heap.size [_,_,_] rfl rfl (range_row_Cb (set3_19 HX19.out))) rfl ?_;refine ⟨_,_,_,_,_,_,rfl,own_hd (ownsRow_same HH18.out (fun g hg=>far3_19 (fun e=>by have:=(HH18.out.lt g hg).1;have:=HL1.out;omega) _ _ _)),HSw.out _ (below3_19 (HS.out _ HQ18.out) (Nat.le_refl _) _ _ _)⟩
     ·as_aux_lemma=>
       rw [if_pos (by kernel_rfl)]
       go_simp
       go_wp2_with (go_at_call 45;refine (HFb.out _ HQ15.out).mono ?_;rintro e w20 ⟨rfl,rfl⟩)
       refine hK.out _ _ (HS.out _ HQ15.out) (fun hHeld2=> ?_);clear hK K9 hHeld
       rename _=>hHeld
       refine wpAnyH_ready (rs:=[5]) (by kernel_rfl) (by simp) ?_
       refine AllReadyH.cons rfl (fun K9 hK=> ?_) AllReadyH.nil;rw [if_pos (by kernel_rfl)]
       go_simp
       have hb21:Below w15.heap.size w15 (w15.alloc (.cells #[] 5)):=(Below.refl _ w15).alloc (Nat.le_refl _) _;have ho21:=own_mt19 w15 5 1;generalize (w15.alloc (.cells #[] 5))=w21 at hb21 ho21 ⊢;have HQ21:=hid (below2 HQ15.out hb21);have HB21:=hid (own_base19 ho21 HQ15.out.size);have HH21:=hid (own_same HH15.out hb21);clear ho21 hb21;refine hK.out _ _ (HS.out _ HQ21.out) (fun hHeld2=> ?_);clear hK K9 hHeld
       rename _=>hHeld
       refine wpAnyH_ready (rs:=[9]) (by kernel_rfl) (by simp) ?_
       refine AllReadyH.cons rfl (fun K9 hK=> ?_) AllReadyH.nil;refine step_append_own19 rfl (.tmp 8) (.tmp 11) 28 rfl V.heap.size 5 i0 _ 1 1 Tryz.underlying28 hi hz0 hz1 hz2 rfl (by decide) (.slice (some ⟨w15.heap.size,0,none⟩) 0 0) 0 [] rfl HB21.out ad nb bc NW rfl HNl.out (HNw.out _ HQ21.out) HNo.out (by have:=HN3.out;unfold maxLen;omega) (by have:=HN3.out;omega) HQ21.out.size ?_
       intro v22 w22 ho22 hg22 hn22;obtain ⟨da,dc,rfl⟩:=own_sl19 ho22
       have HQ22:=hid (below_own19 HB21.out hg22 (Nat.le_refl _) HQ21.out.size HQ21.out);have HH22:=hid (own_grown19 HH21.out HB21.out hg22);clear ho22 hg22 hn22;refine hK.out _ _ (HS.out _ HQ22.out) (fun hHeld2=> ?_);clear hK K9 hHeld
       rename _=>hHeld
       refine' wpAnyH_take (i:=10) (oi:=⟨some 13,_,_,_,_,_⟩) (v:=_) rfl (by kernel_rfl) (by kernel_rfl) (by kernel_rfl) (fun _ _ _ h=>h) (Or.inl ⟨by kernel_rfl,?hyys8⟩) (by assumption) ?restys8
       case hyys8=>(intro wx hSw;(try dsimp only at hSw);obtain ⟨q0,q1,q2⟩:=HBx.out _ hSw;go_simp;first | done | with_reducible rfl)
       (try simp only [Act.put,List.setIfInBounds_toArray,List.set_cons_zero,List.set_cons_succ])
       have hx23:=(HQ22.out.block _ HL1.out).trans HX2.out;have HX23:=hid hx23;have d0:w22.cell? ⟨W1.heap.size,0,none⟩=some (.int .i64 0):=by rw [Lib.cell_of_heap hx23];rfl
       have f0:w22.frozen? ⟨W1.heap.size,0,none⟩=false:=Lib.frozen_of_heap hx23 0
       have d1:w22.cell? ⟨W1.heap.size,1,none⟩=some (.slice none 0 0):=by rw [Lib.cell_of_heap hx23];rfl
       have f1:w22.frozen? ⟨W1.heap.size,1,none⟩=false:=Lib.frozen_of_heap hx23 1
       have d2:w22.cell? ⟨W1.heap.size,2,none⟩=some (.slice none 0 0):=by rw [Lib.cell_of_heap hx23];rfl
       have f2:w22.frozen? ⟨W1.heap.size,2,none⟩=false:=Lib.frozen_of_heap hx23 2
       clear hx23;refine wpAnyH_ready (rs:=[11]) (by kernel_rfl) (by simp) ?_
       refine AllReadyH.cons rfl (fun K9 hK=> ?_) AllReadyH.nil;rw [if_pos (by kernel_rfl)]
       go_simp
       go_wp2_with fail
       refine hK.out _ _ (below3_19 (HS.out _ HQ22.out) (Nat.le_refl _) _ _ _) (fun hHeld2=> ?_);clear hK K9 hHeld
       rename _=>hHeld
       refine wpAnyH_done (by kernel_rfl) ?_ _
       go_wp2_with fail
       refine bodyPost_ret (results_rp19 rfl _ _ W1.heap.size [_,_,_] rfl rfl (range_row_Cb (set3_19 HX23.out))) rfl ?_;refine ⟨_,_,_,_,_,_,rfl,own_hd (ownsRow_same HH22.out (fun g hg=>far3_19 (fun e=>by have:=(HH22.out.lt g hg).1;have:=HL1.out;omega) _ _ _)),HSw.out _ (below3_19 (HS.out _ HQ22.out) (Nat.le_refl _) _ _ _)⟩
   ·as_aux_lemma=>
     rw [if_pos (by kernel_rfl)]
     go_simp
     have hb24:Below W0.heap.size W0 (W0.alloc (.cells #[] 5)):=(Below.refl _ W0).alloc (Nat.le_refl _) _;have ho24:=own_mt19 W0 5 1;generalize (W0.alloc (.cells #[] 5))=w24 at hb24 ho24 ⊢;have HQ24:=hid (below2 HQ0.out hb24);have HB24:=hid (own_base19 ho24 HQ0.out.size);clear ho24 hb24;refine hK.out _ _ (HS.out _ HQ24.out) (fun hHeld2=> ?_);clear hK K9 hHeld
     rename _=>hHeld
     refine wpAnyH_ready (rs:=[4]) (by kernel_rfl) (by simp) ?_
     refine AllReadyH.cons rfl (fun K9 hK=> ?_) AllReadyH.nil;rw [if_pos (by kernel_rfl)]
     go_simp
     go_wp2_with (go_at_call 11;refine (HFw.out _ HQ24.out).mono ?_;rintro e w25 ⟨v25,rfl,ho25,hb25⟩)
     obtain ⟨ah,ch,rfl⟩:=own_sl19 ho25
     have HQ25:=hid (below2 HQ24.out hb25);have HH25:=hid (own_base19 ho25 HQ24.out.size);have HB25:=hid (own_same HB24.out hb25);clear ho25 hb25;refine hK.out _ _ (HS.out _ HQ25.out) (fun hHeld2=> ?_);clear hK K9 hHeld
     rename _=>hHeld
     refine wpAnyH_ready (rs:=[8]) (by kernel_rfl) (by simp) ?_
     refine AllReadyH.cons rfl (fun K9 hK=> ?_) AllReadyH.nil;rw [if_pos (by kernel_rfl)]
     go_simp
     go_wp2_with (go_at_call 45;refine (HFb.out _ HQ25.out).mono ?_;rintro e w26 ⟨rfl,rfl⟩)
     refine hK.out _ _ (HS.out _ HQ25.out) (fun hHeld2=> ?_);clear hK K9 hHeld
     rename _=>hHeld
     refine wpAnyH_ready (rs:=[9]) (by kernel_rfl) (by simp) ?_
     refine AllReadyH.cons rfl (fun K9 hK=> ?_) AllReadyH.nil;refine step_append_own19 rfl (.tmp 8) (.tmp 11) 28 rfl V.heap.size 5 i0 _ 1 1 Tryz.underlying28 hi hz0 hz1 hz2 rfl (by decide) (.slice (some ⟨W0.heap.size,0,none⟩) 0 0) 0 [] rfl HB25.out ad nb bc NW rfl HNl.out (HNw.out _ HQ25.out) HNo.out (by have:=HN3.out;unfold maxLen;omega) (by have:=HN3.out;omega) HQ25.out.size ?_
     intro v27 w27 ho27 hg27 hn27;obtain ⟨da,dc,rfl⟩:=own_sl19 ho27
     have HQ27:=hid (below_own19 HB25.out hg27 (Nat.le_refl _) HQ25.out.size HQ25.out);have HH27:=hid (own_grown19 HH25.out HB25.out hg27);clear ho27 hg27 hn27;refine hK.out _ _ (HS.out _ HQ27.out) (fun hHeld2=> ?_);clear hK K9 hHeld
     rename _=>hHeld
     refine' wpAnyH_take (i:=10) (oi:=⟨some 13,_,_,_,_,_⟩) (v:=_) rfl (by kernel_rfl) (by kernel_rfl) (by kernel_rfl) (fun _ _ _ h=>h) (Or.inl ⟨by kernel_rfl,?hyys9⟩) (by assumption) ?restys9
     case hyys9=>(intro wx hSw;(try dsimp only at hSw);obtain ⟨q0,q1,q2⟩:=HBx.out _ hSw;go_simp;first | done | with_reducible rfl)
     (try simp only [Act.put,List.setIfInBounds_toArray,List.set_cons_zero,List.set_cons_succ])
     have hx28:=(HQ27.out.block _ HL1.out).trans HX2.out;have HX28:=hid hx28;have d0:w27.cell? ⟨W1.heap.size,0,none⟩=some (.int .i64 0):=by rw [Lib.cell_of_heap hx28];rfl
     have f0:w27.frozen? ⟨W1.heap.size,0,none⟩=false:=Lib.frozen_of_heap hx28 0
     have d1:w27.cell? ⟨W1.heap.size,1,none⟩=some (.slice none 0 0):=by rw [Lib.cell_of_heap hx28];rfl
     have f1:w27.frozen? ⟨W1.heap.size,1,none⟩=false:=Lib.frozen_of_heap hx28 1
     have d2:w27.cell? ⟨W1.heap.size,2,none⟩=some (.slice none 0 0):=by rw [Lib.cell_of_heap hx28];rfl
     have f2:w27.frozen? ⟨W1.heap.size,2,none⟩=false:=Lib.frozen_of_heap hx28 2
     clear hx28;refine wpAnyH_ready (rs:=[11]) (by kernel_rfl) (by simp) ?_
     refine AllReadyH.cons rfl (fun K9 hK=> ?_) AllReadyH.nil;rw [if_pos (by kernel_rfl)]
     go_simp
     go_wp2_with fail
     refine hK.out _ _ (below3_19 (HS.out _ HQ27.out) (Nat.le_refl _) _ _ _) (fun hHeld2=> ?_);clear hK K9 hHeld
     rename _=>hHeld
     refine wpAnyH_done (by kernel_rfl) ?_ _
     go_wp2_with fail
     refine bodyPost_ret (results_rp19 rfl _ _ W1.heap.size [_,_,_] rfl rfl (range_row_Cb (set3_19 HX28.out))) rfl ?_;refine ⟨_,_,_,_,_,_,rfl,own_hd (ownsRow_same HH27.out (fun g hg=>far3_19 (fun e=>by have:=(HH27.out.lt g hg).1;have:=HL1.out;omega) _ _ _)),HSw.out _ (below3_19 (HS.out _ HQ27.out) (Nat.le_refl _) _ _ _)⟩

end Go.Proofs.YtolioccofbhliaaGreatDoor
