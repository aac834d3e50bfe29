/-
  Walks and plain facts that this claim leans on, put together out of 5 texts: Eje, Eic, Yp, Eza, Ezd.
-/
import Derived.Test.YtolioccofbhliaaGreatDoorProg
import Derived.Test.YtolioccofbhliaaGreatDoorQp1
import Derived.Test.YtolioccofbhliaaGreatDoorQp2
import Derived.Test.YtolioccofbhliaaGreatDoorQp3
import Derived.Test.YtolioccofbhliaaGreatDoorQp4
import Derived.Test.YtolioccofbhliaaGreatDoorQp8
import Derived.Test.YtolioccofbhliaaGreatDoorQp11
import Derived.Test.YtolioccofbhliaaGreatDoorQp13
import Derived.Test.YtolioccofbhliaaGreatDoorQp14
import Derived.Test.YtolioccofbhliaaGreatDoorQp16
import Derived.Test.YtolioccofbhliaaGreatDoorQp17
import Derived.Test.YtolioccofbhliaaGreatDoorQp18
import Derived.BigRegion
import Derived.Deep.RegionHeld
import Derived.Deep.RegionHeldLaw
import Derived.Lib.IndexAny
import Derived.WalkKit
import Derived.Lib.UnsafeStr
import Derived.Lib.BufferRead
import Derived.Lib.RuneBytes
import Derived.Laws.RangeAny
import Derived.Deep.LoopGhost
import Derived.Maps.OwnSet
import Derived.Maps.OwnOps
import Derived.Maps.AppendAt
import Derived.StringKeys
import Derived.BigQuiet
import Derived.Deep.QuietTactic
import Derived.LoopN
import Derived.RegionTactic
import Derived.Deep.RegionLaw
import Derived.Deep.RegionWith
import Derived.WalkSpells
import Derived.WalkLawsBesides
import Derived.Lib.FieldsP
import Derived.Lib.DecodeN
import Derived.Lib.IndexMore
import Derived.Lib.Join
import Derived.Lib.SmallJoins
import Derived.Laws.CopyOwn
import Derived.Laws.ResultCell
import Derived.Deep.MidRow
import Derived.Laws.OwnMore
import Derived.Below
import Derived.WalkSmall
import Derived.Lib.LaidTab
import Derived.Lib.AppendIntMem
import Derived.Laws.AppendOwn
import Derived.Laws.Runes
import Derived.Lib.OthersKept
import Derived.Lib.FrozenHead2
import Derived.Lib.Builder
import Derived.Lib.AppendStr
import Derived.Lib.Replace
import Derived.Shelf.GgClosure.GivesRunes
import Derived.Laws.BitsAll
import Derived.Laws.Shifts
import Derived.Deep.DeepAppendRoom
import Derived.Laws.IdiomStrings
import Derived.Laws.BytesString
import Derived.Laws.CopyRow
import Derived.Sort.OwnSorted
import Derived.Lib.SlicesCompact
import Derived.Shelf.Slices.In.SortNone
import Derived.Shelf.Slices.CompactS
import Derived.Lib.SliceRun
import Derived.Sort.KeysCollected
import Derived.Lib.Case
import Derived.Lib.LastIndexByte
import Derived.Lib.Strings
import Derived.Laws.BitsAllLaws
import Derived.Lib.Bytealg
import Derived.Lib.BufferMore
import Derived.Shelf.Strings.Builder1
import Derived.Shelf.Strings.Builder2
import Derived.Shelf.Strings.OnBuilder
import Derived.Shelf.Strings.Trim
import Derived.Shelf.Small.Utf8
import Derived.Shelf.Small.Bits
import Derived.Shelf.Small.Strs
import Derived.Shelf.Small.Wraps
import Derived.Shelf.Strings.BuilderF
import Derived.Shelf.Strings.BuilderK
import Derived.Shelf.Strings.Builder2Cap
import Derived.Shelf.Strconv.Itoa0
import Derived.Shelf.Strconv.Itoa1
import Derived.Shelf.LaysM
import Derived.Shelf.Strconv.Itoa2
import Derived.Shelf.Strconv.Itoa3
import Derived.Shelf.Strings.Search1
import Derived.Shelf.Strings.Search2
import Derived.Shelf.Strings.Cut
import Derived.Shelf.Strings.Shaped
import Derived.Shelf.Sort.Plain
import Derived.Shelf.Strings.Prefix
import Derived.Shelf.Strings.Runes
import Derived.Shelf.Strings.IndexAny
import Derived.Shelf.Strings.AsciiSet
import Derived.Shelf.Strings.IndexAnyAll
import Derived.Shelf.Unicode.DecodeSlow
import Derived.Shelf.Unicode.DecodeAny
import Derived.Shelf.Unicode.DecodeLast
import Derived.Ground.SlgnProg
import Derived.Shelf.SlicesE.Compact
import Derived.Ground.SlgfProg
import Derived.Shelf.SlicesE.IndexFunc
import Derived.Shelf.SlicesE.DeleteFunc
import Derived.Scope
import Derived.ScopeJumps
import Derived.WalkMore
import Derived.Lib.TrimByte
import Derived.Lib.ItoaNum
import Derived.OwnWalk
import Derived.Lib.SlTrimSet
import Derived.Shelf.Strings.SlTrimAscii
import Derived.Deep.CutRange
import Derived.Laws.Rows
import Derived.Laws.MakeOwn
import Derived.Deep.WholeRow
import Derived.Laws.AppendOwnNone
import Derived.Deep.Cut
set_option linter.unusedSimpArgs false
set_option linter.unusedVariables false

namespace Go.Proofs.YtolioccofbhliaaGreatDoor
open Go.RowKit

theorem rCells_six (x:RwP): ∃ S1 S2 bb1 bb2 S3 t1,rCells x=[.string S1,.string S2,.bool bb1,.bool bb2,.string S3,.int .i64 t1]:=⟨_,_,_,_,_,_,rfl⟩

theorem sizeR19:(Tryz.prog.info? 154).map (·.size)=some 6:=by kernel_rfl

theorem infoR19:(Tryz.prog.info? 154).map (fun i=>(i.zero,i.size,i.bytes))=some (some (.agg #[.string ByteArray.empty,.string ByteArray.empty,.bool false,.bool false,.string ByteArray.empty,.int .i64 0]),6,72):=by kernel_rfl

def RlAt (w:World) (v:Value) (Z:List RwP):Prop:=
 ∃ a cap,v = .slice a Z.length cap∧Z.length≤cap∧cap≤maxLen ∧ ∀ i (h:i<Z.length),∃ g o,a=some ⟨g,o,none⟩∧w.rangeAt g (o+i*6) (rCells Z[i])

theorem own_rl {w:World} {B:Nat} {v:Value} {Z:List RwP} (h:w.ownsRow B 154 6 v Z.length (cellsR Z)):RlAt w v Z:=by
 have h2:=h.2;rcases h2 with ⟨rfl,h0⟩ | ⟨g,cap,cur,rfl,hb,hg,h1,h2,h3,h4⟩
 ·have:Z=[]:=List.eq_nil_of_length_eq_zero h0
  subst this;exact ⟨none,0,rfl,Nat.le_refl _,by decide,fun j hj=>by simp at hj⟩
 ·refine ⟨_,cap,rfl,h1,h2,fun i hi=>⟨g,0,rfl,?_⟩⟩
  obtain ⟨g',e,hr⟩:=own_range19 h i hi
  injection e with e
  subst e;rw [Nat.zero_add];exact hr

theorem RlAt.view {w:World} {v:Value} {Z:List RwP} (h:RlAt w v Z): ∃ a cap,v = .slice a Z.length cap∧Z.length≤cap∧cap≤maxLen ∧ ∀ i (h:i<Z.length),∃ g o,a=some ⟨g,o,none⟩∧w.rangeAt g (o+i*6) (rCells Z[i]):=h

def idxR (q:RwP→Bool) (Z:List RwP):Int:=match Z.findIdx? (fun z=>q z) with
 | none=> -1
 | some k=>(k:Int)

set_option maxHeartbeats 4000000 in
theorem indexR19_any (f:Nat) (lb:Array Value) (eg: ∀ args w,(callFunc f args).run Tryz.prog w = .ok (.enter f args) w) (q:RwP→Bool) (v:Value) (Z:List RwP) (w:World) (hv:RlAt w v Z) (hl:Z.length≤1000000)
 (hq : ∀ (X : World) (z   : RwP), z ∈ Z → Below w.heap.size w X → Calls Tryz.prog f (#[rVal z] ++ lb) X fun e w' => e = .returned (.bool (q z)) ∧ Below X.heap.size X w') :
 Calls Tryz.prog 147 #[v,.func (.func f) #[] lb] w fun e w'=>e = .returned (.int .i64 (idxR q Z))∧Below w.heap.size w w':=by
 obtain ⟨a1,c1,rfl,hc1,hm1,hv1⟩:=hv.view
 have HV:=hid hv1;have HQ:=hid hq;obtain ⟨n,hn⟩: ∃ n,n=Z.length:=⟨_,rfl⟩
 have HN:=hid hn;rw [← hn] at hc1 hl ⊢;clear hv hv1 hq hn
 go_enter Tryz.func147,Tryz.ntmps147
 go_wp2_with fail
 go_loopw [8] (fun v8 wr=> ∃ k:Nat,k≤n∧v8 = .int .i64 k∧Hid ((∀ j (h:j<Z.length),j<k→q Z[j]=false)∧Below w.heap.size w wr)) (fun v8 _=>n - (intOf v8).toNat)
 case atStart=>exact ⟨0,Nat.zero_le _,rfl,fun j _ h=>absurd h (by omega),Below.refl _ w⟩
 case round=>
  obtain ⟨k,hk,rfl,HR⟩:=hrel
  by_cases hlt:k<n
  ·have hkL:k<Z.length:=by have:=HN.out;omega
   obtain ⟨b1,o1,rfl,e1⟩:=HV.out k hkL
   have e2:=range_kept17 e1 HR.out.2;obtain ⟨x,hx⟩: ∃ x,x=Z[k]:=⟨_,rfl⟩
   rw [← hx] at e2;have HXM:=hid (show x ∈ Z by rw [hx];exact List.getElem_mem hkL);have hcl:=HQ.out wr x HXM.out HR.out.2;obtain ⟨y,hy⟩: ∃ y,y=q x:=⟨_,rfl⟩
   have HT:=hid (show y=false → ∀ j (h:j<Z.length),j<k+1→q Z[j]=false from fun hyf j h hj=>by
    by_cases hjk:j=k
    ·subst hjk;rw [← hx,← hy];exact hyf
    ·exact HR.out.1 j h (by omega))
   have HTA:=hid (show y=true→idxR q Z=(k:Int) from fun h=>by
    have:Z.findIdx? (fun z=>q z)=some k:=by
     rw [List.findIdx?_eq_some_iff_getElem];exact ⟨hkL,by rw [← hx,← hy];exact h,fun j hj=>by rw [HR.out.1 j (by omega) hj];decide⟩
    unfold idxR;rw [this])
   rw [← hy] at hcl;obtain ⟨S1,S2,bb1,bb2,S3,t1,hcs⟩:=rCells_six x
   unfold rVal at hcl;rw [hcs] at e2 hcl;have HRg:=hid e2;have HCL:=hid hcl;have HBr:=hid HR.out.2;have hin:(k:Int)<(n:Int):=by omega
   clear e1 e2 hx hkL hcs hcl hy HXM HR
   cases y with
   | false=>
     go_wp2_with (refine wpList_load_mid rfl 154 (.tmp 14) rfl b1 (o1+k*6) rfl [.string S1,.string S2,.bool bb1,.bool bb2,.string S3,.int .i64 t1] _ HRg.out Tryz.underlying154 rfl sizeR19 ?_)
     refine HCL.out.mono ?_;rintro e w2 ⟨rfl,hb2⟩
     have HB2:=hid (below2_Efc HBr.out hb2);clear hb2
     go_wp2_with fail
     go_roundw
     case rel=>
      have e4:(∀ j (h:j<Z.length),j<k+1→q Z[j]=false)∧Below w.heap.size w w2:=⟨HT.out (by first | rfl | trivial),HB2.out⟩
      first
       | exact ⟨k+1,by omega,by go_num,e4⟩
       | ((repeat apply Exists.intro);refine ⟨?_,rfl⟩;exact ⟨k+1,by omega,by go_num,e4⟩)
       | ((repeat apply Exists.intro);exact ⟨⟨k+1,by omega,by go_num,e4⟩,rfl⟩)
     case measure=>simp [intOf];omega
   | true=>
     go_wp2_with (refine wpList_load_mid rfl 154 (.tmp 14) rfl b1 (o1+k*6) rfl [.string S1,.string S2,.bool bb1,.bool bb2,.string S3,.int .i64 t1] _ HRg.out Tryz.underlying154 rfl sizeR19 ?_)
     refine HCL.out.mono ?_;rintro e w2 ⟨rfl,hb2⟩
     have HB2:=hid (below2_Efc HBr.out hb2);clear hb2
     go_wp2_with fail
     go_ret
     exact ⟨ret_i16 (HTA.out (by first | rfl | trivial)).symm,HB2.out⟩
  ·obtain rfl:k=n:=by omega
   have HA:=hid (show idxR q Z = -1 by
    have:Z.findIdx? (fun z=>q z)=none:=by
     rw [List.findIdx?_eq_none_iff];intro x hx;obtain ⟨j,hj,rfl⟩:=List.getElem_of_mem hx
     exact HR.out.1 j hj (by have:=HN.out;omega)
    unfold idxR;rw [this])
   have HB:=hid HR.out.2;clear HR hk hlt
   go_wp2_with fail
   go_ret
   exact ⟨ret_i16 HA.out.symm,HB.out⟩

def KpR (Z:List RwP) (q:RwP→Bool) (X:List RwP) (i j:Nat):Prop:=X.length=Z.length∧i<j∧X.take i=(Z.take j).filter (fun z=> !q z)∧X.drop j=Z.drop j

theorem KpR.start {Z:List RwP} {q:RwP→Bool} {k:Nat} (hk:k<Z.length) (h1: ∀ j (h:j<Z.length),j<k→q Z[j]=false) (h2:q Z[k]=true):KpR Z q Z k (k+1):=by
 refine ⟨rfl,by omega,?_,rfl⟩
 rw [List.take_succ_eq_append_getElem hk,List.filter_append];have e1:(Z.take k).filter (fun z=> !q z)=Z.take k:=by
  rw [List.filter_eq_self];intro a ha;obtain ⟨j,hj,rfl⟩:=List.getElem_of_mem ha
  rw [List.length_take] at hj;rw [List.getElem_take,h1 j (by omega) (by omega)]
  rfl
 rw [e1];simp [h2]

theorem KpR.get {Z X:List RwP} {q:RwP→Bool} {i j:Nat} (h:KpR Z q X i j) (hj:j<Z.length):X[j]'(by rw [h.1];exact hj)=Z[j]:=by
 have hx:j<X.length:=by rw [h.1];exact hj
 have h1:=h.2.2.2;rw [List.drop_eq_getElem_cons hx,List.drop_eq_getElem_cons hj] at h1;injection h1

theorem KpR.skip {Z X:List RwP} {q:RwP→Bool} {i j:Nat} (h:KpR Z q X i j) (hj:j<Z.length) (hq:q Z[j]=true):KpR Z q X i (j+1):=by
 obtain ⟨h1,h2,h3,h4⟩:=h
 refine ⟨h1,by omega,?_,?_⟩
 ·rw [List.take_succ_eq_append_getElem hj,List.filter_append,← h3]
  simp [hq]
 ·rw [← List.drop_drop,h4,List.drop_drop]

theorem KpR.keep {Z X:List RwP} {q:RwP→Bool} {i j:Nat} (h:KpR Z q X i j) (hj:j<Z.length) (hq:q Z[j]=false):KpR Z q (X.set i Z[j]) (i+1) (j+1):=by
 obtain ⟨h1,h2,h3,h4⟩:=h
 have hi:i<X.length:=by omega
 refine ⟨by rw [List.length_set,h1],by omega,?_,?_⟩
 ·rw [List.take_succ_eq_append_getElem hj,List.filter_append,← h3,List.take_succ_eq_append_getElem (by rw [List.length_set];exact hi),List.getElem_set_self,List.take_set_of_le (Nat.le_refl _)]
  simp [hq]
 ·rw [List.drop_set_of_lt (by omega),← List.drop_drop,h4,List.drop_drop]

theorem KpR.done {Z X:List RwP} {q:RwP→Bool} {i:Nat} (h:KpR Z q X i Z.length):X.take i=Z.filter (fun z=> !q z)∧(Z.filter (fun z=> !q z)).length=i∧i<Z.length:=by
 obtain ⟨h1,h2,h3,_⟩:=h
 rw [List.take_of_length_le (Nat.le_refl _)] at h3;refine ⟨h3,?_,h2⟩
 rw [← h3,List.length_take];omega

theorem idxR_cases (q:RwP→Bool) (Z:List RwP):(idxR q Z = -1∧Z.filter (fun z=> !q z)=Z) ∨ ∃ k:Nat,∃ h:k<Z.length,idxR q Z=(k:Int)∧KpR Z q Z k (k+1):=by
 unfold idxR
 cases h:Z.findIdx? fun z=>q z with
 | none=>
   refine .inl ⟨rfl,?_⟩
   rw [List.findIdx?_eq_none_iff] at h;rw [List.filter_eq_self];intro a ha;rw [h a ha];rfl
 | some k=>
   rw [List.findIdx?_eq_some_iff_getElem] at h;obtain ⟨hk,h1,h2⟩:=h
   exact .inr ⟨k,hk,rfl,KpR.start hk (fun j _ hj=>by have:=h2 j hj;simpa using this) h1⟩

def zRow19:Array Value:= #[.string ByteArray.empty,.string ByteArray.empty,.bool false,.bool false,.string ByteArray.empty,.int .i64 0]

theorem zRow19_one (i:Nat):(zRow19[i % 6]!).oneCell'=true:=by
 have h:i % 6<6:=Nat.mod_lt _ (by decide)
 generalize i % 6=k at h
 match k,h with
 | 0,_=>rfl
 | 1,_=>rfl
 | 2,_=>rfl
 | 3,_=>rfl
 | 4,_=>rfl
 | 5,_=>rfl

theorem run_clear19 (w:World) (ty:TypeId) (g o n c:Nat) (hn:0<n) (hth:w.there g o (n*6)):
 ∃ vs:List Value,vs.length=n*6∧(Builtin.clear_ #[143] ty #[.slice (some ⟨g,o,none⟩) n c]).run Tryz.prog w = .ok (.tuple #[]) (w.setCells g o vs):=by
 refine ⟨(Builtin.zeroCells zRow19 n).toList,by simp [Builtin.zeroCells,zRow19],?_⟩;have hl:(Builtin.zeroCells zRow19 n).toList.length=n*6:=by simp [Builtin.zeroCells,zRow19]
 have h1: ∀ v ∈ (Builtin.zeroCells zRow19 n).toList,v.oneCell'=true:=by
  intro v hv;unfold Builtin.zeroCells at hv;rw [Array.mem_toList_iff] at hv;obtain ⟨i,_,rfl⟩:=Array.mem_map.1 hv
  exact zRow19_one i
 have hst:=run_storeCells_cells (P:=Tryz.prog) g o (Builtin.zeroCells zRow19 n).toList 0 w (by rw [hl];intro j hj;rw [Nat.add_zero];exact (hth j hj).1) (by rw [hl];intro j hj;rw [Nat.add_zero];exact (hth j hj).2) h1
 rw [Nat.add_zero] at hst;obtain ⟨m,rfl⟩: ∃ m,n=m+1:=⟨n - 1,by omega⟩
 change (storeCells ⟨g,o,none⟩ (Builtin.zeroCells (Value.agg #[.string ⟨#[]⟩,.string ⟨#[]⟩,.bool false,.bool false,.string ⟨#[]⟩,.int .i64 0]).cells (m+1)).toList).run Tryz.prog w=_ at hst;simp [Builtin.clear_,run_underlying Tryz.underlying143,hst]

set_option maxHeartbeats 2000000 in
set_option maxRecDepth 100000 in
theorem deleteF19_any (f:Nat) (lb:Array Value) (eg: ∀ args w,(callFunc f args).run Tryz.prog w = .ok (.enter f args) w) (q:RwP→Bool) (v:Value) (Z:List RwP) (w:World) (B:Nat) (hown:w.ownsRow B 154 6 v Z.length (cellsR Z)) (hl:Z.length≤1000000)
 (hq : ∀ (X : World) (z   : RwP), z ∈ Z → w.grownBy X v.ownBlock → Calls Tryz.prog f (#[rVal z] ++ lb) X fun e w' => e = .returned (.bool (q z)) ∧ Below X.heap.size X w') :
 Calls Tryz.prog 96 #[v,.func (.func f) #[] lb] w fun e w'=> ∃ a c,e = .returned (.slice a (Z.filter fun z=> !q z).length c)∧w'.ownsRow B 154 6 (.slice a (Z.filter fun z=> !q z).length c) (Z.filter fun z=> !q z).length (cellsR (Z.filter fun z=> !q z))∧w.grownBy w' v.ownBlock∧(∀ g,(Value.slice a (Z.filter fun z=> !q z).length c).ownBlock=some g→v.ownBlock=some g):=by
 have HI := hid (indexR19_any f lb eg q v Z w (own_rl hown) hl  (fun X z hz hX => hq X z hz (below_grown17 hX _)));rcases idxR_cases q Z with ⟨hi,hf⟩ | ⟨k0,hk0,hi,hK⟩
 ·rw [hi] at HI
  rw [hf];obtain ⟨a,c,rfl⟩:=own_sl16 hown
  have HO:=hid hown;clear hown hq  hi hf
  go_enter Tryz.func96,Tryz.ntmps96
  go_wp2_with fail
  refine HI.out.mono ?_;rintro e w1 ⟨rfl,hb1⟩
  have HB1:=hid hb1;clear hb1
  go_wp2_with fail
  go_ret
  exact ⟨a,c,rfl,own_same HO.out HB1.out,below_grown17 HB1.out _,fun g h=>h⟩
 ·rw [hi] at HI
  obtain ⟨g,cap,rfl⟩: ∃ g cap,v = .slice (some ⟨g,0,none⟩) Z.length cap:=by
   rcases hown.2 with ⟨_,h0⟩ | ⟨g,cap,cur,h,_⟩
   ·omega
   ·exact ⟨g,cap,h⟩
  have hbo:(Value.slice (some ⟨g,0,none⟩) Z.length cap).ownBlock=some g:=rfl;rw [hbo] at hq;rw [hbo];obtain ⟨n,hn⟩: ∃ n,n=Z.length:=⟨_,rfl⟩
  obtain ⟨cur0,_,_,_,hncap,hcapm,_⟩:=own_in17 hown
  have HN:=hid hn;have HO:=hid hown;have HQ:=hid hq;have HK:=hid hK;have hk0n:k0+1≤n:=by omega
  rw [← hn] at HI HO hl hncap;rw [← hn];have hne1:((k0:Int) == -1)=false:=beq_eq_false_iff_ne.2 (by omega)
  clear hown hq  hi hn hK hbo
  go_enter Tryz.func96,Tryz.ntmps96
  go_wp2_with fail
  refine HI.out.mono ?_;rintro e w1 ⟨rfl,hb1⟩
  have HJ:=hid (show w1.ownsRow B 154 6 (.slice (some ⟨g,0,none⟩) n cap) n (cellsR Z)∧w.grownBy w1 (some g) from ⟨own_same HO.out hb1,below_grown17 hb1 _⟩);clear hb1 HI
  go_wp2_with fail
  go_loopw [5,6,7] (fun s5 s6 _ wr=> ∃ (i j:Nat) (X:List RwP),s5 = .int .i64 i∧s6 = .int .i64 j∧j≤n∧Hid (KpR Z q X i j∧wr.ownsRow B 154 6 (.slice (some ⟨g,0,none⟩) n cap) n (cellsR X)∧w.grownBy wr (some g))) (fun _ s6 _ _=>n - (intOf s6).toNat)
  case atStart=>exact ⟨k0,k0+1,Z,rfl,by go_num,hk0n,HK.out,HJ.out.1,HJ.out.2⟩
  case round=>
   obtain ⟨i,j,X,rfl,rfl,hjn,HR⟩:=hrel
   by_cases hlt:j<n
   ·have hltz:(j:Int)<(n:Int):=by omega
    have hjZ:j<Z.length:=by have:=HN.out;omega
    obtain ⟨hk,ho,hg⟩:=HR.out
    have hxl:X.length=n:=by rw [hk.1];exact HN.out.symm
    obtain ⟨g',eg',hr⟩:=own_range19 ho j (by omega)
    injection eg' with eg'
    subst eg';rw [hk.get hjZ] at hr;have hij:i<n:=by have:=hk.2.1;omega
    have hijz:(i:Int)<(n:Int):=by omega
    have HTh:=hid (own_there19 ho (i*6) 6 (by omega));obtain ⟨x,hx⟩: ∃ x,x=Z[j]:=⟨_,rfl⟩
    rw [← hx] at hr;have hxm:x ∈ Z:=by rw [hx];exact List.getElem_mem hjZ
    have HKs:=hid (show q x=true→KpR Z q X i (j+1) from fun h=>hk.skip hjZ (by rw [← hx];exact h));have HKk:=hid (show q x=false→KpR Z q (X.set i x) (i+1) (j+1) from fun h=>by rw [hx];exact hk.keep hjZ (by rw [← hx];exact h));have HOp:=hid (fun (Y:World) (hY:Below wr.heap.size wr Y)=>own_put19 (own_same ho hY) i hij x);have HOs:=hid (fun (Y:World) (hY:Below wr.heap.size wr Y)=>own_same ho hY);have HThY:=hid (fun (Y:World) (hY:Below wr.heap.size wr Y)=>own_there19 (own_same ho hY) (i*6) 6 (by omega));have HG:=hid hg
    have HCL:=hid (fun (Y:World) (hY:Below wr.heap.size wr Y)=>HQ.out Y x hxm (grown_t17 HG.out (below_grown17 hY _)));obtain ⟨y,hy⟩: ∃ y,y=q x:=⟨_,rfl⟩
    rw [← hy] at HCL HKs HKk;obtain ⟨S1,S2,bb1,bb2,S3,t1,hcs⟩:=rCells_six x
    unfold rVal at HCL;rw [hcs] at hr HCL HOp;have HRg:=hid hr;have HBA:=hid ((Below.refl wr.heap.size wr).alloc (Nat.le_refl _) (.cells #[.string S1,.string S2,.bool bb1,.bool bb2,.string S3,.int .i64 t1] 154));have HXg:=hid (show g<wr.heap.size from (ho.lt g rfl).2);clear hk ho hg hr hx hxm hy hcs hxl HR;have HOne:=hid (all_oneCell_toArray (cs:=[.string S1,.string S2,.bool bb1,.bool bb2,.string S3,.int .i64 t1]) (by intro v hv;simp at hv;rcases hv with rfl | rfl | rfl | rfl | rfl | rfl<;>rfl))
    cases y with
    | false=>
      go_wp2_with (refine wpList_load_mid rfl 154 (.tmp 24) rfl g (j*6) rfl [.string S1,.string S2,.bool bb1,.bool bb2,.string S3,.int .i64 t1] _ HRg.out Tryz.underlying154 rfl sizeR19 ?_)
      refine (HCL.out _ HBA.out).mono ?_;rintro e w2 ⟨rfl,hb2⟩
      have HB2:=hid (below2_Efc HBA.out hb2);have HRB:=hid (range_row_Cb (cs:=[.string S1,.string S2,.bool bb1,.bool bb2,.string S3,.int .i64 t1]) ((hb2.block _ (by simp)).trans (heap_alloc_new wr _)));have HTw:=hid (HThY.out w2 HB2.out);obtain ⟨w3,hw3⟩: ∃ W,W=w2.setCells g (i*6) [.string S1,.string S2,.bool bb1,.bool bb2,.string S3,.int .i64 t1]:=⟨_,rfl⟩
      have HW3:=hid hw3;have HP3:=hid (show w3.ownsRow B 154 6 (.slice (some ⟨g,0,none⟩) n cap) n (cellsR (X.set i x))∧w.grownBy w3 (some g) by rw [hw3];exact ⟨HOp.out _ HB2.out,grown_t17 HG.out (grown_t17 (below_grown17 HB2.out _) (grown_cells17 g _ _ _))⟩);clear hw3;clear hb2
      go_wp2_with (first | (refine wpList_load_mid rfl 154 (.tmp 7) rfl wr.heap.size 0 rfl [.string S1,.string S2,.bool bb1,.bool bb2,.string S3,.int .i64 t1] _ HRB.out Tryz.underlying154 rfl sizeR19 ?_) | (refine wpList_store_mid rfl 154 (.tmp 33) (.tmp 32) rfl g (i*6) #[.string S1,.string S2,.bool bb1,.bool bb2,.string S3,.int .i64 t1] rfl rfl HTw.out sizeR19 HOne.out ?_;refine wpList_world17 HW3.out ?_))
      go_roundw
      case rel=>
       have e4:KpR Z q (X.set i x) (i+1) (j+1)∧w3.ownsRow B 154 6 (.slice (some ⟨g,0,none⟩) n cap) n (cellsR (X.set i x))∧w.grownBy w3 (some g):=⟨HKk.out (by first | rfl | trivial),HP3.out.1,HP3.out.2⟩
       first
        | exact ⟨i+1,j+1,_,by go_num,by go_num,by omega,e4⟩
        | ((repeat apply Exists.intro);exact ⟨⟨i+1,j+1,_,by go_num,by go_num,by omega,e4⟩,rfl⟩)
      case measure=>simp [intOf];omega
    | true=>
      go_wp2_with (refine wpList_load_mid rfl 154 (.tmp 24) rfl g (j*6) rfl [.string S1,.string S2,.bool bb1,.bool bb2,.string S3,.int .i64 t1] _ HRg.out Tryz.underlying154 rfl sizeR19 ?_)
      refine (HCL.out _ HBA.out).mono ?_;rintro e w2 ⟨rfl,hb2⟩
      have HB2:=hid (below2_Efc HBA.out hb2);have HRB:=hid (range_row_Cb (cs:=[.string S1,.string S2,.bool bb1,.bool bb2,.string S3,.int .i64 t1]) ((hb2.block _ (by simp)).trans (heap_alloc_new wr _)));have HTw:=hid (HThY.out w2 HB2.out);clear hb2
      go_wp2_with fail
      go_roundw
      case rel=>
       have e4:KpR Z q X i (j+1)∧w2.ownsRow B 154 6 (.slice (some ⟨g,0,none⟩) n cap) n (cellsR X)∧w.grownBy w2 (some g):=⟨HKs.out (by first | rfl | trivial),HOs.out _ HB2.out,grown_t17 HG.out (below_grown17 HB2.out _)⟩
       first
        | exact ⟨i,j+1,_,rfl,by go_num,by omega,e4⟩
        | ((repeat apply Exists.intro);exact ⟨⟨i,j+1,_,rfl,by go_num,by omega,e4⟩,rfl⟩)
      case measure=>simp [intOf];omega
   ·obtain rfl:j=n:=by omega
    have hltz: ¬ (j:Int)<(j:Int):=by omega
    obtain ⟨hk,ho,hg⟩:=HR.out
    rw [HN.out] at hk;obtain ⟨e1,e2,e3⟩:=hk.done
    rw [← HN.out] at e3;obtain ⟨vs,hvs,hcl⟩: ∃ vs:List Value,vs.length=(j - i)*6 ∧ ∀ ty,(Builtin.clear_ #[143] ty #[.slice (some ⟨g,i*6,none⟩) (j - i) (cap - i)]).run Tryz.prog wr = .ok (.tuple #[]) (wr.setCells g (i*6) vs):=by
     have h0:=own_there19 ho (i*6) ((j - i)*6) (by omega)
     obtain ⟨vs,h1,h2⟩:=run_clear19 wr 0 g (i*6) (j - i) (cap - i) (by omega) h0
     exact ⟨vs,h1,fun ty=>h2⟩
    have HE:=hid (show (wr.setCells g (i*6) vs).ownsRow B 154 6 (.slice (some ⟨g,0,none⟩) (Z.filter fun z=> !q z).length cap) (Z.filter fun z=> !q z).length (cellsR (Z.filter fun z=> !q z))∧w.grownBy (wr.setCells g (i*6) vs) (some g) by
     have h1:=own_cut19 ho i (by omega) vs (by omega)
     rw [e1] at h1;rw [e2];exact ⟨h1,grown_t17 hg (grown_cells17 g _ _ _)⟩)
    have HL:=hid e2;have hic:i≤cap:=by omega
    have hij:i<j:=by omega
    clear hk ho hg e1 e2 hvs HR
    go_wp2
    go_ret
    refine ⟨some ⟨g,0,none⟩,cap,?_,HE.out.1,HE.out.2,fun g' h=>by simpa [Value.ownBlock] using h⟩;rw [HL.out];rfl

theorem own_del19 {w:World} {B g n cap:Nat} {T:TypeId} {X:List RwP} (h:w.ownsRow B T 6 (.slice (some ⟨g,0,none⟩) n cap) n (cellsR X)) (i:Nat) (hi:i<n):(w.setCells g (i*6) (cellsR (X.drop (i+1)))).ownsRow B T 6 (.slice (some ⟨g,0,none⟩) (n - 1) cap) (n - 1) (cellsR (X.eraseIdx i)):=by
 have hX:X.length=n:=by have:=h.1;rw [cellsR_len] at this;omega
 obtain ⟨cur,hg,hrow,_,hnc,hcm,hcs,htake⟩:=own_in17 h
 have hvl:(cellsR (X.drop (i+1))).length=(n - 1 - i)*6:=by rw [cellsR_len,List.length_drop];omega
 obtain ⟨vs,hvs⟩: ∃ vs,vs=cellsR (X.drop (i+1)):=⟨_,rfl⟩
 rw [← hvs] at hvl ⊢;have h2:=heap_cells17 vs (i*6) w cur hrow (by rw [hcs,hvl];omega)
 have ht:(cur.toList.take (i*6)).length=i*6:=by rw [List.length_take,Array.length_toList (xs:=cur)];exact Nat.min_eq_left (by omega)
 have e1:cur.toList.take (i*6)=cellsR (X.take i):=by
  rw [← cellsR_take,← htake,List.take_take,Nat.min_eq_left (by omega)]
 have e2:X.eraseIdx i=X.take i++X.drop (i+1):=List.eraseIdx_eq_take_drop_succ X i;refine ⟨by rw [e2,cellsR_app,List.length_append,← hvs,hvl,cellsR_len,List.length_take];omega,.inr ⟨g,cap,_,rfl,hg,h2,by omega,hcm,?_,?_⟩⟩
 ·clear h2 hrow hcm htake h
  rw [List.size_toArray,List.length_append,List.length_append,ht,List.length_drop,Array.length_toList (xs:=cur)]
  omega
 ·show List.take ((n - 1)*6) (cur.toList.take (i*6)++(vs++_))=_
  have key: ∀ (P Q:List Value),P.length=i*6→(P++(vs++Q)).take ((n - 1)*6)=P++vs:=by
   intro P Q hP;rw [List.take_append,hP,List.take_of_length_le (l:=P) (by omega),List.take_append,List.take_of_length_le (l:=vs) (by omega),show (n - 1)*6 - i*6 - vs.length=0 by omega,List.take_zero,List.append_nil]
  rw [key _ _ ht,e1,e2,cellsR_app,hvs]

set_option maxHeartbeats 2000000 in
set_option maxRecDepth 100000 in
theorem delete19_any (g cap i j:Nat) (hj:j=i+1) (Z:List RwP) (w:World) (B:Nat) (hown:w.ownsRow B 154 6 (.slice (some ⟨g,0,none⟩) Z.length cap) Z.length (cellsR Z)) (hi:i<Z.length) (hl:Z.length≤1000000):
 Calls Tryz.prog 144 #[.slice (some ⟨g,0,none⟩) Z.length cap,.int .i64 (i:Int),.int .i64 (j:Int)] w fun e w'=>e = .returned (.slice (some ⟨g,0,none⟩) (Z.length - 1) cap)∧w'.ownsRow B 154 6 (.slice (some ⟨g,0,none⟩) (Z.length - 1) cap) (Z.length - 1) (cellsR (Z.eraseIdx i))∧w.grownBy w' (some g):=by
 obtain ⟨i0,hi0,hz0,hz1,hz2⟩:=info3 infoR19
 obtain ⟨cur0,_,_,_,hncap,hcapm,_⟩:=own_in17 hown
 obtain ⟨news,hnews⟩: ∃ news,news=cellsR (Z.drop (i+1)):=⟨_,rfl⟩
 obtain ⟨n,hn⟩: ∃ n,n=Z.length:=⟨_,rfl⟩
 have hlen:news.length=(n - j)*6:=by rw [hnews,cellsR_len,List.length_drop,hn,hj]
 have hdel:=own_del19 hown i hi;rw [← hnews] at hdel;obtain ⟨A,hA,hsrc⟩: ∃ A:Addr,(if cap=j then some (⟨g,0,none⟩:Addr) else some ⟨g,j*6,none⟩)=some A∧Hid (∀ t u,news[t]? = some u→w.drew.cell? (A.add t)=some u):=by
  by_cases h:cap=j
  ·refine ⟨⟨g,0,none⟩,by simp [h],fun t u hu=> ?_⟩
   have h0:news.length=0:=by rw [hlen];omega
   rw [List.length_eq_zero_iff.1 h0] at hu;simp at hu
  ·refine ⟨⟨g,j*6,none⟩,by simp [h],fun t u hu=> ?_⟩
   rw [hnews,← cellsR_drop,List.getElem?_drop,← hj] at hu
   rw [Addr.add_mid];have hlt:=(List.getElem?_eq_some_iff.1 hu).1;rw [cellsR_len] at hlt;have:=hown.cellAt (j*6+t) hlt;show w.cell? _=_;rw [this];exact hu
 have s1:Hid (news.length=(n - j)*6):=hlen;have s2:Hid (∀ u ∈ news,u.oneCell'=true):=by
  intro u hu;rw [hnews] at hu;exact cellsR_one1 _ u hu
 have s3:Hid (∀ t,t<news.length→(w.drew.cell? ⟨g,0+i*6+t,none⟩).isSome=true∧w.drew.frozen? ⟨g,0+i*6+t,none⟩=false):=by
  intro t ht;rw [hlen] at ht;have h0:=own_there19 hown (i*6) ((n - j)*6) (by omega)
  rw [Nat.zero_add];exact h0 t ht
 obtain ⟨W1,hW1⟩: ∃ W1,W1=w.drew.setCells g (0+i*6) news:=⟨_,rfl⟩
 have hO1:W1.ownsRow B 154 6 (.slice (some ⟨g,0,none⟩) (n - 1) cap) (n - 1) (cellsR (Z.eraseIdx i)):=by
  rw [hW1,Nat.zero_add,hn]
  have hd:w.drew.ownsRow B 154 6 (.slice (some ⟨g,0,none⟩) Z.length cap) Z.length (cellsR Z):=hown;have:=own_del19 hd i hi;rw [← hnews] at this;exact this
 have hG1:w.grownBy W1 (some g):=by
  rw [hW1];exact grown_t17 (b:=w.drew) ⟨rfl,rfl,rfl,Nat.le_refl _,fun _ _ _=>rfl⟩ (grown_cells17 g _ _ _)
 obtain ⟨vs,hvs,hcl⟩: ∃ vs:List Value,vs.length=6 ∧ ∀ ty,(Builtin.clear_ #[143] ty #[.slice (some ⟨g,(n - 1)*6,none⟩) 1 (cap - (n - 1))]).run Tryz.prog W1 = .ok (.tuple #[]) (W1.setCells g ((n - 1)*6) vs):=by
  have h0:=own_there19 hO1 ((n - 1)*6) (1*6) (by omega)
  obtain ⟨vs,h1,h2⟩:=run_clear19 W1 0 g ((n - 1)*6) 1 (cap - (n - 1)) (by omega) h0
  exact ⟨vs,h1,fun ty=>h2⟩
 have HE:=hid (show (W1.setCells g ((n - 1)*6) vs).ownsRow B 154 6 (.slice (some ⟨g,0,none⟩) (n - 1) cap) (n - 1) (cellsR (Z.eraseIdx i))∧w.grownBy (W1.setCells g ((n - 1)*6) vs) (some g) by
  have h1:=own_cut19 hO1 (n - 1) (Nat.le_refl _) vs (by omega)
  rw [List.take_of_length_le (by rw [List.length_eraseIdx];split<;>omega)] at h1;exact ⟨h1,grown_t17 hG1 (grown_cells17 g _ _ _)⟩)
 have hW:Hid (W1=w.drew.setCells g (0+i*6) news):=hW1;rw [← hn] at hi hl hncap ⊢;have hic:i≤cap:=by omega
 have hjc:j≤cap:=by omega
 have hjn:j≤n:=by omega
 have hij:i<j:=by omega
 have hne:((i:Int)==(j:Int))=false:=beq_eq_false_iff_ne.2 (by omega)
 have hcl2: ∀ ty,(Builtin.clear_ #[143] ty #[.slice (some ⟨g,(i+(n - j))*6,none⟩) (n - (i+(n - j))) (cap - (i+(n - j)))]).run Tryz.prog W1 = .ok (.tuple #[]) (W1.setCells g ((n - 1)*6) vs):=by
  rw [show i+(n - j)=n - 1 by omega,show n - (n - 1)=1 by omega];exact hcl
 have HNJ:=hid (show i+(n - j)=n - 1 by omega);clear hown hnews hlen hdel hW1 hO1 hG1 hvs  hn hcl hj
 go_enter Tryz.func144,Tryz.ntmps144
 go_wp2_with fail
 go_region_law (refine step_append_room rfl (.tmp 22) (.tmp 25) 143 rfl 154 i0 6 Tryz.underlying143 hi0 hz1 g 0 i cap (by simp [Act.eval,Act.put]) A (n - j) (cap - j) news (by simp [Act.eval,Act.put]) s1.out hsrc.out s2.out (by omega) s3.out ?_;rw [← hW.out])
 go_wp2
 go_ret
 refine ⟨?_,HE.out.1,HE.out.2⟩
 rw [← HNJ.out];rfl

set_option maxHeartbeats 1000000 in
theorem containsR19_any (f:Nat) (lb:Array Value) (eg: ∀ args w,(callFunc f args).run Tryz.prog w = .ok (.enter f args) w) (q:RwP→Bool) (v:Value) (Z:List RwP) (w:World) (hv:RlAt w v Z) (hl:Z.length≤1000000) (hq: ∀ (X:World) (z:RwP),z ∈ Z→Below w.heap.size w X→Calls Tryz.prog f (#[rVal z]++lb) X fun e w'=>e = .returned (.bool (q z))∧Below X.heap.size X w'):
 Calls Tryz.prog 145 #[v,.func (.func f) #[] lb] w fun e w'=>e = .returned (.bool (Z.any q))∧Below w.heap.size w w':=by
 have HI:=hid (indexR19_any f lb eg q v Z w hv hl hq);have hz:decide (0≤idxR q Z)=Z.any q:=by
  unfold idxR
  cases h:Z.findIdx? fun z=>q z with
  | none=>
    rw [List.findIdx?_eq_none_iff] at h;have:Z.any q=false:=by rw [List.any_eq_false];intro x hx;rw [h x hx];decide
    rw [this];rfl
  | some k=>
    rw [List.findIdx?_eq_some_iff_getElem] at h;obtain ⟨hk,h1,_⟩:=h
    have:Z.any q=true:=List.any_eq_true.2 ⟨_,List.getElem_mem hk,h1⟩
    rw [this];show decide ((0:Int)≤(k:Int))=true;exact decide_eq_true (by omega)
 have HZ:=hid hz;obtain ⟨z,hzz⟩: ∃ z,z=idxR q Z:=⟨_,rfl⟩
 rw [← hzz] at HI HZ;obtain ⟨a1,c1,rfl,_,_,_⟩:=hv.view
 clear hv hl hq hz hzz
 go_enter Tryz.func145,Tryz.ntmps145
 go_wp2_with fail
 refine HI.out.mono ?_;rintro e w2 ⟨rfl,hb⟩
 have HB:=hid hb;clear hb
 go_wp2_with fail
 go_ret
 exact ⟨ret_bool HZ.out,HB.out⟩

end Go.Proofs.YtolioccofbhliaaGreatDoor

namespace Go.Proofs.YtolioccofbhliaaGreatDoor
open Go.RowKit

theorem simple18_any (s:ByteArray) (w:World):Calls Tryz.prog 134 #[.string s] w fun e w'=>e = .returned (.bool (simM s.data.toList))∧w=w':=by
 obtain ⟨b,hb⟩: ∃ b,b=simM s.data.toList:=⟨_,rfl⟩
 rw [← hb];by_cases h1:s.data.toList=[71,69,84]
 ·have e1:=lst_yes h1
  subst e1;obtain rfl:b=true:=by rw [hb];rfl
  clear hb h1
  go_enter Tryz.func134,Tryz.ntmps134
  go_wp2_with fail
  go_ret
  exact ⟨rfl,rfl⟩
 by_cases h2:s.data.toList=[72,69,65,68]
 ·have e1:=lst_yes h2
  subst e1;obtain rfl:b=true:=by rw [hb];rfl
  clear hb h1 h2
  go_enter Tryz.func134,Tryz.ntmps134
  go_wp2_with fail
  go_ret
  exact ⟨rfl,rfl⟩
 by_cases h3:s.data.toList=[80,79,83,84]
 ·have e1:=lst_yes h3
  subst e1;obtain rfl:b=true:=by rw [hb];rfl
  clear hb h1 h2 h3
  go_enter Tryz.func134,Tryz.ntmps134
  go_wp2_with fail
  go_ret
  exact ⟨rfl,rfl⟩
 have m1:=lst_ne h1;have m2:=lst_ne h2;have m3:=lst_ne h3;obtain rfl:b=false:=by rw [hb];unfold simM;simp [h1,h2,h3]
 clear hb h1 h2 h3
 go_enter Tryz.func134,Tryz.ntmps134
 go_wp2_with fail
 go_ret
 exact ⟨rfl,rfl⟩

end Go.Proofs.YtolioccofbhliaaGreatDoor

namespace Go.Proofs.YtolioccofbhliaaGreatDoor
open Go.RowKit

def StrT (w:World) (g:Nat) (L:List (List UInt8)) (k:Nat):Prop:=
 ∃ cur:Array Value,w.heap[g]? = some (.cells cur 9 (0,0))∧cur.size=L.length ∧ ∀ j (h:j<L.length),j<k→cur[j]? = some (.string ⟨L[j].toArray⟩)

theorem StrT.kept {w w':World} {g:Nat} {L:List (List UInt8)} {k:Nat} (h:StrT w g L k) (hb:Below w.heap.size w w'):StrT w' g L k:=by
 obtain ⟨cur,hg,h2⟩:=h
 exact ⟨cur,row_kept hg hb,h2⟩

theorem StrT.cell {w:World} {g:Nat} {L:List (List UInt8)} {k:Nat} (h:StrT w g L k) (j:Nat) (hj:j<L.length): ∃ v,w.cell? ⟨g,j,none⟩=some v:=by
 obtain ⟨cur,hg,hs,_⟩:=h
 rw [cell_of_row w g j cur _ _ hg];exact ⟨cur[j],by simp [hs,hj]⟩

theorem StrT.frozen {w:World} {g:Nat} {L:List (List UInt8)} {k:Nat} (h:StrT w g L k) (j:Nat):w.frozen? ⟨g,j,none⟩=false:=by
 obtain ⟨cur,hg,_⟩:=h
 simp [World.frozen?,hg]

theorem StrT.set {w:World} {g:Nat} {L:List (List UInt8)} {k:Nat} (h:StrT w g L k) (hk:k<L.length):StrT (w.setCell ⟨g,k,none⟩ (.string ⟨L[k].toArray⟩)) g L (k+1):=by
 obtain ⟨cur,hg,hs,hc⟩:=h
 refine ⟨_,Lib.heap_setCell_same hg _,by simpa using hs,?_⟩
 intro j hj hj2;by_cases e:k=j
 ·subst e
  have:k<cur.size:=by omega
  simp [this]
 ·simp [Array.getElem?_setIfInBounds,e]
  exact hc j hj (by omega)

theorem StrT.own {w:World} {B g:Nat} {L:List (List UInt8)} (h:StrT w g L L.length) (hB:B≤g) (hl:L.length≤maxLen):w.ownsRow B 9 1 (.slice (some ⟨g,0,none⟩) L.length L.length) L.length (cellsS L):=by
 obtain ⟨cur,hg,hs,hc⟩:=h
 refine ⟨by simp [cellsS_len],.inr ⟨g,L.length,cur,rfl,hB,hg,Nat.le_refl _,hl,by simpa using hs,?_⟩⟩
 apply List.ext_getElem?;intro j;by_cases hj:j<L.length
 ·have:=hc j hj hj
  rw [Nat.mul_one,List.getElem?_take,if_pos hj]
  simp only [cellsS,List.getElem?_map,List.getElem?_eq_getElem hj,Option.map_some]
  simpa using this
 ·rw [List.getElem?_eq_none (by simp;omega),List.getElem?_eq_none (by simp [cellsS];omega)]

end Go.Proofs.YtolioccofbhliaaGreatDoor

namespace Go.Proofs.YtolioccofbhliaaGreatDoor
open Go.RowKit

def cellsU (P:List (Adr×Value)):List Value:=P.flatMap fun p=>adrCells p.1 p.2

def UlAt (w:World) (v:Value) (P:List (Adr×Value)):Prop:=
 ∃ a cap,v = .slice a P.length cap∧P.length≤cap∧cap≤maxLen ∧ ∀ i (h:i<P.length),∃ g o,a=some ⟨g,o,none⟩∧w.rangeAt g (o+i*12) (adrCells P[i].1 P[i].2)∧PathAt w P[i].2 P[i].1.path∧TrOk P[i].1

theorem UlAt.view {w:World} {v:Value} {P:List (Adr×Value)} (h:UlAt w v P): ∃ a cap,v = .slice a P.length cap∧P.length≤cap∧cap≤maxLen ∧ ∀ i (h:i<P.length),∃ g o,a=some ⟨g,o,none⟩∧w.rangeAt g (o+i*12) (adrCells P[i].1 P[i].2)∧PathAt w P[i].2 P[i].1.path∧TrOk P[i].1:=h

theorem range_kept {w w':World} {g o:Nat} {cs:List Value} (h:w.rangeAt g o cs) (hb:Below w.heap.size w w'):w'.rangeAt g o cs:=fun j v hv=>by
 have h1:=h j v hv;exact (hb.cell (World.block_lt_of_cell? w _ h1)).trans h1

theorem UlAt.kept {w w':World} {v:Value} {P:List (Adr×Value)} (h:UlAt w v P) (hb:Below w.heap.size w w'):UlAt w' v P:=by
 obtain ⟨a,cap,e,h1,h2,h3⟩:=h
 refine ⟨a,cap,e,h1,h2,fun i hi=> ?_⟩
 obtain ⟨g,o,e1,e2,e3,e4⟩:=h3 i hi
 exact ⟨g,o,e1,range_kept e2 hb,e3.kept hb,e4⟩

theorem UlAt.take {w:World} {a:Option Addr} {n cap:Nat} {P:List (Adr×Value)} (h:UlAt w (.slice a n cap) P) (k:Nat) (hk:k≤P.length):UlAt w (.slice a k cap) (P.take k):=by
 obtain ⟨a',cap',e,h1,h2,h3⟩:=h
 injection e with e1 e2 e3
 subst e1;subst e3;have hl:(P.take k).length=k:=by rw [List.length_take];omega
 refine ⟨a,cap,by rw [hl],by rw [hl];omega,h2,fun i hi=> ?_⟩
 rw [hl] at hi;obtain ⟨g,o,e1,e2,e3,e4⟩:=h3 i (by omega)
 rw [List.getElem_take];exact ⟨g,o,e1,e2,e3,e4⟩

end Go.Proofs.YtolioccofbhliaaGreatDoor

namespace Go.Proofs.YtolioccofbhliaaGreatDoor
open Go.RowKit

def UlO (w:World) (B:Nat) (P:List (Adr×Value)):Prop:= ∀ p ∈ P,w.ownsRow B 9 1 p.2 p.1.path.length (cellsS p.1.path)∧TrOk p.1

theorem UlO.kept {w w':World} {B:Nat} {P:List (Adr×Value)} (h:UlO w B P) (hb:Below w.heap.size w w'):UlO w' B P:=fun p hp=>⟨own_kept (h p hp).1 hb,(h p hp).2⟩

theorem UlO.grown {w w':World} {B n:Nat} {v:Value} {cs:List Value} {P:List (Adr×Value)} (h:UlO w B P) (hv:w.ownsRow B 130 12 v n cs) (hg:w.grownBy w' v.ownBlock):UlO w' B P:=fun p hp=>by
 refine ⟨ownsRow_same (h p hp).1 fun g e=> ?_,(h p hp).2⟩;obtain ⟨cur,hc⟩:=ownsRow_kind (h p hp).1 g e
 refine hg.block g (Array.getElem?_eq_some_iff.1 hc).1 (fun e2=> ?_);obtain ⟨c2,hc2⟩:=ownsRow_kind hv g e2.symm
 rw [hc] at hc2;injection hc2 with hc2
 injection hc2 with _ hc2 _
 exact absurd hc2 (by decide)

def UrI (w:World) (v:Value) (A:List Adr) (wr:World):Prop:= ∃ P,P.map (·.1)=A∧wr.ownsRow w.heap.size 130 12 v A.length (cellsU P)∧UlO wr w.heap.size P∧Below w.heap.size w wr

theorem UrI.below {w wr w':World} {v:Value} {A:List Adr} (h:UrI w v A wr) (hb:Below wr.heap.size wr w'):UrI w v A w':=by
 obtain ⟨P,h1,h2,h3,h4⟩:=h
 exact ⟨P,h1,own_kept h2 hb,h3.kept hb,below2 h4 hb⟩

end Go.Proofs.YtolioccofbhliaaGreatDoor
