/-
  Walks and plain facts that this claim leans on, put together out of 14 texts: Xc, Xi, Za, Ejx, Qa, Rb, La, Ln, Bk0, Bksc, Bksk, Bksg, Bksi, Eju.
-/
import Derived.Test.YtolioccofbhliaaGreatDoorProg
import Derived.Test.YtolioccofbhliaaGreatDoorQp1
import Derived.Test.YtolioccofbhliaaGreatDoorQp2
import Derived.Test.YtolioccofbhliaaGreatDoorQp3
import Derived.Test.YtolioccofbhliaaGreatDoorQp4
import Derived.Test.YtolioccofbhliaaGreatDoorQp5
import Derived.Test.YtolioccofbhliaaGreatDoorQp6
import Derived.Test.YtolioccofbhliaaGreatDoorQp7
import Derived.Test.YtolioccofbhliaaGreatDoorQp8
import Derived.Test.YtolioccofbhliaaGreatDoorQp9
import Derived.Test.YtolioccofbhliaaGreatDoorQp10
import Derived.Test.YtolioccofbhliaaGreatDoorQp11
import Derived.Test.YtolioccofbhliaaGreatDoorQp12
import Derived.Test.YtolioccofbhliaaGreatDoorQp13
import Derived.Test.YtolioccofbhliaaGreatDoorQp14
import Derived.Test.YtolioccofbhliaaGreatDoorQp15
import Derived.Test.YtolioccofbhliaaGreatDoorQp16
import Derived.Test.YtolioccofbhliaaGreatDoorQp17
import Derived.Test.YtolioccofbhliaaGreatDoorQp18
import Derived.Test.YtolioccofbhliaaGreatDoorQp19
import Derived.Test.YtolioccofbhliaaGreatDoorQp20
import Derived.Test.YtolioccofbhliaaGreatDoorQp21
import Derived.Test.YtolioccofbhliaaGreatDoorQp22
import Derived.Test.YtolioccofbhliaaGreatDoorQp23
import Derived.Test.YtolioccofbhliaaGreatDoorQp24
import Derived.Test.YtolioccofbhliaaGreatDoorQp25
import Derived.Test.YtolioccofbhliaaGreatDoorQp26
import Derived.Test.YtolioccofbhliaaGreatDoorQp27
import Derived.Test.YtolioccofbhliaaGreatDoorQp28
import Derived.WalkKit
import Derived.Lib.Strings
import Derived.Lib.UnsafeStr
import Derived.Laws.IdiomStrings
import Derived.Laws.AppendOwn
import Derived.Lib.BufferMore
import Derived.Lib.SlTrimSet
import Derived.Lib.Join
import Derived.Lib.IndexMore
import Derived.Laws.OwnMore
import Derived.Below
import Derived.WalkSmall
import Derived.Lib.SmallJoins
import Derived.Laws.BitsAllLaws
import Derived.Lib.Bytealg
import Derived.WalkSpells
import Derived.WalkLawsBesides
import Derived.Deep.QuietTactic
import Derived.BigQuiet
import Derived.Deep.LoopGhost
import Derived.Deep.MidRow
import Derived.Shelf.Strings.Builder1
import Derived.Shelf.Strings.Builder2
import Derived.Shelf.Strings.OnBuilder
import Derived.Shelf.Strings.Trim
import Derived.Shelf.Small.Utf8
import Derived.Shelf.Small.Bits
import Derived.Shelf.Small.Strs
import Derived.Shelf.Small.Wraps
import Derived.Shelf.Strings.BuilderF
import Derived.Shelf.Strings.BuilderK
import Derived.Shelf.Strings.Builder2Cap
import Derived.Shelf.Strconv.Itoa0
import Derived.Shelf.Strconv.Itoa1
import Derived.Shelf.LaysM
import Derived.Shelf.Strconv.Itoa2
import Derived.Shelf.Strconv.Itoa3
import Derived.Shelf.Strings.Search1
import Derived.Shelf.Strings.Search2
import Derived.Shelf.Strings.Cut
import Derived.Shelf.Strings.Shaped
import Derived.Shelf.Sort.Plain
import Derived.Shelf.Strings.Prefix
import Derived.Shelf.Strings.Runes
import Derived.Shelf.Strings.IndexAny
import Derived.Shelf.Strings.AsciiSet
import Derived.Shelf.Strings.IndexAnyAll
import Derived.Shelf.Unicode.DecodeSlow
import Derived.Shelf.Unicode.DecodeAny
import Derived.Shelf.Unicode.DecodeLast
import Derived.Shelf.Slices.CompactS
import Derived.Shelf.Slices.In.SortNone
import Derived.Ground.SlgnProg
import Derived.Shelf.SlicesE.Compact
import Derived.Ground.SlgfProg
import Derived.Shelf.SlicesE.IndexFunc
import Derived.Shelf.SlicesE.DeleteFunc
import Derived.Shelf.Strings.SlTrimAscii
import Derived.Deep.CutRange
import Derived.Laws.Rows
import Derived.Laws.CopyOwn
import Derived.Laws.MakeOwn
import Derived.Laws.RangeAny
import Derived.Lib.DecodeN
import Derived.Lib.OthersKept
import Derived.RegionTactic
import Derived.Deep.RegionWith
import Derived.Laws.Runes
import Derived.Deep.WholeRow
import Derived.Deep.RegionLaw
import Derived.Deep.RegionHeldLaw
import Derived.BigRegion
import Derived.Deep.RegionHeld
import Derived.Lib.IndexAny
import Derived.Lib.BufferRead
import Derived.Lib.RuneBytes
import Derived.Maps.OwnSet
import Derived.Maps.OwnOps
import Derived.Maps.AppendAt
import Derived.StringKeys
import Derived.LoopN
import Derived.Lib.FieldsP
import Derived.Laws.ResultCell
import Derived.Lib.LaidTab
import Derived.Lib.AppendIntMem
import Derived.Lib.FrozenHead2
import Derived.Lib.Builder
import Derived.Lib.AppendStr
import Derived.Lib.Replace
import Derived.Shelf.GgClosure.GivesRunes
import Derived.Laws.BitsAll
import Derived.Laws.Shifts
import Derived.Deep.DeepAppendRoom
import Derived.Laws.BytesString
import Derived.Laws.CopyRow
import Derived.Sort.OwnSorted
import Derived.Lib.SlicesCompact
import Derived.Lib.SliceRun
import Derived.Sort.KeysCollected
import Derived.Lib.Case
import Derived.Deep.Cut
import Derived.Lib.LastIndexByte
import Derived.OwnWalk
import Derived.Laws.AppendOwnNone
import Derived.Scope
import Derived.ScopeJumps
import Derived.WalkMore
import Derived.Lib.TrimByte
import Derived.Lib.ItoaNum
import Derived.Shelf.Spec.SearchS
import Derived.Sort.Walk0
set_option linter.unusedSimpArgs false
set_option linter.unusedVariables false

namespace Go.Proofs.YtolioccofbhliaaGreatDoor
open Go.RowKit

theorem cellsH_app (a b:List Hd):cellsH (a++b)=cellsH a++cellsH b:=by simp [cellsH]

end Go.Proofs.YtolioccofbhliaaGreatDoor

namespace Go.Proofs.YtolioccofbhliaaGreatDoor
open Go.RowKit

theorem infoHd:(Tryz.prog.info? 45).map (fun i=>(i.zero,i.size,i.bytes))=some (some (.agg #[.string ByteArray.empty,.string ByteArray.empty]),2,32):=by kernel_rfl

end Go.Proofs.YtolioccofbhliaaGreatDoor

namespace Go.Proofs.YtolioccofbhliaaGreatDoor
open Go.RowKit

theorem hd_ext {a b:Hd} (h1:a.name=b.name) (h2:a.value=b.value):a=b:=by cases a;cases b;simp at h1 h2;simp [h1,h2]

set_option maxHeartbeats 2000000 in
theorem sameH_any (v1 v2:Value) (L1 L2:List Hd) (w:World) (h1:HdAt w v1 L1) (h2:HdAt w v2 L2) (hl1:L1.length≤1000000) (hl2:L2.length≤1000000):
 Calls Tryz.prog 19 #[v1,v2] w fun e w'=>e = .returned (.bool (decide (L1=L2)))∧Below w.heap.size w w':=by
 obtain ⟨a1,c1,rfl,hc1,hm1,hv1⟩:=h1.view
 obtain ⟨a2,c2,rfl,hc2,hm2,hv2⟩:=h2.view
 have V1:=hid hv1;have V2:=hid hv2;clear h1 h2 hv1 hv2;by_cases hl:L1.length=L2.length
 ·have hl':((L1.length:Int)==(L2.length:Int))=true:=by rw [beq_iff_eq];omega
  go_enter Tryz.func19,Tryz.ntmps19
  go_wp2
  go_loopw [5] (fun i wr=> ∃ k:Nat,k≤L1.length∧i = .int .i64 k∧(∀ j (h1:j<L1.length) (h2:j<L2.length),j<k→L1[j]=L2[j])∧Below w.heap.size w wr) (fun i _=>L1.length - (intOf i).toNat)
  case atStart=>exact ⟨0,Nat.zero_le _,rfl,fun j _ _ h=>absurd h (by omega),Below.refl _ _⟩
  case round=>
   obtain ⟨k,hk,rfl,hall,hb⟩:=hrel
   have HA:=hid hall;clear hall;by_cases hlt:k<L1.length
   ·have hlt':(k:Int)<(L1.length:Int):=by omega
    have hlt2':(k:Int)<(L2.length:Int):=by omega
    obtain ⟨b1,o1,rfl,e1,e1'⟩:=V1.out k hlt
    obtain ⟨b2,o2,rfl,e2,e2'⟩:=V2.out k (by omega)
    have f1:wr.cell? ⟨b1,o1+k*2,none⟩=some (.string ⟨L1[k].name.toArray⟩):=(hb.cell (World.block_lt_of_cell? w _ e1)).trans e1
    have f1':wr.cell? ⟨b1,o1+k*2+1,none⟩=some (.string ⟨L1[k].value.toArray⟩):=(hb.cell (World.block_lt_of_cell? w _ e1')).trans e1'
    have f2:wr.cell? ⟨b2,o2+k*2,none⟩=some (.string ⟨(L2[k]'(by omega)).name.toArray⟩):=(hb.cell (World.block_lt_of_cell? w _ e2)).trans e2
    have f2':wr.cell? ⟨b2,o2+k*2+1,none⟩=some (.string ⟨(L2[k]'(by omega)).value.toArray⟩):=(hb.cell (World.block_lt_of_cell? w _ e2')).trans e2'
    clear e1 e2 e1' e2';obtain ⟨x,hx⟩: ∃ x,x=L1[k].name:=⟨_,rfl⟩
    obtain ⟨x',hx'⟩: ∃ x,x=L1[k].value:=⟨_,rfl⟩
    obtain ⟨y,hy⟩: ∃ y,y=(L2[k]'(by omega)).name:=⟨_,rfl⟩
    obtain ⟨y',hy'⟩: ∃ y,y=(L2[k]'(by omega)).value:=⟨_,rfl⟩
    rw [← hx] at f1;rw [← hx'] at f1';rw [← hy] at f2;rw [← hy'] at f2';have HX:=hid hx;have HY:=hid hy;have HX':=hid hx';have HY':=hid hy';clear hx hy hx' hy';by_cases hxy:x=y∧x'=y'
    ·obtain ⟨rfl,rfl⟩:=hxy
     go_wp2
     go_quiet (fail)
     go_wp2
     go_roundw
     case rel=>
      refine ⟨k+1,by omega,by go_num,fun j h1 h2 hj=> ?_,Go.below_drewN hb _⟩;by_cases he:j=k
      ·subst he;exact hd_ext (by rw [← HX.out,← HY.out]) (by rw [← HX'.out,← HY'.out])
      ·exact HA.out j h1 h2 (by omega)
     case measure=>simp [intOf];omega
    ·have HN:=hid (show ¬ L1=L2 from fun e=>hxy ⟨by rw [HX.out,HY.out];subst e;rfl,by rw [HX'.out,HY'.out];subst e;rfl⟩)
     by_cases hx1:x=y
     ·subst hx1
      have hne:(x'==y')=false:=by
       rw [beq_eq_false_iff_ne];exact fun e=>hxy ⟨rfl,e⟩
      clear hxy
      go_wp2
      go_quiet (fail)
      go_wp2
      go_ret
      exact ⟨ret_bool (by simp [HN.out]),Go.below_drewN hb _⟩
     ·have hne:(x==y)=false:=by
       rw [beq_eq_false_iff_ne];exact hx1
      clear hxy hx1
      go_wp2
      go_quiet (fail)
      go_wp2
      go_ret
      exact ⟨ret_bool (by simp [HN.out]),Go.below_drewN hb _⟩
   ·have HE:=hid (show L1=L2 from list_eq_of hl fun j h1 h2=>HA.out j h1 h2 (by omega))
    go_wp2
    go_ret
    exact ⟨ret_bool (by simp [HE.out]),hb⟩
 ·have hl':((L1.length:Int)==(L2.length:Int))=false:=by rw [beq_eq_false_iff_ne];omega
  have HN:=hid (show ¬ L1=L2 from fun e=>hl (by rw [e]))
  go_enter Tryz.func19,Tryz.ntmps19
  go_wp2
  go_ret
  exact ⟨ret_bool (by simp [HN.out]),Below.refl _ _⟩

end Go.Proofs.YtolioccofbhliaaGreatDoor

namespace Go.Proofs.YtolioccofbhliaaGreatDoor
open Go.RowKit

theorem hd_own19 (w:World) (L:List Hd) (n:Nat) (hn:L.length=n) (h:n≤1000):(w.alloc (.cells (cellsH L).toArray 45)).ownsRow w.heap.size 45 2 (.slice (some ⟨w.heap.size,0,none⟩) n n) n (cellsH L):=by
 subst hn;have h1:=World.ownsRow_lit (base:=w.heap.size) (e:=45) (size:=2) w (cellsH L).toArray L.length (Nat.le_refl _) (by unfold maxLen;omega) (by rw [List.size_toArray,cellsH_len])
 rw [List.toList_toArray] at h1;exact h1

def AkP (L:List Hd) (w:World) (e:Ending) (w':World):Prop:= ∃ a c,e = .returned (.slice a L.length c)∧w'.ownsRow w.heap.size 45 2 (.slice a L.length c) L.length (cellsH L)∧Below w.heap.size w w'

set_option maxHeartbeats 8000000 in
set_option maxRecDepth 100000 in
theorem ask19_two (O:Org) (q:Nat) (w:World) (hg:Gd w) (ho:OrgOk O) (hq:w.heap[q]? = some (.cells #[.string ⟨#[97]⟩,.string ⟨#[98]⟩] 9 (0,0))):
 Calls Tryz.prog 32 #[orgVal O,.string ⟨#[80,85,84]⟩,(.slice (some ⟨q,0,none⟩) 2 2)] w (AkP [⟨[97,99,99,101,112,116],[42,47,42]⟩,⟨[97,99,99,101,115,115,45,99,111,110,116,114,111,108,45,114,101,113,117,101,115,116,45,109,101,116,104,111,100],[80,85,84]⟩,⟨[97,99,99,101,115,115,45,99,111,110,116,114,111,108,45,114,101,113,117,101,115,116,45,104,101,97,100,101,114,115],[97,44,98]⟩,⟨[111,114,105,103,105,110],textO O⟩] w):=by
 obtain ⟨i0,hi,hz0,hz1,hz2⟩:=info3 infoHd
 have HT:=hid (fun (Y:World) (hY:Below w.heap.size w Y)=>textO_any O Y (hg.kept hY) ho.1 ho.2.1 ho.2.2);generalize textO O=T at HT ⊢;obtain ⟨X,rfl⟩: ∃ X:ByteArray,T=X.data.toList:=⟨⟨T.toArray⟩,rfl⟩
 simp only [Lib.mk_data] at HT;obtain ⟨sa,ah,ap,ao⟩:=O
 obtain ⟨AS,rfl⟩: ∃ X:ByteArray,sa=X.data.toList:=⟨⟨sa.toArray⟩,rfl⟩
 obtain ⟨AH,rfl⟩: ∃ X:ByteArray,ah=X.data.toList:=⟨⟨ah.toArray⟩,rfl⟩
 rw [show orgVal ⟨AS.data.toList,AH.data.toList,ap,ao⟩ = .agg #[.string AS,.string AH,.int .i64 ap,.bool ao] from rfl] at HT ⊢;obtain ⟨W1,hW1⟩: ∃ X,w.alloc (.cells #[.string AS,.string AH,.int .i64 ap,.bool ao] 56)=X:=⟨_,rfl⟩
 obtain ⟨W2,hW2⟩: ∃ X,W1.alloc (.cells #[.string ⟨#[97,99,99,101,112,116]⟩,.string ⟨#[42,47,42]⟩,.string ⟨#[97,99,99,101,115,115,45,99,111,110,116,114,111,108,45,114,101,113,117,101,115,116,45,109,101,116,104,111,100]⟩,.string ⟨#[80,85,84]⟩] 45)=X:=⟨_,rfl⟩
 have hb1:Below w.heap.size w W1:=by rw [← hW1];exact (Below.refl _ w).alloc (Nat.le_refl _) _
 have hb12:Below W1.heap.size W1 W2:=by rw [← hW2];exact (Below.refl _ W1).alloc (Nat.le_refl _) _
 have hb2:=below2 hb1 hb12;have x1:W1.heap[w.heap.size]? = some (.cells #[.string AS,.string AH,.int .i64 ap,.bool ao] 56 (0,0)):=by rw [← hW1];exact heap_alloc_new w _
 have y2:=(hb12.block _ (Array.getElem?_eq_some_iff.1 x1).1).trans x1;have HB2:=hid hb2;have HX2:=hid y2
 have HO2:=hid (show W2.ownsRow w.heap.size 45 2 (.slice (some ⟨W1.heap.size,0,none⟩) 2 2) 2 (cellsH [⟨[97,99,99,101,112,116],[42,47,42]⟩,⟨[97,99,99,101,115,115,45,99,111,110,116,114,111,108,45,114,101,113,117,101,115,116,45,109,101,116,104,111,100],[80,85,84]⟩]) by rw [← hW2];exact own_base19 (hd_own19 W1 [⟨[97,99,99,101,112,116],[42,47,42]⟩,⟨[97,99,99,101,115,115,45,99,111,110,116,114,111,108,45,114,101,113,117,101,115,116,45,109,101,116,104,111,100],[80,85,84]⟩] 2 rfl (by decide)) hb1.size)
 have hJ:=Tryz.strings_Join q 0 2 [(⟨#[97]⟩:ByteArray),(⟨#[98]⟩:ByteArray)] (⟨#[44]⟩:ByteArray) W2 (fun j x hx=>by
  have h:=(hb2.block q (Array.getElem?_eq_some_iff.1 hq).1).trans hq;rw [Lib.cell_of_heap h]
  match j,hx with
  | 0,hx=>simp at hx;subst hx;rfl
  | 1,hx=>simp at hx;subst hx;rfl) (by have:=(Array.getElem?_eq_some_iff.1 hq).1;have:=hb2.size;omega) (by decide) (by decide) (by decide +kernel)
 have HJ:=hid (show Calls Tryz.prog 87 #[.slice (some ⟨q,0,none⟩) 2 2,.string ⟨#[44]⟩] W2 (fun e w'=>e = .returned (.string ⟨#[97,44,98]⟩)∧Below W2.heap.size W2 w') from hJ);clear hJ;clear hg ho hb1 hb12 hb2 x1 y2 hq
 go_enter Tryz.func32,Tryz.ntmps32
 go_wp2_with fail
 refine HJ.out.mono ?_;rintro e w3 ⟨rfl,hb3⟩
 have HB3:=hid (below2 HB2.out hb3);have HX3:=hid ((hb3.block _ (Array.getElem?_eq_some_iff.1 HX2.out).1).trans HX2.out);have HO3:=hid (own_same HO2.out hb3);clear hb3 hW2 hW1
 go_wp2_with (at_builtin;go_must (refine wpList_append_own _ rfl _ _ 27 rfl w.heap.size 45 i0 (.agg #[.string ByteArray.empty,.string ByteArray.empty]) 2 32 Tryz.underlying27 hi hz0 hz1 hz2 rfl (by decide) _ _ _ rfl (HO3.out.alloc _) ⟨w3.heap.size,0,none⟩ 1 1 [.string ⟨#[97,99,99,101,115,115,45,99,111,110,116,114,111,108,45,114,101,113,117,101,115,116,45,104,101,97,100,101,114,115]⟩,.string ⟨#[97,44,98]⟩] rfl rfl ?c1 ?c2 ?c3 ?c4 ?c5 ?_))
 case c1=>
  intro q u hq;rw [Addr.add_mid];exact range_row_Cb (cs:=[.string ⟨#[97,99,99,101,115,115,45,99,111,110,116,114,111,108,45,114,101,113,117,101,115,116,45,104,101,97,100,101,114,115]⟩,.string ⟨#[97,44,98]⟩]) (heap_alloc_new w3 _) q u hq
 case c2=>intro u hu;simp at hu;rcases hu with rfl | rfl<;>rfl
 case c3=>unfold maxLen;omega
 case c4=>omega
 case c5=>have:=HB3.out.size;simp;omega
 intro v4 w4 hown4 hgrow4 hnil4;obtain ⟨a4,c4,rfl⟩:=own_sl16 hown4
 have hbx3:Below w3.heap.size w3 (w3.alloc (.cells #[.string ⟨#[97,99,99,101,115,115,45,99,111,110,116,114,111,108,45,114,101,113,117,101,115,116,45,104,101,97,100,101,114,115]⟩,.string ⟨#[97,44,98]⟩] 45)):=(Below.refl _ w3).alloc (Nat.le_refl _) _;have HB4:=hid (show Below w.heap.size w w4 from (HB3.out.alloc HB3.out.size _).grown hgrow4 (by have:=HB3.out.size;simp;omega) (fun g hg=>(HO3.out.lt g hg).1))
 have hx4:w4.heap[w.heap.size]? = some (.cells #[.string AS,.string AH,.int .i64 ap,.bool ao] 56 (0,0)):=(hgrow4.block _ (by have:=(Array.getElem?_eq_some_iff.1 HX3.out).1;simp;omega) (fun e=>by
  obtain ⟨cc,hcc⟩:=ownsRow_kind HO3.out _ e.symm
  rw [HX3.out] at hcc;injection hcc with hcc
  injection hcc with _ hcc _
  exact absurd hcc (by decide))).trans ((hbx3.block _ (Array.getElem?_eq_some_iff.1 HX3.out).1).trans HX3.out)
 have HO4:=hid (show w4.ownsRow w.heap.size 45 2 (.slice a4 3 c4) 3 (cellsH ([⟨[97,99,99,101,112,116],[42,47,42]⟩,⟨[97,99,99,101,115,115,45,99,111,110,116,114,111,108,45,114,101,113,117,101,115,116,45,109,101,116,104,111,100],[80,85,84]⟩]++[⟨[97,99,99,101,115,115,45,99,111,110,116,114,111,108,45,114,101,113,117,101,115,116,45,104,101,97,100,101,114,115],[97,44,98]⟩])) by rw [cellsH_app];exact hown4);have k0:w4.cell? ⟨w.heap.size,0,none⟩=some (.string AS):=by rw [Lib.cell_of_heap hx4];rfl
 have k1:w4.cell? ⟨w.heap.size,1,none⟩=some (.string AH):=by rw [Lib.cell_of_heap hx4];rfl
 have k2:w4.cell? ⟨w.heap.size,2,none⟩=some (.int .i64 ap):=by rw [Lib.cell_of_heap hx4];rfl
 have k3:w4.cell? ⟨w.heap.size,3,none⟩=some (.bool ao):=by rw [Lib.cell_of_heap hx4];rfl
 clear hown4 hgrow4 hnil4 hbx3 hx4
 go_wp2_with fail
 refine (HT.out _ HB4.out).mono ?_;rintro e w5 ⟨rfl,hb5⟩
 have HB5:=hid (below2 HB4.out hb5);have HO5:=hid (own_same HO4.out hb5);clear hb5 k0 k1 k2 k3
 go_wp2_with (at_builtin;go_must (refine wpList_append_own _ rfl _ _ 27 rfl w.heap.size 45 i0 (.agg #[.string ByteArray.empty,.string ByteArray.empty]) 2 32 Tryz.underlying27 hi hz0 hz1 hz2 rfl (by decide) _ _ _ rfl (HO5.out.alloc _) ⟨w5.heap.size,0,none⟩ 1 1 [.string ⟨#[111,114,105,103,105,110]⟩,.string X] rfl rfl ?c1 ?c2 ?c3 ?c4 ?c5 ?_))
 case c1=>
  intro q u hq;rw [Addr.add_mid];exact range_row_Cb (cs:=[.string ⟨#[111,114,105,103,105,110]⟩,.string X]) (heap_alloc_new w5 _) q u hq
 case c2=>intro u hu;simp at hu;rcases hu with rfl | rfl<;>rfl
 case c3=>unfold maxLen;omega
 case c4=>omega
 case c5=>have:=HB5.out.size;simp;omega
 intro v6 w6 hown6 hgrow6 hnil6;obtain ⟨a6,c6,rfl⟩:=own_sl16 hown6
 have HB6:=hid (show Below w.heap.size w w6 from (HB5.out.alloc HB5.out.size _).grown hgrow6 (by have:=HB5.out.size;simp;omega) (fun g hg=>(HO5.out.lt g hg).1))
 have HO6:=hid (show w6.ownsRow w.heap.size 45 2 (.slice a6 4 c6) 4 (cellsH (([⟨[97,99,99,101,112,116],[42,47,42]⟩,⟨[97,99,99,101,115,115,45,99,111,110,116,114,111,108,45,114,101,113,117,101,115,116,45,109,101,116,104,111,100],[80,85,84]⟩]++[⟨[97,99,99,101,115,115,45,99,111,110,116,114,111,108,45,114,101,113,117,101,115,116,45,104,101,97,100,101,114,115],[97,44,98]⟩])++[⟨[111,114,105,103,105,110],X.data.toList⟩])) by rw [cellsH_app];exact hown6);clear hown6 hgrow6 hnil6
 go_wp2_with fail
 go_ret
 exact ⟨a6,c6,rfl,HO6.out,HB6.out⟩

set_option maxHeartbeats 8000000 in
set_option maxRecDepth 100000 in
theorem ask19_none (O:Org) (w:World) (hg:Gd w) (ho:OrgOk O):
 Calls Tryz.prog 32 #[orgVal O,.string ⟨#[80,85,84]⟩,(.slice none 0 0)] w (AkP [⟨[97,99,99,101,112,116],[42,47,42]⟩,⟨[97,99,99,101,115,115,45,99,111,110,116,114,111,108,45,114,101,113,117,101,115,116,45,109,101,116,104,111,100],[80,85,84]⟩,⟨[111,114,105,103,105,110],textO O⟩] w):=by
 obtain ⟨i0,hi,hz0,hz1,hz2⟩:=info3 infoHd
 have HT:=hid (fun (Y:World) (hY:Below w.heap.size w Y)=>textO_any O Y (hg.kept hY) ho.1 ho.2.1 ho.2.2);generalize textO O=T at HT ⊢;obtain ⟨X,rfl⟩: ∃ X:ByteArray,T=X.data.toList:=⟨⟨T.toArray⟩,rfl⟩
 simp only [Lib.mk_data] at HT;obtain ⟨sa,ah,ap,ao⟩:=O
 obtain ⟨AS,rfl⟩: ∃ X:ByteArray,sa=X.data.toList:=⟨⟨sa.toArray⟩,rfl⟩
 obtain ⟨AH,rfl⟩: ∃ X:ByteArray,ah=X.data.toList:=⟨⟨ah.toArray⟩,rfl⟩
 rw [show orgVal ⟨AS.data.toList,AH.data.toList,ap,ao⟩ = .agg #[.string AS,.string AH,.int .i64 ap,.bool ao] from rfl] at HT ⊢;obtain ⟨W1,hW1⟩: ∃ X,w.alloc (.cells #[.string AS,.string AH,.int .i64 ap,.bool ao] 56)=X:=⟨_,rfl⟩
 obtain ⟨W2,hW2⟩: ∃ X,W1.alloc (.cells #[.string ⟨#[97,99,99,101,112,116]⟩,.string ⟨#[42,47,42]⟩,.string ⟨#[97,99,99,101,115,115,45,99,111,110,116,114,111,108,45,114,101,113,117,101,115,116,45,109,101,116,104,111,100]⟩,.string ⟨#[80,85,84]⟩] 45)=X:=⟨_,rfl⟩
 have hb1:Below w.heap.size w W1:=by rw [← hW1];exact (Below.refl _ w).alloc (Nat.le_refl _) _
 have hb12:Below W1.heap.size W1 W2:=by rw [← hW2];exact (Below.refl _ W1).alloc (Nat.le_refl _) _
 have hb2:=below2 hb1 hb12;have x1:W1.heap[w.heap.size]? = some (.cells #[.string AS,.string AH,.int .i64 ap,.bool ao] 56 (0,0)):=by rw [← hW1];exact heap_alloc_new w _
 have y2:=(hb12.block _ (Array.getElem?_eq_some_iff.1 x1).1).trans x1;have HB2:=hid hb2;have HX2:=hid y2
 have HO2:=hid (show W2.ownsRow w.heap.size 45 2 (.slice (some ⟨W1.heap.size,0,none⟩) 2 2) 2 (cellsH [⟨[97,99,99,101,112,116],[42,47,42]⟩,⟨[97,99,99,101,115,115,45,99,111,110,116,114,111,108,45,114,101,113,117,101,115,116,45,109,101,116,104,111,100],[80,85,84]⟩]) by rw [← hW2];exact own_base19 (hd_own19 W1 [⟨[97,99,99,101,112,116],[42,47,42]⟩,⟨[97,99,99,101,115,115,45,99,111,110,116,114,111,108,45,114,101,113,117,101,115,116,45,109,101,116,104,111,100],[80,85,84]⟩] 2 rfl (by decide)) hb1.size);clear hg ho hb1 hb12 hb2 x1 y2;have hx2:=HX2.out
 have k0:W2.cell? ⟨w.heap.size,0,none⟩=some (.string AS):=by rw [Lib.cell_of_heap hx2];rfl
 have k1:W2.cell? ⟨w.heap.size,1,none⟩=some (.string AH):=by rw [Lib.cell_of_heap hx2];rfl
 have k2:W2.cell? ⟨w.heap.size,2,none⟩=some (.int .i64 ap):=by rw [Lib.cell_of_heap hx2];rfl
 have k3:W2.cell? ⟨w.heap.size,3,none⟩=some (.bool ao):=by rw [Lib.cell_of_heap hx2];rfl
 clear hx2
 go_enter Tryz.func32,Tryz.ntmps32
 go_wp2_with fail
 refine (HT.out _ HB2.out).mono ?_;rintro e w5 ⟨rfl,hb5⟩
 have HB5:=hid (below2 HB2.out hb5);have HO5:=hid (own_same HO2.out hb5);clear hb5 k0 k1 k2 k3 hW1 hW2
 go_wp2_with (at_builtin;go_must (refine wpList_append_own _ rfl _ _ 27 rfl w.heap.size 45 i0 (.agg #[.string ByteArray.empty,.string ByteArray.empty]) 2 32 Tryz.underlying27 hi hz0 hz1 hz2 rfl (by decide) _ _ _ rfl (HO5.out.alloc _) ⟨w5.heap.size,0,none⟩ 1 1 [.string ⟨#[111,114,105,103,105,110]⟩,.string X] rfl rfl ?c1 ?c2 ?c3 ?c4 ?c5 ?_))
 case c1=>
  intro q u hq;rw [Addr.add_mid];exact range_row_Cb (cs:=[.string ⟨#[111,114,105,103,105,110]⟩,.string X]) (heap_alloc_new w5 _) q u hq
 case c2=>intro u hu;simp at hu;rcases hu with rfl | rfl<;>rfl
 case c3=>unfold maxLen;omega
 case c4=>omega
 case c5=>have:=HB5.out.size;simp;omega
 intro v6 w6 hown6 hgrow6 hnil6;obtain ⟨a6,c6,rfl⟩:=own_sl16 hown6
 have HB6:=hid (show Below w.heap.size w w6 from (HB5.out.alloc HB5.out.size _).grown hgrow6 (by have:=HB5.out.size;simp;omega) (fun g hg=>(HO5.out.lt g hg).1));have HO6:=hid (show w6.ownsRow w.heap.size 45 2 (.slice a6 3 c6) 3 (cellsH ([⟨[97,99,99,101,112,116],[42,47,42]⟩,⟨[97,99,99,101,115,115,45,99,111,110,116,114,111,108,45,114,101,113,117,101,115,116,45,109,101,116,104,111,100],[80,85,84]⟩]++[⟨[111,114,105,103,105,110],X.data.toList⟩])) by rw [cellsH_app];exact hown6);clear hown6 hgrow6 hnil6
 go_wp2_with fail
 go_ret
 exact ⟨a6,c6,rfl,HO6.out,HB6.out⟩

end Go.Proofs.YtolioccofbhliaaGreatDoor

namespace Go.Proofs.YtolioccofbhliaaGreatDoor
open Go.RowKit

def SlV (w:World) (B:Nat) (T:TypeId) (v:Value) (us:List Value):Prop:=
 (v = .slice none 0 0∧us=[]) ∨ ∃ g o c cur,v = .slice (some ⟨g,o,none⟩) us.length c∧B≤g∧w.heap[g]? = some (.cells cur T (0,0))∧us.length≤c∧o+c≤cur.size∧c≤maxLen ∧ ∀ j u,us[j]? = some u→cur[o+j]? = some u

theorem SlV.nil (w:World) (B:Nat) (T:TypeId):SlV w B T (.slice none 0 0) []:= .inl ⟨rfl,rfl⟩

theorem SlV.lt {w:World} {B:Nat} {T:TypeId} {v:Value} {us:List Value} (h:SlV w B T v us): ∀ k,v.ownBlock=some k→B≤k∧k<w.heap.size:=by
 intro k hk;rcases h with ⟨rfl,rfl⟩ | ⟨g,o,c,cur,rfl,hB,hg,_⟩
 ·simp [Value.ownBlock] at hk
 ·simp [Value.ownBlock] at hk
  subst hk;exact ⟨hB,(Array.getElem?_eq_some_iff.1 hg).1⟩

theorem SlV.same {w w':World} {B:Nat} {T:TypeId} {v:Value} {us:List Value} (h:SlV w B T v us) (hk: ∀ k,v.ownBlock=some k→w'.heap[k]? = w.heap[k]?):SlV w' B T v us:=by
 rcases h with h | ⟨g,o,c,cur,rfl,hB,hg,h1,h2,h3,h4⟩
 ·exact .inl h
 ·exact .inr ⟨g,o,c,cur,rfl,hB,(hk g rfl).trans hg,h1,h2,h3,h4⟩

theorem SlV.other {w:World} {B p:Nat} {T T':TypeId} {v:Value} {us:List Value} {cs:Array Value} {fr:Nat×Nat} (h:SlV w B T v us) (hp:w.heap[p]? = some (.cells cs T' fr)) (hne:T'≠T):v.ownBlock≠some p:=by
 rcases h with ⟨rfl,rfl⟩ | ⟨g,o,c,cur,rfl,hB,hg,_⟩
 ·simp [Value.ownBlock]
 ·intro e
  simp [Value.ownBlock] at e;subst e;rw [hp] at hg;injection hg with hg
  injection hg with _ hg _
  exact hne hg

theorem SlV.cell {w:World} {B:Nat} {T:TypeId} {v:Value} {us:List Value} (h:SlV w B T v us) (j:Nat) (hj:j<us.length): ∃ g o c,v = .slice (some ⟨g,o,none⟩) us.length c∧us.length≤c∧w.cell? ⟨g,o+j,none⟩=some us[j]:=by
 rcases h with ⟨rfl,rfl⟩ | ⟨g,o,c,cur,rfl,hB,hg,h1,h2,h3,h4⟩
 ·simp at hj
 ·refine ⟨g,o,c,rfl,h1,?_⟩
  rw [Lib.cell_of_heap hg];exact h4 j us[j] (by simp [hj])

end Go.Proofs.YtolioccofbhliaaGreatDoor

namespace Go.Proofs.YtolioccofbhliaaGreatDoor
open Go.RowKit

theorem SlB.some {w:World} {a:Option Addr} {len cap:Nat} {l:List UInt8} (h:SlB w (.slice a len cap) l) (h0:0<l.length): ∃ x,a=some x∧len=l.length ∧ ∀ j (hj:j<l.length),w.cell? (x.add j)=some (.int .u8 (l[j].toNat:Int)):=by
 rcases h with ⟨c,e,rfl⟩ | ⟨x,c,e,hc⟩
 ·simp at h0
 ·obtain ⟨rfl,rfl,rfl⟩:=Value.slice.inj e
  exact ⟨x,rfl,rfl,hc⟩

theorem SlB.length {w:World} {a:Option Addr} {len cap:Nat} {l:List UInt8} (h:SlB w (.slice a len cap) l):len=l.length:=by
 rcases h with ⟨c,e,rfl⟩ | ⟨x,c,e,hc⟩
 ·obtain ⟨_,rfl,_⟩:=Value.slice.inj e
  rfl
 ·obtain ⟨_,rfl,_⟩:=Value.slice.inj e
  rfl

end Go.Proofs.YtolioccofbhliaaGreatDoor

namespace Go.Proofs.YtolioccofbhliaaGreatDoor
open Go.RowKit

structure Three where
 (a b c:Nat)

structure Kd where
 W:Nat
 R:Nat
 s0:Three
 s1:Three
 g0:Three
 g1:Three

structure St where
 (a b c d e f g h:Nat)

def St.list (s:St):List Nat:=[s.a,s.b,s.c,s.d,s.e,s.f,s.g,s.h]

def Kd.B (k:Kd):Nat:=k.W / 8

def Kd.size (k:Kd):Nat:=16*k.B

end Go.Proofs.YtolioccofbhliaaGreatDoor

namespace Go.Proofs.YtolioccofbhliaaGreatDoor
open Go.RowKit

def cW (K:IntKind) (l:List Nat):List Value:=l.map fun (n:Nat)=> .int K (n:Int)

def Rw (w:World) (g:Nat) (K:IntKind) (t:TypeId) (l:List Nat):Prop:=w.heap[g]? = some (.cells (cW K l).toArray t (0,0))

theorem Rw.lt {w:World} {g:Nat} {K:IntKind} {t:TypeId} {l:List Nat} (h:Rw w g K t l):g<w.heap.size:=(Array.getElem?_eq_some_iff.1 h).1

theorem Rw.kept {w w':World} {g:Nat} {K:IntKind} {t:TypeId} {l:List Nat} (h:Rw w g K t l) (hb:Below w.heap.size w w'):Rw w' g K t l:=row_kept h hb

theorem Rw.cell {w:World} {g:Nat} {K:IntKind} {t:TypeId} {l:List Nat} (h:Rw w g K t l) (i:Nat) (hi:i<l.length):w.cell? ⟨g,i,none⟩=some (.int K (l.getD i 0:Nat)):=by
 rw [cell_of_row w g i _ t _ h];simp [cW,hi]

theorem Rw.far {w:World} {g b j:Nat} {K:IntKind} {t:TypeId} {l:List Nat} {x:Value} (h:Rw w g K t l) (hne:g≠b):Rw (w.setCell ⟨b,j,none⟩ x) g K t l:=by
 unfold Rw;rw [Below.heap_setCell w ⟨b,j,none⟩ x g hne];exact h

def But1 (wr:World) (a:Addr) (u:Value) (X:World):Prop:=Below wr.heap.size (wr.setCell a u) (X.setCell a u)

theorem size_setCell (w:World) (a:Addr) (u:Value):(w.setCell a u).heap.size=w.heap.size:=by simp [World.setCell]

theorem But1.size {wr X:World} {a:Addr} {u:Value} (h:But1 wr a u X):wr.heap.size≤X.heap.size:=by
 have:=Below.size h
 rwa [size_setCell,size_setCell] at this

theorem But1.cell {wr X:World} {a:Addr} {u v:Value} (h:But1 wr a u X) {p:Addr} (hp:wr.cell? p=some v) (hne:a≠p):X.cell? p=some v:=by
 have h1:=Below.cell h (p:=p) (World.block_lt_of_cell? wr p hp);rw [World.cell?_setCell_other _ _ _ _ hne,World.cell?_setCell_other _ _ _ _ hne] at h1;rw [h1];exact hp

end Go.Proofs.YtolioccofbhliaaGreatDoor

namespace Go.Proofs.YtolioccofbhliaaGreatDoor
open Go.RowKit

def AptV (a b:Value):Prop:=a.ownBlock=none∨a.ownBlock≠b.ownBlock

theorem SlV.kind {w:World} {B:Nat} {T:TypeId} {v:Value} {us:List Value} (h:SlV w B T v us) (g:Nat) (hg:v.ownBlock=some g): ∃ cur,w.heap[g]? = some (Obj.cells cur T (0,0)):=by
 rcases h with ⟨rfl,rfl⟩ | ⟨g',o,c,cur,rfl,_,hg',_⟩
 ·simp [Value.ownBlock] at hg
 ·simp [Value.ownBlock] at hg
  subst hg;exact ⟨cur,hg'⟩

def KpL (K:Nat) (T:TypeId) (w:World) (B:Nat) (v:Value) (n:Nat) (X:List ByteArray):Prop:=
 X.length=n*K∧((v = .slice none 0 0∧n=0) ∨ ∃ g o c cur,v = .slice (some ⟨g,o,none⟩) n c∧B≤g∧w.heap[g]? = some (.cells cur T (0,0))∧n≤c∧c≤maxLen∧o+c*K≤cur.size ∧ ∀ j (hj:j<X.length),cur[o+j]? = some (.string X[j]))

theorem KpL.nil (K:Nat) (T:TypeId) (w:World) (B:Nat):KpL K T w B (.slice none 0 0) 0 []:=⟨by simp,.inl ⟨rfl,rfl⟩⟩

theorem KpL.slice {K:Nat} {T:TypeId} {w:World} {B:Nat} {v:Value} {n:Nat} {X:List ByteArray} (h:KpL K T w B v n X): ∃ a c,v = .slice a n c∧n≤c∧c≤maxLen:=by
 rcases h.2 with ⟨rfl,rfl⟩ | ⟨g,o,c,cur,rfl,_,_,h1,h2,_⟩
 ·exact ⟨none,0,rfl,Nat.le_refl _,by decide⟩
 ·exact ⟨_,c,rfl,h1,h2⟩

theorem KpL.kind {K:Nat} {T:TypeId} {w:World} {B:Nat} {v:Value} {n:Nat} {X:List ByteArray} (h:KpL K T w B v n X) (g:Nat) (hg:v.ownBlock=some g): ∃ cur,w.heap[g]? = some (Obj.cells cur T (0,0)):=by
 rcases h.2 with ⟨rfl,rfl⟩ | ⟨g',o,c,cur,rfl,_,hg',_⟩
 ·simp [Value.ownBlock] at hg
 ·simp [Value.ownBlock] at hg
  subst hg;exact ⟨cur,hg'⟩

theorem KpL.lt {K:Nat} {T:TypeId} {w:World} {B:Nat} {v:Value} {n:Nat} {X:List ByteArray} (h:KpL K T w B v n X): ∀ k,v.ownBlock=some k→B≤k∧k<w.heap.size:=by
 intro k hk;rcases h.2 with ⟨rfl,rfl⟩ | ⟨g,o,c,cur,rfl,hB,hg,_⟩
 ·simp [Value.ownBlock] at hk
 ·simp [Value.ownBlock] at hk
  subst hk;exact ⟨hB,(Array.getElem?_eq_some_iff.1 hg).1⟩

theorem KpL.same {K:Nat} {T:TypeId} {w w':World} {B:Nat} {v:Value} {n:Nat} {X:List ByteArray} (h:KpL K T w B v n X) (hk: ∀ k,v.ownBlock=some k→w'.heap[k]? = w.heap[k]?):KpL K T w' B v n X:=by
 refine ⟨h.1,?_⟩
 rcases h.2 with h | ⟨g,o,c,cur,rfl,hB,hg,h1⟩
 ·exact .inl h
 ·exact .inr ⟨g,o,c,cur,rfl,hB,(hk g rfl).trans hg,h1⟩

theorem KpL.cell {K:Nat} {T:TypeId} {w:World} {B:Nat} {a:Option Addr} {c n:Nat} {X:List ByteArray} (h:KpL K T w B (.slice a n c) n X) (j:Nat) (hj:j<n): ∃ g o,a=some ⟨g,o,none⟩ ∧ ∀ t (ht:t<K),w.cell? ⟨g,o+j*K+t,none⟩=some (.string (X.getD (j*K+t) ⟨#[]⟩)):=by
 rcases h.2 with ⟨e,rfl⟩ | ⟨g,o,c',cur,e,_,hg,_,_,_,h4⟩
 ·omega
 ·injection e with e1 _ _
  refine ⟨g,o,e1,fun t ht=> ?_⟩
  have hlt:j*K+t<X.length:=by
   rw [h.1];have:(j+1)*K≤n*K:=Nat.mul_le_mul_right K (by omega)
   rw [Nat.add_mul] at this;omega
  rw [Lib.cell_of_heap hg,Nat.add_assoc];rw [show X.getD (j*K+t) ⟨#[]⟩=X[j*K+t] by simp [List.getD,hlt]];exact h4 _ hlt

def TurnedBut (T:TypeId) (p:Nat) (w w':World):Prop:= ∀ k,k<w.heap.size→k≠p→(∀ cur fz,w.heap[k]? ≠ some (Obj.cells cur T fz))→w'.heap[k]? = w.heap[k]?

theorem TurnedBut.refl (T:TypeId) (p:Nat) (w:World):TurnedBut T p w w:=fun _ _ _ _=>rfl

theorem TurnedBut.trans {T:TypeId} {p:Nat} {w w' w'':World} (h:TurnedBut T p w w') (hs:w.heap.size≤w'.heap.size) (h2:TurnedBut T p w' w''):TurnedBut T p w w'':=fun k hk hp hn=>(h2 k (by omega) hp (by rw [h k hk hp hn];exact hn)).trans (h k hk hp hn)

theorem TurnedBut.at {T:TypeId} {p:Nat} {w w' w'':World} (h:TurnedBut T p w w') (hs:w.heap.size≤w'.heap.size) (h2: ∀ k,k<w'.heap.size→k≠p→w''.heap[k]? = w'.heap[k]?):TurnedBut T p w w'':=fun k hk hp hn=>(h2 k (by omega) hp).trans (h k hk hp hn)

def Bt (T:TypeId) (p B:Nat) (w w':World):Prop:=Below B w w'∧TurnedBut T p w w'

theorem Bt.refl (T:TypeId) (p B:Nat) (w:World):Bt T p B w w:=⟨Below.refl _ _,TurnedBut.refl _ _ _⟩

theorem Bt.trans {T:TypeId} {p B:Nat} {w w' w'':World} (h:Bt T p B w w') (h2:Bt T p B w' w''):Bt T p B w w'':=⟨h.1.trans h2.1,h.2.trans h.1.size h2.2⟩

end Go.Proofs.YtolioccofbhliaaGreatDoor

namespace Go.Proofs.YtolioccofbhliaaGreatDoor
open Go.RowKit

def Prs (w:World) (B:Nat) (x y:Value):Prop:= ∃ (n:Nat) (X:List ByteArray),n≤1000∧KpL 1 9 w B x n X∧KpL 1 9 w B y n X

def Bks (w:World) (B p:Nat) (h:Int) (A Y:Value) (xs ys:List Value):Prop:=
 B≤p∧ys.length=xs.length∧w.heap[p]? = some (Obj.cells #[A,Y,.int .i64 h,.bool false] 76 (0,0))∧SlV w B 50 A xs∧SlV w B 50 Y ys∧AptV A Y ∧
 (∀ (i:Nat) (x y:Value),xs[i]? = some x→ys[i]? = some y→Prs w B x y)∧xs.Pairwise AptV

theorem Prs.same {w w':World} {B:Nat} {x y:Value} (h:Prs w B x y) (hk: ∀ k:Nat,(∃ (cur:Array Value) (fz:Nat×Nat),w.heap[k]? = some (Obj.cells cur 9 fz))→w'.heap[k]? = w.heap[k]?):Prs w' B x y:=by
 obtain ⟨n,L,hl,h1,h2⟩:=h
 exact ⟨n,L,hl,h1.same fun g hg=>hk g (by obtain ⟨cur,hc⟩:=h1.kind g hg;exact ⟨cur,_,hc⟩),h2.same fun g hg=>hk g (by obtain ⟨cur,hc⟩:=h2.kind g hg;exact ⟨cur,_,hc⟩)⟩

theorem Bks.lt {w:World} {B p:Nat} {h:Int} {A Y:Value} {xs ys:List Value} (hb:Bks w B p h A Y xs ys):p<w.heap.size:=(Array.getElem?_eq_some_iff.1 hb.2.2.1).1

theorem Bks.apart {w w':World} {B p:Nat} {h:Int} {A Y:Value} {xs ys:List Value} (hb:Bks w B p h A Y xs ys) (hk: ∀ k cur S fz,w.heap[k]? = some (Obj.cells cur S fz)→(S=9∨S=50∨k=p)→w'.heap[k]? = w.heap[k]?):Bks w' B p h A Y xs ys:=by
 obtain ⟨h1,h2,h3,h4,h5,h6,h7,h8⟩:=hb
 refine ⟨h1,h2,(hk p _ _ _ h3 (.inr (.inr rfl))).trans h3,h4.same fun k hk'=> ?_,h5.same fun k hk'=> ?_,h6,fun i x y hx hy=>(h7 i x y hx hy).same fun k hk'=> ?_,h8⟩
 ·obtain ⟨cur,hc⟩:=h4.kind k hk'
  exact hk k _ _ _ hc (.inr (.inl rfl))
 ·obtain ⟨cur,hc⟩:=h5.kind k hk'
  exact hk k _ _ _ hc (.inr (.inl rfl))
 ·obtain ⟨cur,fz,hc⟩:=hk'
  exact hk k _ _ _ hc (.inl rfl)

end Go.Proofs.YtolioccofbhliaaGreatDoor

namespace Go.Proofs.YtolioccofbhliaaGreatDoor
open Go.RowKit

def mk0s (i _j:Nat):ByteArray:=⟨#[109,97,114,107,32,UInt8.ofNat i,0,0]⟩

end Go.Proofs.YtolioccofbhliaaGreatDoor

namespace Go.Proofs.YtolioccofbhliaaGreatDoor
open Go.RowKit

def RowMs (w:World) (B:Nat) (x:Value) (i t m:Nat):Prop:=
 x = .slice none 0 0 ∨ ∃ g o n c cur,x = .slice (some ⟨g,o,none⟩) n c∧B≤g∧w.heap[g]? = some (Obj.cells cur 9 (0,0))∧n≤c∧c≤maxLen∧o+c≤cur.size ∧
  ∀ j,j<c→(i<t∨(i=t∧j<m))→cur[o+j]? = some (.string (mk0s i j))

theorem RowMs.same {w w':World} {B:Nat} {x:Value} {i t m:Nat} (h:RowMs w B x i t m) (hk: ∀ g,x.ownBlock=some g→w'.heap[g]? = w.heap[g]?):RowMs w' B x i t m:=by
 rcases h with h | ⟨g,o,n,c,cur,rfl,h1,h2,h3⟩
 ·exact .inl h
 ·exact .inr ⟨g,o,n,c,cur,rfl,h1,(hk g rfl).trans h2,h3⟩

theorem RowMs.lt {w:World} {B:Nat} {x:Value} {i t m:Nat} (h:RowMs w B x i t m): ∀ g,x.ownBlock=some g→g<w.heap.size ∧ ∃ cur,w.heap[g]? = some (Obj.cells cur 9 (0,0)):=by
 intro g' hg;rcases h with rfl | ⟨g,o,n,c,cur,rfl,h1,h2,h3⟩
 ·simp [Value.ownBlock] at hg
 ·simp [Value.ownBlock] at hg
  subst hg;exact ⟨(Array.getElem?_eq_some_iff.1 h2).1,cur,h2⟩

end Go.Proofs.YtolioccofbhliaaGreatDoor

namespace Go.Proofs.YtolioccofbhliaaGreatDoor
open Go.RowKit

def KBs (w:World) (B p n:Nat) (S:Nat→Prop):Prop:= ∃ (h:Int) (A Y:Value) (xs ys:List Value),xs.length≤n∧(∀ a ∈ xs,∀ g,a.ownBlock=some g→S g)∧Bks w B p h A Y xs ys

theorem KBs.apart {w w':World} {B p n:Nat} {S:Nat→Prop} (h:KBs w B p n S) (hk: ∀ k cur U fz,w.heap[k]? = some (Obj.cells cur U fz)→(U=9∨U=50∨k=p)→w'.heap[k]? = w.heap[k]?):KBs w' B p n S:=by
 obtain ⟨h1,A,Y,xs,ys,hl,hS,hbk⟩:=h
 exact ⟨h1,A,Y,xs,ys,hl,hS,hbk.apart hk⟩

end Go.Proofs.YtolioccofbhliaaGreatDoor

namespace Go.Proofs.YtolioccofbhliaaGreatDoor
open Go.RowKit

def SpT (g m:Nat) (w w':World):Prop:=w.grownBy w' (some g) ∧ ∃ cur,w'.heap[g]? = some (.cells cur 9 (0,0))∧m≤cur.size

theorem SpT.cell {g m:Nat} {w w':World} (h:SpT g m w w') (i:Nat) (hi:i<m):(∃ x,w'.cell? ⟨g,i,none⟩=some x)∧w'.frozen? ⟨g,i,none⟩=false:=by
 obtain ⟨_,cur,hc,hm⟩:=h
 exact ⟨⟨cur[i],by rw [Lib.cell_of_heap hc];simp⟩,Lib.frozen_of_heap hc i⟩

theorem kept_at19 {w w':World} {k:Nat} {o:Obj} (hb:Below w.heap.size w w') (h:w.heap[k]? = some o):w'.heap[k]? = some o:=(hb.block k (Array.getElem?_eq_some_iff.1 h).1).trans h

theorem hd_blk19 {w:World} {b:Nat} {L:List Hd} {n:Nat} (h:w.heap[b]? = some (.cells (cellsH L).toArray 45 (0,0))) (hn:L.length=n) (hl:n≤1000):HdAt w (.slice (some ⟨b,0,none⟩) n n) L:=by
 subst hn;refine own_hd (B:=0) ⟨cellsH_len L,.inr ⟨b,L.length,_,rfl,Nat.zero_le _,h,Nat.le_refl _,by unfold maxLen;omega,by rw [List.size_toArray,cellsH_len],?_⟩⟩;rw [List.toList_toArray];exact List.take_of_length_le (by rw [cellsH_len];exact Nat.le_refl _)

end Go.Proofs.YtolioccofbhliaaGreatDoor
