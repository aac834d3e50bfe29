/-
  Walks and plain facts that this claim leans on, put together out of 4 texts: Ejg, Ejm, Ejn, Ehh.
-/
import Derived.Test.YtolioccofbhliaaGreatDoorProg
import Derived.Test.YtolioccofbhliaaGreatDoorQp1
import Derived.Test.YtolioccofbhliaaGreatDoorQp2
import Derived.Test.YtolioccofbhliaaGreatDoorQp3
import Derived.Test.YtolioccofbhliaaGreatDoorQp4
import Derived.Test.YtolioccofbhliaaGreatDoorQp8
import Derived.Test.YtolioccofbhliaaGreatDoorQp11
import Derived.Test.YtolioccofbhliaaGreatDoorQp13
import Derived.Test.YtolioccofbhliaaGreatDoorQp14
import Derived.Test.YtolioccofbhliaaGreatDoorQp16
import Derived.Test.YtolioccofbhliaaGreatDoorQp17
import Derived.Test.YtolioccofbhliaaGreatDoorQp18
import Derived.Test.YtolioccofbhliaaGreatDoorQp19
import Derived.BigRegion
import Derived.Deep.RegionHeld
import Derived.Deep.RegionHeldLaw
import Derived.Lib.IndexAny
import Derived.WalkKit
import Derived.Lib.UnsafeStr
import Derived.Lib.BufferRead
import Derived.Lib.RuneBytes
import Derived.Laws.RangeAny
import Derived.Deep.LoopGhost
import Derived.Maps.OwnSet
import Derived.Maps.OwnOps
import Derived.Maps.AppendAt
import Derived.StringKeys
import Derived.BigQuiet
import Derived.Deep.QuietTactic
import Derived.LoopN
import Derived.RegionTactic
import Derived.Deep.RegionLaw
import Derived.Deep.RegionWith
import Derived.WalkSpells
import Derived.WalkLawsBesides
import Derived.Lib.FieldsP
import Derived.Lib.DecodeN
import Derived.Lib.IndexMore
import Derived.Lib.Join
import Derived.Lib.SmallJoins
import Derived.Laws.CopyOwn
import Derived.Laws.ResultCell
import Derived.Deep.MidRow
import Derived.Laws.OwnMore
import Derived.Below
import Derived.WalkSmall
import Derived.Lib.LaidTab
import Derived.Lib.AppendIntMem
import Derived.Laws.AppendOwn
import Derived.Laws.Runes
import Derived.Lib.OthersKept
import Derived.Lib.FrozenHead2
import Derived.Lib.Builder
import Derived.Lib.AppendStr
import Derived.Lib.Replace
import Derived.Shelf.GgClosure.GivesRunes
import Derived.Laws.BitsAll
import Derived.Laws.Shifts
import Derived.Deep.DeepAppendRoom
import Derived.Laws.IdiomStrings
import Derived.Laws.BytesString
import Derived.Laws.CopyRow
import Derived.Sort.OwnSorted
import Derived.Lib.SlicesCompact
import Derived.Shelf.Slices.In.SortNone
import Derived.Shelf.Slices.CompactS
import Derived.Lib.SliceRun
import Derived.Sort.KeysCollected
import Derived.Lib.Case
import Derived.Deep.Cut
import Derived.Lib.LastIndexByte
import Derived.Lib.Strings
import Derived.Laws.BitsAllLaws
import Derived.Lib.Bytealg
import Derived.Lib.BufferMore
import Derived.OwnWalk
import Derived.Shelf.Strings.Builder1
import Derived.Shelf.Strings.Builder2
import Derived.Shelf.Strings.OnBuilder
import Derived.Shelf.Strings.Trim
import Derived.Shelf.Small.Utf8
import Derived.Shelf.Small.Bits
import Derived.Shelf.Small.Strs
import Derived.Shelf.Small.Wraps
import Derived.Shelf.Strings.BuilderF
import Derived.Shelf.Strings.BuilderK
import Derived.Shelf.Strings.Builder2Cap
import Derived.Shelf.Strconv.Itoa0
import Derived.Shelf.Strconv.Itoa1
import Derived.Shelf.LaysM
import Derived.Shelf.Strconv.Itoa2
import Derived.Shelf.Strconv.Itoa3
import Derived.Shelf.Strings.Search1
import Derived.Shelf.Strings.Search2
import Derived.Shelf.Strings.Cut
import Derived.Shelf.Strings.Shaped
import Derived.Shelf.Sort.Plain
import Derived.Shelf.Strings.Prefix
import Derived.Shelf.Strings.Runes
import Derived.Shelf.Strings.IndexAny
import Derived.Shelf.Strings.AsciiSet
import Derived.Shelf.Strings.IndexAnyAll
import Derived.Shelf.Unicode.DecodeSlow
import Derived.Shelf.Unicode.DecodeAny
import Derived.Shelf.Unicode.DecodeLast
import Derived.Ground.SlgnProg
import Derived.Shelf.SlicesE.Compact
import Derived.Ground.SlgfProg
import Derived.Shelf.SlicesE.IndexFunc
import Derived.Shelf.SlicesE.DeleteFunc
import Derived.Laws.AppendOwnNone
import Derived.Scope
import Derived.ScopeJumps
import Derived.WalkMore
import Derived.Lib.TrimByte
import Derived.Lib.ItoaNum
import Derived.Deep.WholeRow
import Derived.Lib.SlTrimSet
import Derived.Shelf.Strings.SlTrimAscii
import Derived.Deep.CutRange
import Derived.Laws.Rows
import Derived.Laws.MakeOwn
set_option linter.unusedSimpArgs false
set_option linter.unusedVariables false

namespace Go.Proofs.YtolioccofbhliaaGreatDoor
open Go.RowKit

def RtIn (w:World) (b:Nat) (x:Rt):Prop:=w.heap[b]? = some (.cells (rtCells x).toArray 150 (0,0))

theorem RtIn.kept {w w':World} {b:Nat} {x:Rt} (h:RtIn w b x) (hb:Below w.heap.size w w'):RtIn w' b x:=(hb.block b (Array.getElem?_eq_some_iff.1 h).1).trans h

theorem RtIn.grown {w w':World} {b:Nat} {x:Rt} {r:Option Nat} (h:RtIn w b x) (hg:w.grownBy w' r) (hr:r≠some b):RtIn w' b x:=(hg.block b (Array.getElem?_eq_some_iff.1 h).1 (fun e=>hr e.symm)).trans h

theorem range_pre19 {w:World} {g:Nat} {cs ds:List Value} {T:TypeId} {f:Nat×Nat} (h:w.heap[g]? = some (.cells (cs++ds).toArray T f)):w.rangeAt g 0 cs:=fun j v hv=>by
 rw [Nat.zero_add,Lib.cell_of_heap h]
 have hj:=(List.getElem?_eq_some_iff.1 hv).1;rw [List.getElem?_toArray,List.getElem?_append_left hj]
 exact hv

theorem sizeRt19:(Tryz.prog.info? 150).map (·.size)=some 5:=by kernel_rfl

theorem sizePl19:(Tryz.prog.info? 147).map (·.size)=some 3:=by kernel_rfl

theorem results_rt {fn:Func} {p:Tmp} (h:fn.results = #[.cell p 150]) (tmps:Array Value) (w:World) (b:Nat) (cs:List Value) (hl:cs.length=5) (hp:tmps.getD p undef = .pointer (some ⟨b,0,none⟩)) (hc:w.rangeAt b 0 cs):(results fn tmps).run Tryz.prog w = .ok (.agg cs.toArray) w:=by
 rw [Array.getD_eq_getD_getElem?] at hp;simp only [results,h]
 simp [Sem.run_bind,Result.andThen,hp,asAddr,run_loadVar_mid w b 0 150 cs _ hc Tryz.underlying150 rfl (by rw [hl];exact sizeRt19)]

theorem rVal_eq (S U X:ByteArray) (c n:Bool) (t:Int):rVal ⟨⟨S.data.toList,U.data.toList,c,n,X.data.toList⟩,t⟩ = .agg #[.string S,.string U,.bool c,.bool n,.string X,.int .i64 t]:=rfl

theorem rtVal_eq (S U X:ByteArray) (c n:Bool):rtVal ⟨S.data.toList,U.data.toList,c,n,X.data.toList⟩ = .agg #[.string S,.string U,.bool c,.bool n,.string X]:=rfl

theorem rtCells_eq (S U X:ByteArray) (c n:Bool):(rtCells ⟨S.data.toList,U.data.toList,c,n,X.data.toList⟩).toArray = #[.string S,.string U,.bool c,.bool n,.string X]:=rfl

theorem rt_five (x:Rt): ∃ (S U X:ByteArray) (c n:Bool),x=⟨S.data.toList,U.data.toList,c,n,X.data.toList⟩:=by
 obtain ⟨s,u,c,n,x⟩:=x
 exact ⟨⟨s.toArray⟩,⟨u.toArray⟩,⟨x.toArray⟩,c,n,rfl⟩

theorem bne19 {a b:Bool} (h: ¬ a=b):(a==b)=false:=by cases a<;>cases b<;>simp_all

theorem rt_ne1 {S U X S' U' X':ByteArray} {c n c' n':Bool} (h: ¬ S=S' ∨ ¬ U=U' ∨ ¬ c=c' ∨ ¬ n=n' ∨ ¬ X=X'):decide ((⟨S.data.toList,U.data.toList,c,n,X.data.toList⟩:Rt)=⟨S'.data.toList,U'.data.toList,c',n',X'.data.toList⟩)=false:=decide_eq_false (fun e=>by
 rw [Rt.mk.injEq] at e;obtain ⟨e1,e2,e3,e4,e5⟩:=e
 rcases h with h | h | h | h | h
 ·exact h (xba e1)
 ·exact h (xba e2)
 ·exact h e3
 ·exact h e4
 ·exact h (xba e5))

set_option maxHeartbeats 4000000 in
theorem putc19_any (b:Nat) (x:Rt) (r:RwP) (w:World) (h:RtIn w b x):
 Calls Tryz.prog 142 #[rVal r,.pointer (some ⟨b,0,none⟩)] w fun e w'=>e = .returned (.bool (decide (r.what=x)))∧Below w.heap.size w w':=by
 obtain ⟨x',t1⟩:=r
 obtain ⟨S1,U1,X1,c1,n1,rfl⟩:=rt_five x'
 obtain ⟨S2,U2,X2,c2,n2,rfl⟩:=rt_five x
 rw [rVal_eq];unfold RtIn at h;rw [rtCells_eq] at h;obtain ⟨W1,hW1⟩: ∃ Y,w.alloc (.cells #[.string S1,.string U1,.bool c1,.bool n1,.string X1,.int .i64 t1] 154)=Y:=⟨_,rfl⟩
 have hb1:Below w.heap.size w W1:=by rw [← hW1];exact (Below.refl _ w).alloc (Nat.le_refl _) _
 have hx1:W1.heap[w.heap.size]? = some (.cells #[.string S1,.string U1,.bool c1,.bool n1,.string X1,.int .i64 t1] 154 (0,0)):=by rw [← hW1];exact heap_alloc_new w _
 have HR1:=hid (range_pre19 (cs:=[.string S1,.string U1,.bool c1,.bool n1,.string X1]) (ds:=[.int .i64 t1]) hx1);have HR2:=hid (range_row_Cb (cs:=[.string S2,.string U2,.bool c2,.bool n2,.string X2]) ((hb1.block b (Array.getElem?_eq_some_iff.1 h).1).trans h));have HB1:=hid hb1;clear h hb1 hx1;dsimp only;by_cases h0:S1=S2
 case neg=>
  have HQ:=hid (rt_ne1 (S:=S1) (U:=U1) (X:=X1) (S':=S2) (U':=U2) (X':=X2) (c:=c1) (n:=n1) (c':=c2) (n':=n2) (.inl h0));have e0:=strNe h0;clear h0
  go_enter Tryz.func142,Tryz.ntmps142
  go_wp2_with (first | (refine wpList_load_mid rfl 150 (.tmp 4) rfl w.heap.size 0 rfl [.string S1,.string U1,.bool c1,.bool n1,.string X1] _ HR1.out Tryz.underlying150 rfl sizeRt19 ?_) | (refine wpList_load_mid rfl 150 (.tmp 1) rfl b 0 rfl [.string S2,.string U2,.bool c2,.bool n2,.string X2] _ HR2.out Tryz.underlying150 rfl sizeRt19 ?_))
  go_ret
  exact ⟨ret_bool HQ.out.symm,HB1.out⟩
 subst h0;by_cases h1:U1=U2
 case neg=>
  have HQ:=hid (rt_ne1 (S:=S1) (U:=U1) (X:=X1) (S':=S1) (U':=U2) (X':=X2) (c:=c1) (n:=n1) (c':=c2) (n':=n2) (.inr (.inl h1)));have e1:=strNe h1;clear h1
  go_enter Tryz.func142,Tryz.ntmps142
  go_wp2_with (first | (refine wpList_load_mid rfl 150 (.tmp 4) rfl w.heap.size 0 rfl [.string S1,.string U1,.bool c1,.bool n1,.string X1] _ HR1.out Tryz.underlying150 rfl sizeRt19 ?_) | (refine wpList_load_mid rfl 150 (.tmp 1) rfl b 0 rfl [.string S1,.string U2,.bool c2,.bool n2,.string X2] _ HR2.out Tryz.underlying150 rfl sizeRt19 ?_))
  go_ret
  exact ⟨ret_bool HQ.out.symm,HB1.out⟩
 subst h1;by_cases h2:c1=c2
 case neg=>
  have HQ:=hid (rt_ne1 (S:=S1) (U:=U1) (X:=X1) (S':=S1) (U':=U1) (X':=X2) (c:=c1) (n:=n1) (c':=c2) (n':=n2) (.inr (.inr (.inl h2))));have e2:=bne19 h2;clear h2
  go_enter Tryz.func142,Tryz.ntmps142
  go_wp2_with (first | (refine wpList_load_mid rfl 150 (.tmp 4) rfl w.heap.size 0 rfl [.string S1,.string U1,.bool c1,.bool n1,.string X1] _ HR1.out Tryz.underlying150 rfl sizeRt19 ?_) | (refine wpList_load_mid rfl 150 (.tmp 1) rfl b 0 rfl [.string S1,.string U1,.bool c2,.bool n2,.string X2] _ HR2.out Tryz.underlying150 rfl sizeRt19 ?_))
  go_ret
  exact ⟨ret_bool HQ.out.symm,HB1.out⟩
 subst h2;by_cases h3:n1=n2
 case neg=>
  have HQ:=hid (rt_ne1 (S:=S1) (U:=U1) (X:=X1) (S':=S1) (U':=U1) (X':=X2) (c:=c1) (n:=n1) (c':=c1) (n':=n2) (.inr (.inr (.inr (.inl h3)))));have e3:=bne19 h3;clear h3
  go_enter Tryz.func142,Tryz.ntmps142
  go_wp2_with (first | (refine wpList_load_mid rfl 150 (.tmp 4) rfl w.heap.size 0 rfl [.string S1,.string U1,.bool c1,.bool n1,.string X1] _ HR1.out Tryz.underlying150 rfl sizeRt19 ?_) | (refine wpList_load_mid rfl 150 (.tmp 1) rfl b 0 rfl [.string S1,.string U1,.bool c1,.bool n2,.string X2] _ HR2.out Tryz.underlying150 rfl sizeRt19 ?_))
  go_ret
  exact ⟨ret_bool HQ.out.symm,HB1.out⟩
 subst h3;by_cases h4:X1=X2
 case neg=>
  have HQ:=hid (rt_ne1 (S:=S1) (U:=U1) (X:=X1) (S':=S1) (U':=U1) (X':=X2) (c:=c1) (n:=n1) (c':=c1) (n':=n1) (.inr (.inr (.inr (.inr h4)))));have e4:=strNe h4;clear h4
  go_enter Tryz.func142,Tryz.ntmps142
  go_wp2_with (first | (refine wpList_load_mid rfl 150 (.tmp 4) rfl w.heap.size 0 rfl [.string S1,.string U1,.bool c1,.bool n1,.string X1] _ HR1.out Tryz.underlying150 rfl sizeRt19 ?_) | (refine wpList_load_mid rfl 150 (.tmp 1) rfl b 0 rfl [.string S1,.string U1,.bool c1,.bool n1,.string X2] _ HR2.out Tryz.underlying150 rfl sizeRt19 ?_))
  go_ret
  exact ⟨ret_bool HQ.out.symm,HB1.out⟩
 subst h4
 go_enter Tryz.func142,Tryz.ntmps142
 go_wp2_with (first | (refine wpList_load_mid rfl 150 (.tmp 4) rfl w.heap.size 0 rfl [.string S1,.string U1,.bool c1,.bool n1,.string X1] _ HR1.out Tryz.underlying150 rfl sizeRt19 ?_) | (refine wpList_load_mid rfl 150 (.tmp 1) rfl b 0 rfl [.string S1,.string U1,.bool c1,.bool n1,.string X1] _ HR2.out Tryz.underlying150 rfl sizeRt19 ?_))
 go_ret
 exact ⟨ret_bool (by simp),HB1.out⟩

set_option maxHeartbeats 4000000 in
theorem holdsc19_any (b d:Nat) (x:Rt) (now:Int) (r:RwP) (w:World) (h:RtIn w b x) (hd:w.heap[d]? = some (.cells #[.int .i64 now] 2 (0,0))):
 Calls Tryz.prog 146 #[rVal r,.pointer (some ⟨b,0,none⟩),.pointer (some ⟨d,0,none⟩)] w fun e w'=>e = .returned (.bool (decide (r.what=x)&&decide (now<r.til)))∧Below w.heap.size w w':=by
 obtain ⟨x',t1⟩:=r
 obtain ⟨S1,U1,X1,c1,n1,rfl⟩:=rt_five x'
 obtain ⟨S2,U2,X2,c2,n2,rfl⟩:=rt_five x
 rw [rVal_eq];unfold RtIn at h;rw [rtCells_eq] at h;obtain ⟨W1,hW1⟩: ∃ Y,w.alloc (.cells #[.string S1,.string U1,.bool c1,.bool n1,.string X1,.int .i64 t1] 154)=Y:=⟨_,rfl⟩
 have hb1:Below w.heap.size w W1:=by rw [← hW1];exact (Below.refl _ w).alloc (Nat.le_refl _) _
 have hx1:W1.heap[w.heap.size]? = some (.cells #[.string S1,.string U1,.bool c1,.bool n1,.string X1,.int .i64 t1] 154 (0,0)):=by rw [← hW1];exact heap_alloc_new w _
 have HR1:=hid (range_pre19 (cs:=[.string S1,.string U1,.bool c1,.bool n1,.string X1]) (ds:=[.int .i64 t1]) hx1);have HR2:=hid (range_row_Cb (cs:=[.string S2,.string U2,.bool c2,.bool n2,.string X2]) ((hb1.block b (Array.getElem?_eq_some_iff.1 h).1).trans h));have HB1:=hid hb1;have d0:W1.cell? ⟨d,0,none⟩=some (.int .i64 now):=by rw [Lib.cell_of_heap ((hb1.block d (Array.getElem?_eq_some_iff.1 hd).1).trans hd)];rfl
 have d1:W1.cell? ⟨w.heap.size,5,none⟩=some (.int .i64 t1):=by rw [Lib.cell_of_heap hx1];rfl
 clear h hb1 hx1 hd;dsimp only;by_cases h0:S1=S2
 case neg=>
  have HQ:=hid (rt_ne1 (S:=S1) (U:=U1) (X:=X1) (S':=S2) (U':=U2) (X':=X2) (c:=c1) (n:=n1) (c':=c2) (n':=n2) (.inl h0));have e0:=strNe h0;clear h0
  go_enter Tryz.func146,Tryz.ntmps146
  go_wp2_with (first | (refine wpList_load_mid rfl 150 (.tmp 5) rfl w.heap.size 0 rfl [.string S1,.string U1,.bool c1,.bool n1,.string X1] _ HR1.out Tryz.underlying150 rfl sizeRt19 ?_) | (refine wpList_load_mid rfl 150 (.tmp 1) rfl b 0 rfl [.string S2,.string U2,.bool c2,.bool n2,.string X2] _ HR2.out Tryz.underlying150 rfl sizeRt19 ?_))
  go_ret
  exact ⟨by rw [HQ.out];rfl,HB1.out⟩
 subst h0;by_cases h1:U1=U2
 case neg=>
  have HQ:=hid (rt_ne1 (S:=S1) (U:=U1) (X:=X1) (S':=S1) (U':=U2) (X':=X2) (c:=c1) (n:=n1) (c':=c2) (n':=n2) (.inr (.inl h1)));have e1:=strNe h1;clear h1
  go_enter Tryz.func146,Tryz.ntmps146
  go_wp2_with (first | (refine wpList_load_mid rfl 150 (.tmp 5) rfl w.heap.size 0 rfl [.string S1,.string U1,.bool c1,.bool n1,.string X1] _ HR1.out Tryz.underlying150 rfl sizeRt19 ?_) | (refine wpList_load_mid rfl 150 (.tmp 1) rfl b 0 rfl [.string S1,.string U2,.bool c2,.bool n2,.string X2] _ HR2.out Tryz.underlying150 rfl sizeRt19 ?_))
  go_ret
  exact ⟨by rw [HQ.out];rfl,HB1.out⟩
 subst h1;by_cases h2:c1=c2
 case neg=>
  have HQ:=hid (rt_ne1 (S:=S1) (U:=U1) (X:=X1) (S':=S1) (U':=U1) (X':=X2) (c:=c1) (n:=n1) (c':=c2) (n':=n2) (.inr (.inr (.inl h2))));have e2:=bne19 h2;clear h2
  go_enter Tryz.func146,Tryz.ntmps146
  go_wp2_with (first | (refine wpList_load_mid rfl 150 (.tmp 5) rfl w.heap.size 0 rfl [.string S1,.string U1,.bool c1,.bool n1,.string X1] _ HR1.out Tryz.underlying150 rfl sizeRt19 ?_) | (refine wpList_load_mid rfl 150 (.tmp 1) rfl b 0 rfl [.string S1,.string U1,.bool c2,.bool n2,.string X2] _ HR2.out Tryz.underlying150 rfl sizeRt19 ?_))
  go_ret
  exact ⟨by rw [HQ.out];rfl,HB1.out⟩
 subst h2;by_cases h3:n1=n2
 case neg=>
  have HQ:=hid (rt_ne1 (S:=S1) (U:=U1) (X:=X1) (S':=S1) (U':=U1) (X':=X2) (c:=c1) (n:=n1) (c':=c1) (n':=n2) (.inr (.inr (.inr (.inl h3)))));have e3:=bne19 h3;clear h3
  go_enter Tryz.func146,Tryz.ntmps146
  go_wp2_with (first | (refine wpList_load_mid rfl 150 (.tmp 5) rfl w.heap.size 0 rfl [.string S1,.string U1,.bool c1,.bool n1,.string X1] _ HR1.out Tryz.underlying150 rfl sizeRt19 ?_) | (refine wpList_load_mid rfl 150 (.tmp 1) rfl b 0 rfl [.string S1,.string U1,.bool c1,.bool n2,.string X2] _ HR2.out Tryz.underlying150 rfl sizeRt19 ?_))
  go_ret
  exact ⟨by rw [HQ.out];rfl,HB1.out⟩
 subst h3;by_cases h4:X1=X2
 case neg=>
  have HQ:=hid (rt_ne1 (S:=S1) (U:=U1) (X:=X1) (S':=S1) (U':=U1) (X':=X2) (c:=c1) (n:=n1) (c':=c1) (n':=n1) (.inr (.inr (.inr (.inr h4)))));have e4:=strNe h4;clear h4
  go_enter Tryz.func146,Tryz.ntmps146
  go_wp2_with (first | (refine wpList_load_mid rfl 150 (.tmp 5) rfl w.heap.size 0 rfl [.string S1,.string U1,.bool c1,.bool n1,.string X1] _ HR1.out Tryz.underlying150 rfl sizeRt19 ?_) | (refine wpList_load_mid rfl 150 (.tmp 1) rfl b 0 rfl [.string S1,.string U1,.bool c1,.bool n1,.string X2] _ HR2.out Tryz.underlying150 rfl sizeRt19 ?_))
  go_ret
  exact ⟨by rw [HQ.out];rfl,HB1.out⟩
 subst h4
 go_enter Tryz.func146,Tryz.ntmps146
 go_wp2_with (first | (refine wpList_load_mid rfl 150 (.tmp 5) rfl w.heap.size 0 rfl [.string S1,.string U1,.bool c1,.bool n1,.string X1] _ HR1.out Tryz.underlying150 rfl sizeRt19 ?_) | (refine wpList_load_mid rfl 150 (.tmp 1) rfl b 0 rfl [.string S1,.string U1,.bool c1,.bool n1,.string X1] _ HR2.out Tryz.underlying150 rfl sizeRt19 ?_))
 all_goals
  go_ret
  refine ⟨ret_bool ?_,HB1.out⟩
  first | rfl | simp_all | (simp;omega)

set_option maxHeartbeats 4000000 in
theorem dropc19_any (b1 b2:Nat) (S U:ByteArray) (r:RwP) (w:World) (h1:w.heap[b1]? = some (.cells #[.string S,.string U,.bool true] 147 (0,0))) (h2:w.heap[b2]? = some (.cells #[.string S,.string U,.bool false] 147 (0,0))):
 Calls Tryz.prog 97 #[rVal r,.pointer (some ⟨b1,0,none⟩),.pointer (some ⟨b2,0,none⟩)] w fun e w'=>e = .returned (.bool (decide (r.what.self=S.data.toList)&&decide (r.what.url=U.data.toList)))∧Below w.heap.size w w':=by
 obtain ⟨x',t1⟩:=r
 obtain ⟨S1,U1,X1,c1,n1,rfl⟩:=rt_five x'
 rw [rVal_eq];obtain ⟨W1,hW1⟩: ∃ Y,w.alloc (.cells #[.string S1,.string U1,.bool c1,.bool n1,.string X1,.int .i64 t1] 154)=Y:=⟨_,rfl⟩
 have hb1:Below w.heap.size w W1:=by rw [← hW1];exact (Below.refl _ w).alloc (Nat.le_refl _) _
 have hx1:W1.heap[w.heap.size]? = some (.cells #[.string S1,.string U1,.bool c1,.bool n1,.string X1,.int .i64 t1] 154 (0,0)):=by rw [← hW1];exact heap_alloc_new w _
 have HR1:=hid (range_pre19 (cs:=[.string S1,.string U1,.bool c1]) (ds:=[.bool n1,.string X1,.int .i64 t1]) hx1);have HR2:=hid (range_row_Cb (cs:=[.string S,.string U,.bool true]) ((hb1.block b1 (Array.getElem?_eq_some_iff.1 h1).1).trans h1));have hz2:=(hb1.block b2 (Array.getElem?_eq_some_iff.1 h2).1).trans h2;have k0:W1.cell? ⟨w.heap.size,0,none⟩=some (.string S1):=by rw [Lib.cell_of_heap hx1];rfl
 have k1:W1.cell? ⟨w.heap.size,1,none⟩=some (.string U1):=by rw [Lib.cell_of_heap hx1];rfl
 have k2:W1.cell? ⟨w.heap.size,2,none⟩=some (.bool c1):=by rw [Lib.cell_of_heap hx1];rfl
 have m0:W1.cell? ⟨b2,0,none⟩=some (.string S):=by rw [Lib.cell_of_heap hz2];rfl
 have m1:W1.cell? ⟨b2,1,none⟩=some (.string U):=by rw [Lib.cell_of_heap hz2];rfl
 have m2:W1.cell? ⟨b2,2,none⟩=some (.bool false):=by rw [Lib.cell_of_heap hz2];rfl
 clear hz2;have HB1:=hid hb1;have HS:=hid (fun (e: ¬ S1=S)=>(decide_eq_false (fun h=>e (xba h)):decide (S1.data.toList=S.data.toList)=false));have HU:=hid (fun (e: ¬ U1=U)=>(decide_eq_false (fun h=>e (xba h)):decide (U1.data.toList=U.data.toList)=false));clear h1 h2 hb1 hx1;dsimp only;by_cases e1:S1=S
 case neg=>
  have HQ:=hid (HS.out e1);have ne1:=strNe e1;clear e1
  go_enter Tryz.func97,Tryz.ntmps97
  go_wp2_with (first | (refine wpList_load_mid rfl 147 (.tmp 6) rfl w.heap.size 0 rfl [.string S1,.string U1,.bool c1] _ HR1.out Tryz.underlying147 rfl sizePl19 ?_) | (refine wpList_load_mid rfl 147 (.tmp 1) rfl b1 0 rfl [.string S,.string U,.bool true] _ HR2.out Tryz.underlying147 rfl sizePl19 ?_))
  go_ret
  exact ⟨by rw [HQ.out];rfl,HB1.out⟩
 subst e1;by_cases e2:U1=U
 case neg=>
  have HQ:=hid (HU.out e2);have ne2:=strNe e2;clear e2
  go_enter Tryz.func97,Tryz.ntmps97
  go_wp2_with (first | (refine wpList_load_mid rfl 147 (.tmp 6) rfl w.heap.size 0 rfl [.string S1,.string U1,.bool c1] _ HR1.out Tryz.underlying147 rfl sizePl19 ?_) | (refine wpList_load_mid rfl 147 (.tmp 1) rfl b1 0 rfl [.string S1,.string U,.bool true] _ HR2.out Tryz.underlying147 rfl sizePl19 ?_))
  go_ret
  refine ⟨ret_bool ?_,HB1.out⟩
  first | (exact (decide_eq_false (fun e=>of_decide_eq_false HQ.out (congrArg Array.toList e))).symm) | (rw [HQ.out];simp) | (simp [of_decide_eq_false HQ.out])
 subst e2
 cases c1
 case false=>
  go_enter Tryz.func97,Tryz.ntmps97
  go_wp2_with (first | (refine wpList_load_mid rfl 147 (.tmp 6) rfl w.heap.size 0 rfl [.string S1,.string U1,.bool false] _ HR1.out Tryz.underlying147 rfl sizePl19 ?_) | (refine wpList_load_mid rfl 147 (.tmp 1) rfl b1 0 rfl [.string S1,.string U1,.bool true] _ HR2.out Tryz.underlying147 rfl sizePl19 ?_))
  go_ret
  exact ⟨by simp,HB1.out⟩
 case true=>
  go_enter Tryz.func97,Tryz.ntmps97
  go_wp2_with (first | (refine wpList_load_mid rfl 147 (.tmp 6) rfl w.heap.size 0 rfl [.string S1,.string U1,.bool true] _ HR1.out Tryz.underlying147 rfl sizePl19 ?_) | (refine wpList_load_mid rfl 147 (.tmp 1) rfl b1 0 rfl [.string S1,.string U1,.bool true] _ HR2.out Tryz.underlying147 rfl sizePl19 ?_))
  go_ret
  exact ⟨by simp,HB1.out⟩

end Go.Proofs.YtolioccofbhliaaGreatDoor

namespace Go.Proofs.YtolioccofbhliaaGreatDoor
open Go.RowKit

set_option maxHeartbeats 1000000 in
theorem end19_any (now age:Int) (w:World) (h1:0≤now∧now≤4611686018427387904) (h2:0≤age∧age≤4611686018427387903):
 Calls Tryz.prog 143 #[.int .i64 now,.int .i64 age] w fun e w'=>e = .returned (.int .i64 (now+age))∧w'=w:=by
 obtain ⟨s,hs⟩: ∃ s,s=now+age:=⟨_,rfl⟩
 have hw:IntKind.i64.wrap (now+age)=s:=by rw [IntKind.wrap_i64];omega
 have n1: ¬ s<now:=by omega
 have n2: ¬ age<0:=by omega
 rw [← hs];by_cases h3:0<age
 all_goals
  go_enter Tryz.func143,Tryz.ntmps143
  go_wp2_with fail
  go_ret
  exact ⟨rfl,rfl⟩

theorem RtIn.set {w:World} {g:Nat} {x0 x1 x2 x3 x4:Value} {T:TypeId} {f:Nat×Nat} {a b c d e:Value} (h:w.heap[g]? = some (.cells #[x0,x1,x2,x3,x4] T f)):
 (((((w.setCell ⟨g,0,none⟩ a).setCell ⟨g,1,none⟩ b).setCell ⟨g,2,none⟩ c).setCell ⟨g,3,none⟩ d).setCell ⟨g,4,none⟩ e).rangeAt g 0 [a,b,c,d,e]:=by
 have h1:=Lib.heap_setCell_same h (i:=0) a;have h2:=Lib.heap_setCell_same h1 (i:=1) b;have h3:=Lib.heap_setCell_same h2 (i:=2) c;have h4:=Lib.heap_setCell_same h3 (i:=3) d;have h5:=Lib.heap_setCell_same h4 (i:=4) e;exact range_row_Cb (cs:=[a,b,c,d,e]) h5

theorem below5_19 {B g:Nat} {w0 w:World} (h:Below B w0 w) (hg:B≤g) (a b c d e:Value):Below B w0 (((((w.setCell ⟨g,0,none⟩ a).setCell ⟨g,1,none⟩ b).setCell ⟨g,2,none⟩ c).setCell ⟨g,3,none⟩ d).setCell ⟨g,4,none⟩ e):=
 ((((h.setCell (p:=⟨g,0,none⟩) hg _).setCell (p:=⟨g,1,none⟩) hg _).setCell (p:=⟨g,2,none⟩) hg _).setCell (p:=⟨g,3,none⟩) hg _).setCell (p:=⟨g,4,none⟩) hg _

set_option maxHeartbeats 4000000 in
theorem methodAt19_any (S U X:ByteArray) (c:Bool) (w:World):
 Calls Tryz.prog 90 #[.agg #[.string S,.string U,.bool c],.string X] w fun e w'=>e = .returned (rtVal (metR S.data.toList U.data.toList c X.data.toList))∧Below w.heap.size w w':=by
 obtain ⟨W1,hW1⟩: ∃ Y,w.alloc (.cells #[.string S,.string U,.bool c] 147)=Y:=⟨_,rfl⟩
 obtain ⟨W2,hW2⟩: ∃ Y,W1.alloc (.cells #[.string ⟨#[]⟩,.string ⟨#[]⟩,.bool false,.bool false,.string ⟨#[]⟩] 150)=Y:=⟨_,rfl⟩
 have hb1:Below w.heap.size w W1:=by rw [← hW1];exact (Below.refl _ w).alloc (Nat.le_refl _) _
 have hb2:Below w.heap.size w W2:=by rw [← hW2];exact hb1.alloc hb1.size _
 have hx1:W1.heap[w.heap.size]? = some (.cells #[.string S,.string U,.bool c] 147 (0,0)):=by rw [← hW1];exact heap_alloc_new w _
 have hx2:W2.heap[w.heap.size]? = some (.cells #[.string S,.string U,.bool c] 147 (0,0)):=by rw [← hW2];exact (Lib.alloc_old _ _ _ (Array.getElem?_eq_some_iff.1 hx1).1).trans hx1
 have hy2:W2.heap[W1.heap.size]? = some (.cells #[.string ⟨#[]⟩,.string ⟨#[]⟩,.bool false,.bool false,.string ⟨#[]⟩] 150 (0,0)):=by rw [← hW2];exact heap_alloc_new W1 _
 have hs1:=hb1.size;have hv:rtVal (metR S.data.toList U.data.toList c X.data.toList) = .agg [.string S,.string U,.bool c,.bool false,.string X].toArray:=rfl;rw [hv];have hx2c0:W2.cell? ⟨w.heap.size,0,none⟩=some (.string S):=by rw [Lib.cell_of_heap hx2];rfl
 have hx2c1:W2.cell? ⟨w.heap.size,1,none⟩=some (.string U):=by rw [Lib.cell_of_heap hx2];rfl
 have hx2c2:W2.cell? ⟨w.heap.size,2,none⟩=some (.bool c):=by rw [Lib.cell_of_heap hx2];rfl
 have hx2z0:W2.frozen? ⟨w.heap.size,0,none⟩=false:=Lib.frozen_of_heap hx2 0
 have hx2z1:W2.frozen? ⟨w.heap.size,1,none⟩=false:=Lib.frozen_of_heap hx2 1
 have hx2z2:W2.frozen? ⟨w.heap.size,2,none⟩=false:=Lib.frozen_of_heap hx2 2
 have hy2c0:W2.cell? ⟨W1.heap.size,0,none⟩=some (.string ⟨#[]⟩):=by rw [Lib.cell_of_heap hy2];rfl
 have hy2c1:W2.cell? ⟨W1.heap.size,1,none⟩=some (.string ⟨#[]⟩):=by rw [Lib.cell_of_heap hy2];rfl
 have hy2c2:W2.cell? ⟨W1.heap.size,2,none⟩=some (.bool false):=by rw [Lib.cell_of_heap hy2];rfl
 have hy2c3:W2.cell? ⟨W1.heap.size,3,none⟩=some (.bool false):=by rw [Lib.cell_of_heap hy2];rfl
 have hy2c4:W2.cell? ⟨W1.heap.size,4,none⟩=some (.string ⟨#[]⟩):=by rw [Lib.cell_of_heap hy2];rfl
 have hy2z0:W2.frozen? ⟨W1.heap.size,0,none⟩=false:=Lib.frozen_of_heap hy2 0
 have hy2z1:W2.frozen? ⟨W1.heap.size,1,none⟩=false:=Lib.frozen_of_heap hy2 1
 have hy2z2:W2.frozen? ⟨W1.heap.size,2,none⟩=false:=Lib.frozen_of_heap hy2 2
 have hy2z3:W2.frozen? ⟨W1.heap.size,3,none⟩=false:=Lib.frozen_of_heap hy2 3
 have hy2z4:W2.frozen? ⟨W1.heap.size,4,none⟩=false:=Lib.frozen_of_heap hy2 4
 have HX:=hid hy2;have HB:=hid hb2;have HS:=hid hs1;clear hx1 hx2 hy2 hb1 hb2 hs1 hv
 go_enter Tryz.func90,Tryz.ntmps90
 go_wp2_with fail
 exact bodyPost_ret (results_rt rfl _ _ W1.heap.size [.string S,.string U,.bool c,.bool false,.string X] rfl rfl (RtIn.set HX.out)) rfl ⟨rfl,below5_19 HB.out HS.out _ _ _ _ _⟩

set_option maxHeartbeats 8000000 in
set_option maxRecDepth 100000 in
theorem nameAt19_any (S U X:ByteArray) (c:Bool) (w:World) (hX:X.size≤140737488351232):
 Calls Tryz.prog 91 #[.agg #[.string S,.string U,.bool c],.string X] w fun e w'=>e = .returned (rtVal (namR S.data.toList U.data.toList c X.data.toList))∧Below w.heap.size w w':=by
 obtain ⟨L,hL⟩: ∃ L:ByteArray,L=⟨(low X.data.toList).toArray⟩:=⟨_,rfl⟩
 have HL:=hid (fun w=>lower_any X w hX);rw [← hL] at HL;obtain ⟨W1,hW1⟩: ∃ Y,w.alloc (.cells #[.string S,.string U,.bool c] 147)=Y:=⟨_,rfl⟩
 obtain ⟨W2,hW2⟩: ∃ Y,W1.alloc (.cells #[.string ⟨#[]⟩,.string ⟨#[]⟩,.bool false,.bool false,.string ⟨#[]⟩] 150)=Y:=⟨_,rfl⟩
 have hb1:Below w.heap.size w W1:=by rw [← hW1];exact (Below.refl _ w).alloc (Nat.le_refl _) _
 have hb2:Below w.heap.size w W2:=by rw [← hW2];exact hb1.alloc hb1.size _
 have hx1:W1.heap[w.heap.size]? = some (.cells #[.string S,.string U,.bool c] 147 (0,0)):=by rw [← hW1];exact heap_alloc_new w _
 have hx2:W2.heap[w.heap.size]? = some (.cells #[.string S,.string U,.bool c] 147 (0,0)):=by rw [← hW2];exact (Lib.alloc_old _ _ _ (Array.getElem?_eq_some_iff.1 hx1).1).trans hx1
 have hy2:W2.heap[W1.heap.size]? = some (.cells #[.string ⟨#[]⟩,.string ⟨#[]⟩,.bool false,.bool false,.string ⟨#[]⟩] 150 (0,0)):=by rw [← hW2];exact heap_alloc_new W1 _
 have hs1:=hb1.size;have hv:rtVal (namR S.data.toList U.data.toList c X.data.toList) = .agg [.string S,.string U,.bool c,.bool true,.string L].toArray:=by rw [hL];rfl
 rw [hv];have hx2c0:W2.cell? ⟨w.heap.size,0,none⟩=some (.string S):=by rw [Lib.cell_of_heap hx2];rfl
 have hx2c1:W2.cell? ⟨w.heap.size,1,none⟩=some (.string U):=by rw [Lib.cell_of_heap hx2];rfl
 have hx2c2:W2.cell? ⟨w.heap.size,2,none⟩=some (.bool c):=by rw [Lib.cell_of_heap hx2];rfl
 have hx2z0:W2.frozen? ⟨w.heap.size,0,none⟩=false:=Lib.frozen_of_heap hx2 0
 have hx2z1:W2.frozen? ⟨w.heap.size,1,none⟩=false:=Lib.frozen_of_heap hx2 1
 have hx2z2:W2.frozen? ⟨w.heap.size,2,none⟩=false:=Lib.frozen_of_heap hx2 2
 have HX:=hid hx2;have HY:=hid hy2;have HB:=hid hb2;have HS:=hid hs1;have HS1:=hid (show w.heap.size<W1.heap.size by rw [← hW1];simp);have HS2:=hid (show W1.heap.size≤W2.heap.size by rw [← hW2];simp);clear hx1 hx2 hy2 hb1 hb2 hs1 hv hL hX
 go_enter Tryz.func91,Tryz.ntmps91
 go_wp2_with fail
 have HQ0:=hid (show Below W1.heap.size W2 W2.drew from (Below.refl _ _).drew);have HPc:=hid (fun (wx:World) (hx:Below W1.heap.size W2 wx)=>range_row_Cb (cs:=[.string S,.string U,.bool c]) ((hx.block w.heap.size (by have:=HS1.out;omega)).trans HX.out))
 go_upto_region 1 with fail
 refine wp_region_held_drew (S:=(fun wx=>Below W1.heap.size W2 wx)) (by kernel_rfl) HQ0.out (fun hHeld=> ?_)
 refine wpAnyH_to (fuel':=5) (listed':= #[false,false,false,false,false]) rfl rfl ?_;refine wpAnyH_take (i:=0) (oi:=⟨some 5,_,_,_,_,_⟩) rfl (by kernel_rfl) (by kernel_rfl) (by kernel_rfl) (fun _ _ _ h=>h) (yieldsIf_load_mid (by kernel_rfl) 147 (.tmp 2) rfl (w.heap.size) 0 rfl [.string S,.string U,.bool c] _ HPc.out Tryz.underlying147 rfl sizePl19) (by assumption) ?_
 (try simp only [Act.put,List.setIfInBounds_toArray,List.set_cons_zero,List.set_cons_succ])
 refine' wpAnyH_take (i:=1) (oi:=⟨some 6,_,_,_,_,_⟩) (v:=_) rfl (by kernel_rfl) (by kernel_rfl) (by kernel_rfl) (fun _ _ _ h=>h) (Or.inl ⟨by kernel_rfl,?hyna1⟩) (by assumption) ?restna1
 case hyna1=>(intro wx hSw;(try dsimp only at hSw);go_simp;first | done | with_reducible rfl)
 (try simp only [Act.put,List.setIfInBounds_toArray,List.set_cons_zero,List.set_cons_succ])
 refine wpAnyH_ready (rs:=[2]) (by kernel_rfl) (by simp) ?_
 refine AllReadyH.cons rfl (fun K9 hK=> ?_) AllReadyH.nil;rw [if_pos (by kernel_rfl)]
 go_simp
 go_wp2_with (go_at_call 99;refine (HL.out _).mono ?_;rintro e w3 ⟨rfl,hba⟩)
 have hb3:Below W2.heap.size W2 w3:=below2 (Below.refl _ W2).drew hba;have HB3:=hid hb3;have hy3:=(hb3.block W1.heap.size (Array.getElem?_eq_some_iff.1 HY.out).1).trans HY.out;have HY3:=hid hy3;have HQ3:=hid (show Below W1.heap.size W2 w3 from hb3.mono (by have:=HS2.out;omega));have hy3c0:w3.cell? ⟨W1.heap.size,0,none⟩=some (.string ⟨#[]⟩):=by rw [Lib.cell_of_heap hy3];rfl
 have hy3c1:w3.cell? ⟨W1.heap.size,1,none⟩=some (.string ⟨#[]⟩):=by rw [Lib.cell_of_heap hy3];rfl
 have hy3c2:w3.cell? ⟨W1.heap.size,2,none⟩=some (.bool false):=by rw [Lib.cell_of_heap hy3];rfl
 have hy3c3:w3.cell? ⟨W1.heap.size,3,none⟩=some (.bool false):=by rw [Lib.cell_of_heap hy3];rfl
 have hy3c4:w3.cell? ⟨W1.heap.size,4,none⟩=some (.string ⟨#[]⟩):=by rw [Lib.cell_of_heap hy3];rfl
 have hy3z0:w3.frozen? ⟨W1.heap.size,0,none⟩=false:=Lib.frozen_of_heap hy3 0
 have hy3z1:w3.frozen? ⟨W1.heap.size,1,none⟩=false:=Lib.frozen_of_heap hy3 1
 have hy3z2:w3.frozen? ⟨W1.heap.size,2,none⟩=false:=Lib.frozen_of_heap hy3 2
 have hy3z3:w3.frozen? ⟨W1.heap.size,3,none⟩=false:=Lib.frozen_of_heap hy3 3
 have hy3z4:w3.frozen? ⟨W1.heap.size,4,none⟩=false:=Lib.frozen_of_heap hy3 4
 clear hba hb3 hy3;refine hK.out _ _ HQ3.out (fun hHeld2=> ?_);clear hK K9 hHeld
 rename _=>hHeld
 refine' wpAnyH_take (i:=3) (oi:=⟨some 8,_,_,_,_,_⟩) (v:=_) rfl (by kernel_rfl) (by kernel_rfl) (by kernel_rfl) (fun _ _ _ h=>h) (Or.inl ⟨by kernel_rfl,?hyna2⟩) (by assumption) ?restna2
 case hyna2=>(intro wx hSw;(try dsimp only at hSw);go_simp;first | done | with_reducible rfl)
 (try simp only [Act.put,List.setIfInBounds_toArray,List.set_cons_zero,List.set_cons_succ])
 refine wpAnyH_ready (rs:=[4]) (by kernel_rfl) (by simp) ?_
 refine AllReadyH.cons rfl (fun K9 hK=> ?_) AllReadyH.nil;rw [if_pos (by kernel_rfl)]
 go_simp
 go_wp2_with fail
 have HQ4:=hid (below5_19 HQ3.out (Nat.le_refl _) (.string S) (.string U) (.bool c) (.bool true) (.string L));refine hK.out _ _ HQ4.out (fun hHeld2=> ?_);clear hK K9 hHeld
 rename _=>hHeld
 refine wpAnyH_done (by kernel_rfl) ?_ _
 go_wp2_with fail
 exact bodyPost_ret (results_rt rfl _ _ W1.heap.size [.string S,.string U,.bool c,.bool true,.string L] rfl rfl (RtIn.set HY3.out)) rfl ⟨rfl,below5_19 (HB.out.trans (HB3.out.mono HB.out.size)) HS.out _ _ _ _ _⟩

set_option maxHeartbeats 1000000 in
theorem new19_any (w:World):Calls Tryz.prog 33 #[] w fun e w'=>e = .returned (.pointer (some ⟨w.heap.size,0,none⟩))∧TbI w' w.heap.size []∧Below w.heap.size w w':=by
 have HB:=hid (show Below w.heap.size w (w.alloc (.cells #[.slice none 0 0] 145)) from (Below.refl _ w).alloc (Nat.le_refl _) _);have HC:=hid (show TbI (w.alloc (.cells #[.slice none 0 0] 145)) w.heap.size [] from ⟨none,0,heap_alloc_new w _,World.ownsRow_nil _ _ _ _⟩)
 go_enter Tryz.func33,Tryz.ntmps33
 go_wp2
 go_ret
 exact ⟨rfl,HC.out,HB.out⟩

theorem lenT_take (now:Int) (T:List RwP) (k:Nat) (h:k<T.length):lenT now (T.take (k+1))=lenT now (T.take k)+if now<T[k].til then 1 else 0:=by
 unfold lenT;rw [List.take_succ_eq_append_getElem h,List.filter_append,List.length_append];by_cases hn:now<T[k].til<;>simp [hn]

theorem lenT_le (now:Int) (T:List RwP):lenT now T≤T.length:=List.length_filter_le _ _

set_option maxHeartbeats 4000000 in
theorem len19_any (p:Nat) (T:List RwP) (now:Int) (w:World) (hI:TbI w p T) (hl:T.length≤1000):
 Calls Tryz.prog 37 #[.pointer (some ⟨p,0,none⟩),.int .i64 now] w fun e w'=>e = .returned (.int .i64 (lenT now T:Int))∧Below w.heap.size w w':=by
 obtain ⟨a,c,hrow,hown⟩:=hI
 have HV:=hid (own_rl hown);obtain ⟨n,hn⟩: ∃ n,n=T.length:=⟨_,rfl⟩
 have HN:=hid hn;rw [← hn] at hrow hl HV;have d0:w.cell? ⟨p,0,none⟩=some (.slice a n c):=by rw [Lib.cell_of_heap hrow];rfl
 clear hrow hown hn
 go_enter Tryz.func37,Tryz.ntmps37
 go_wp2_with fail
 go_loopw [5,13] (fun v5 v13 wr=> ∃ k:Nat,k≤n∧v5 = .int .i64 (lenT now (T.take k):Int)∧v13 = .int .i64 k∧Hid (Below w.heap.size w wr)) (fun _ v13 _=>n - (intOf v13).toNat)
 case atStart=>exact ⟨0,Nat.zero_le _,rfl,rfl,Below.refl _ w⟩
 case round=>
  obtain ⟨k,hk,rfl,rfl,HR⟩:=hrel
  by_cases hlt:k<n
  ·have hkL:k<T.length:=by have:=HN.out;omega
   have hin:(k:Int)<(n:Int):=by omega
   obtain ⟨a',c',e,_,_,hv⟩:=HV.out
   injection e with e1 e2 e3
   subst e1 e3;obtain ⟨g,o,rfl,hr⟩:=hv k hkL
   have hr2:=range_kept17 hr HR.out;have HT:=hid (lenT_take now T k hkL);have HLk:=hid (lenT_le now (T.take k));have hlk:lenT now (T.take k)≤1000:=by
    have h1:=lenT_le now (T.take k);rw [List.length_take] at h1;omega
   obtain ⟨⟨x',t1⟩,hx⟩: ∃ x:RwP,x=T[k]:=⟨_,rfl⟩
   rw [← hx] at hr2 HT;dsimp only at HT;obtain ⟨S1,U1,X1,c1,n1,rfl⟩:=rt_five x'
   have hr3:wr.rangeAt g (o+k*6) [.string S1,.string U1,.bool c1,.bool n1,.string X1,.int .i64 t1]:=hr2;have HRg:=hid hr3;obtain ⟨m,hm⟩: ∃ m,m=lenT now (T.take k):=⟨_,rfl⟩
   obtain ⟨m',hm'⟩: ∃ m,m=lenT now (T.take (k+1)):=⟨_,rfl⟩
   have HM:=hid hm;have HM':=hid hm';rw [← hm,← hm'] at HT;rw [← hm] at hlk ⊢;have HBA:=hid ((Below.refl wr.heap.size wr).alloc (Nat.le_refl _) (.cells #[.string S1,.string U1,.bool c1,.bool n1,.string X1,.int .i64 t1] 154));have HB2:=hid (below2_Efc HR.out HBA.out);clear hr hr2 hr3 hx hm hm' e2 hv HV HLk;by_cases ht:now<t1
   ·have HT2:=hid (show m'=m+1 by have:=HT.out;rw [if_pos ht] at this;exact this)
    clear HT
    go_wp2_with (refine wpList_load_mid rfl 154 (.tmp 15) rfl g (o+k*6) rfl [.string S1,.string U1,.bool c1,.bool n1,.string X1,.int .i64 t1] _ HRg.out Tryz.underlying154 rfl sizeR19 ?_)
    go_roundw
    case rel=>
     have e5:((m:Int)+1)=(lenT now (T.take (k+1)):Int):=by rw [← HM'.out,HT2.out];omega
     first
      | exact ⟨k+1,by omega,by rw [← e5],by go_num,HB2.out⟩
      | ((repeat apply Exists.intro);refine ⟨?_,rfl⟩;exact ⟨k+1,by omega,by rw [← e5],by go_num,HB2.out⟩)
      | ((repeat apply Exists.intro);exact ⟨⟨k+1,by omega,by rw [← e5],by go_num,HB2.out⟩,rfl⟩)
    case measure=>simp [intOf];omega
   ·have HT2:=hid (show m'=m by have:=HT.out;rw [if_neg ht] at this;exact this)
    clear HT
    go_wp2_with (refine wpList_load_mid rfl 154 (.tmp 15) rfl g (o+k*6) rfl [.string S1,.string U1,.bool c1,.bool n1,.string X1,.int .i64 t1] _ HRg.out Tryz.underlying154 rfl sizeR19 ?_)
    go_roundw
    case rel=>
     have e5:(m:Int)=(lenT now (T.take (k+1)):Int):=by rw [← HM'.out,HT2.out]
     first
      | exact ⟨k+1,by omega,by rw [← e5],by go_num,HB2.out⟩
      | ((repeat apply Exists.intro);refine ⟨?_,rfl⟩;exact ⟨k+1,by omega,by rw [← e5],by go_num,HB2.out⟩)
      | ((repeat apply Exists.intro);exact ⟨⟨k+1,by omega,by rw [← e5],by go_num,HB2.out⟩,rfl⟩)
    case measure=>simp [intOf];omega
  ·obtain rfl:k=n:=by omega
   have HA:=hid (show T.take k=T from List.take_of_length_le (by have:=HN.out;omega));have HB:=hid HR.out;obtain ⟨m,hm⟩: ∃ m,m=lenT now (T.take k):=⟨_,rfl⟩
   have HM:=hid hm;rw [← hm];clear HR hk hlt hm
   go_wp2_with fail
   go_ret
   refine ⟨?_,HB.out⟩
   have e9:m=lenT now T:=by rw [HM.out,HA.out]
   first | (rw [e9];done) | (rw [e9];rfl) | (subst e9;rfl)

end Go.Proofs.YtolioccofbhliaaGreatDoor

namespace Go.Proofs.YtolioccofbhliaaGreatDoor
open Go.RowKit

theorem enters_holdsc: ∀ args w,(callFunc 146 args).run Tryz.prog w = .ok (.enter 146 args) w:=enters_of Tryz.func146 (by kernel_rfl) rfl

set_option maxHeartbeats 4000000 in
theorem holds19_any (p:Nat) (T:List RwP) (x:Rt) (now:Int) (w:World) (hI:TbI w p T) (hl:T.length≤1000):
 Calls Tryz.prog 93 #[.pointer (some ⟨p,0,none⟩),rtVal x,.int .i64 now] w fun e w'=>e = .returned (.bool (holT x now T))∧Below w.heap.size w w':=by
 obtain ⟨W1,hW1⟩: ∃ Y,w.alloc (.cells (rtCells x).toArray 150)=Y:=⟨_,rfl⟩
 obtain ⟨W2,hW2⟩: ∃ Y,W1.alloc (.cells #[.int .i64 now] 2)=Y:=⟨_,rfl⟩
 have hb1:Below w.heap.size w W1:=by rw [← hW1];exact (Below.refl _ w).alloc (Nat.le_refl _) _
 have hb12:Below W1.heap.size W1 W2:=by rw [← hW2];exact (Below.refl _ W1).alloc (Nat.le_refl _) _
 have hb2:=below2_Efc hb1 hb12;have hr1:RtIn W1 w.heap.size x:=by rw [← hW1];exact heap_alloc_new w _
 have hr2:=hr1.kept hb12;have hd2:W2.heap[W1.heap.size]? = some (.cells #[.int .i64 now] 2 (0,0)):=by rw [← hW2];exact heap_alloc_new W1 _
 obtain ⟨a,c,hrow,hown⟩:=hI.kept hb2
 have HC:=hid (containsR19_any 146 #[.pointer (some ⟨w.heap.size,0,none⟩),.pointer (some ⟨W1.heap.size,0,none⟩)] enters_holdsc (fun r=>decide (r.what=x)&&decide (now<r.til)) (.slice a T.length c) T W2 (own_rl hown) (by omega) (fun X z _ hX=>holdsc19_any w.heap.size W1.heap.size x now z X (hr2.kept hX) ((hX.block _ (Array.getElem?_eq_some_iff.1 hd2).1).trans hd2)));have d0:W2.cell? ⟨p,0,none⟩=some (.slice a T.length c):=by rw [Lib.cell_of_heap hrow];rfl
 have HB:=hid hb2;rw [show (T.any fun r=>decide (r.what=x)&&decide (now<r.til))=holT x now T from rfl] at HC;obtain ⟨q,hq⟩: ∃ q,q=holT x now T:=⟨_,rfl⟩
 rw [← hq] at HC ⊢;obtain ⟨n,hn⟩: ∃ n,n=T.length:=⟨_,rfl⟩
 rw [← hn] at HC d0;obtain ⟨S2,U2,X2,c2,n2,rfl⟩:=rt_five x
 rw [rtVal_eq];rw [rtCells_eq] at hW1;clear hb1 hb12 hb2 hr1 hr2 hd2 hrow hown hq hn hI
 go_enter Tryz.func93,Tryz.ntmps93
 go_wp2_with fail
 refine HC.out.mono ?_;rintro e w3 ⟨rfl,hb3⟩
 have HB3:=hid (below2_Efc HB.out hb3);clear hb3
 go_wp2_with fail
 go_ret
 exact ⟨rfl,HB3.out⟩

set_option maxHeartbeats 8000000 in
set_option maxRecDepth 100000 in
theorem allowsc1_any (b1 b2 b3 p : Nat) (S U X : ByteArray) (c : Bool) (T : List RwP) (now : Int) (w : World) (hI : TbI w p T) (hl : T.length ≤ 1000) (h1 : w.heap[b1]? = some (.cells #[.pointer (some ⟨p, 0, none⟩)] 64 (0, 0))) (h2 : w.heap[b2]? = some (.cells #[.string S, .string U, .bool c] 147 (0, 0))) (h3 : w.heap[b3]? = some (.cells #[.int .i64 now] 2 (0, 0)))  :
 Calls Tryz.prog 92 #[.string X,.pointer (some ⟨b1,0,none⟩),.pointer (some ⟨b2,0,none⟩),.pointer (some ⟨b3,0,none⟩)] w fun e w'=>e = .returned (.bool (holT (metR S.data.toList U.data.toList c X.data.toList) now T))∧Below w.heap.size w w':=by
 have HC0:=hid (fun (wx:World) (hx:Below w.heap.size w wx)=>(⟨by rw [Lib.cell_of_heap ((hx.block b1 (Array.getElem?_eq_some_iff.1 h1).1).trans h1)];rfl,by rw [Lib.cell_of_heap ((hx.block b3 (Array.getElem?_eq_some_iff.1 h3).1).trans h3)];rfl⟩:wx.cell? ⟨b1,0,none⟩=some (.pointer (some ⟨p,0,none⟩))∧wx.cell? ⟨b3,0,none⟩=some (.int .i64 now)));have HPl:=hid (fun (wx:World) (hx:Below w.heap.size w wx)=>range_row_Cb (cs:=[.string S,.string U,.bool c]) ((hx.block b2 (Array.getElem?_eq_some_iff.1 h2).1).trans h2));have HM:=hid (fun Y:World=>methodAt19_any S U X c Y)
 have HH:=hid (fun (Y:World) (hY:Below w.heap.size w Y)=>holds19_any p T (metR S.data.toList U.data.toList c X.data.toList) now Y (hI.kept hY) hl);obtain ⟨x,hx⟩: ∃ x,x=metR S.data.toList U.data.toList c X.data.toList:=⟨_,rfl⟩
 rw [← hx] at HM HH ⊢;obtain ⟨S2,U2,X2,c2,n2,rfl⟩:=rt_five x
 rw [rtVal_eq] at HM HH;generalize holT _ now T=q at HH ⊢;have HQ0:=hid ((Below.refl w.heap.size w).drew);clear h1 h2 h3 hI hl hx
 go_enter Tryz.func92,Tryz.ntmps92
 go_wp2_with fail
 go_upto_region 1 with fail
 refine wp_region_held_drew (S:=(fun wx=>Below w.heap.size w wx)) (by kernel_rfl) HQ0.out (fun hHeld=> ?_)
 refine wpAnyH_to (fuel':=7) (listed':= #[false,false,false,false,false,false,false]) rfl rfl ?_
 refine' wpAnyH_take (i:=0) (oi:=⟨some 6,_,_,_,_,_⟩) (v:=_) rfl (by kernel_rfl) (by kernel_rfl) (by kernel_rfl) (fun _ _ _ h=>h) (Or.inl ⟨by kernel_rfl,?hyal11⟩) (by assumption) ?restal11
 case hyal11=>(intro wx hSw;(try dsimp only at hSw);have hk:=HC0.out wx hSw;obtain ⟨k1,k2⟩:=hk;go_simp;first | done | with_reducible rfl)
 (try simp only [Act.put,List.setIfInBounds_toArray,List.set_cons_zero,List.set_cons_succ])
 refine wpAnyH_take (i:=1) (oi:=⟨some 7,_,_,_,_,_⟩) rfl (by kernel_rfl) (by kernel_rfl) (by kernel_rfl) (fun _ _ _ h=>h) (yieldsIf_load_mid (by kernel_rfl) 147 (.tmp 2) rfl (b2) 0 rfl [.string S,.string U,.bool c] _ HPl.out Tryz.underlying147 rfl sizePl19) (by assumption) ?_
 (try simp only [Act.put,List.setIfInBounds_toArray,List.set_cons_zero,List.set_cons_succ])
 refine' wpAnyH_take (i:=2) (oi:=⟨some 8,_,_,_,_,_⟩) (v:=_) rfl (by kernel_rfl) (by kernel_rfl) (by kernel_rfl) (fun _ _ _ h=>h) (Or.inl ⟨by kernel_rfl,?hyal12⟩) (by assumption) ?restal12
 case hyal12=>(intro wx hSw;(try dsimp only at hSw);have hk:=HC0.out wx hSw;obtain ⟨k1,k2⟩:=hk;go_simp;first | done | with_reducible rfl)
 (try simp only [Act.put,List.setIfInBounds_toArray,List.set_cons_zero,List.set_cons_succ])
 refine' wpAnyH_take (i:=4) (oi:=⟨some 10,_,_,_,_,_⟩) (v:=_) rfl (by kernel_rfl) (by kernel_rfl) (by kernel_rfl) (fun _ _ _ h=>h) (Or.inl ⟨by kernel_rfl,?hyal13⟩) (by assumption) ?restal13
 case hyal13=>(intro wx hSw;(try dsimp only at hSw);have hk:=HC0.out wx hSw;obtain ⟨k1,k2⟩:=hk;go_simp;first | done | with_reducible rfl)
 (try simp only [Act.put,List.setIfInBounds_toArray,List.set_cons_zero,List.set_cons_succ])
 refine wpAnyH_ready (rs:=[3]) (by kernel_rfl) (by simp) ?_
 refine AllReadyH.cons rfl (fun K9 hK=> ?_) AllReadyH.nil;rw [if_pos (by kernel_rfl)]
 go_simp
 go_wp2_with (go_at_call 90;refine (HM.out _).mono ?_;rintro e w1 ⟨rfl,hba⟩)
 have HQ1:=hid (below2 HQ0.out hba);clear hba;refine hK.out _ _ HQ1.out (fun hHeld2=> ?_);clear hK K9 hHeld
 rename _=>hHeld
 refine wpAnyH_ready (rs:=[5]) (by kernel_rfl) (by simp) ?_
 refine AllReadyH.cons rfl (fun K9 hK=> ?_) AllReadyH.nil;rw [if_pos (by kernel_rfl)]
 go_simp
 go_wp2_with (go_at_call 93;refine (HH.out _ HQ1.out).mono ?_;rintro e w2 ⟨rfl,hba⟩)
 have HQ2:=hid (below2 HQ1.out hba);clear hba;refine hK.out _ _ HQ2.out (fun hHeld2=> ?_);clear hK K9 hHeld
 rename _=>hHeld
 refine' wpAnyH_take (i:=6) (oi:=⟨some 5,_,_,_,_,_⟩) (v:=_) rfl (by kernel_rfl) (by kernel_rfl) (by kernel_rfl) (fun _ _ _ h=>h) (Or.inl ⟨by kernel_rfl,?hyal14⟩) (by assumption) ?restal14
 case hyal14=>(intro wx hSw;(try dsimp only at hSw);have hk:=HC0.out wx hSw;obtain ⟨k1,k2⟩:=hk;go_simp;first | done | with_reducible rfl)
 (try simp only [Act.put,List.setIfInBounds_toArray,List.set_cons_zero,List.set_cons_succ])
 refine wpAnyH_done (by kernel_rfl) ?_ _
 go_wp2_with fail
 go_ret
 exact ⟨rfl,HQ2.out⟩

set_option maxHeartbeats 8000000 in
set_option maxRecDepth 100000 in
theorem allowsc2_any (b1 b2 b3 p:Nat) (S U X:ByteArray) (c:Bool) (T:List RwP) (now:Int) (w:World) (hI:TbI w p T) (hl:T.length≤1000) (h1:w.heap[b1]? = some (.cells #[.pointer (some ⟨p,0,none⟩)] 64 (0,0))) (h2:w.heap[b2]? = some (.cells #[.string S,.string U,.bool c] 147 (0,0))) (h3:w.heap[b3]? = some (.cells #[.int .i64 now] 2 (0,0))) (hX:X.size≤140737488351232):
 Calls Tryz.prog 94 #[.string X,.pointer (some ⟨b1,0,none⟩),.pointer (some ⟨b2,0,none⟩),.pointer (some ⟨b3,0,none⟩)] w fun e w'=>e = .returned (.bool (holT (namR S.data.toList U.data.toList c X.data.toList) now T))∧Below w.heap.size w w':=by
 have HC0:=hid (fun (wx:World) (hx:Below w.heap.size w wx)=>(⟨by rw [Lib.cell_of_heap ((hx.block b1 (Array.getElem?_eq_some_iff.1 h1).1).trans h1)];rfl,by rw [Lib.cell_of_heap ((hx.block b3 (Array.getElem?_eq_some_iff.1 h3).1).trans h3)];rfl⟩:wx.cell? ⟨b1,0,none⟩=some (.pointer (some ⟨p,0,none⟩))∧wx.cell? ⟨b3,0,none⟩=some (.int .i64 now)));have HPl:=hid (fun (wx:World) (hx:Below w.heap.size w wx)=>range_row_Cb (cs:=[.string S,.string U,.bool c]) ((hx.block b2 (Array.getElem?_eq_some_iff.1 h2).1).trans h2));have HM:=hid (fun Y:World=>nameAt19_any S U X c Y hX)
 have HH:=hid (fun (Y:World) (hY:Below w.heap.size w Y)=>holds19_any p T (namR S.data.toList U.data.toList c X.data.toList) now Y (hI.kept hY) hl);obtain ⟨x,hx⟩: ∃ x,x=namR S.data.toList U.data.toList c X.data.toList:=⟨_,rfl⟩
 rw [← hx] at HM HH ⊢;obtain ⟨S2,U2,X2,c2,n2,rfl⟩:=rt_five x
 rw [rtVal_eq] at HM HH;generalize holT _ now T=q at HH ⊢;have HQ0:=hid ((Below.refl w.heap.size w).drew);clear h1 h2 h3 hI hl hx hX
 go_enter Tryz.func94,Tryz.ntmps94
 go_wp2_with fail
 go_upto_region 1 with fail
 refine wp_region_held_drew (S:=(fun wx=>Below w.heap.size w wx)) (by kernel_rfl) HQ0.out (fun hHeld=> ?_)
 refine wpAnyH_to (fuel':=7) (listed':= #[false,false,false,false,false,false,false]) rfl rfl ?_
 refine' wpAnyH_take (i:=0) (oi:=⟨some 6,_,_,_,_,_⟩) (v:=_) rfl (by kernel_rfl) (by kernel_rfl) (by kernel_rfl) (fun _ _ _ h=>h) (Or.inl ⟨by kernel_rfl,?hyal21⟩) (by assumption) ?restal21
 case hyal21=>(intro wx hSw;(try dsimp only at hSw);have hk:=HC0.out wx hSw;obtain ⟨k1,k2⟩:=hk;go_simp;first | done | with_reducible rfl)
 (try simp only [Act.put,List.setIfInBounds_toArray,List.set_cons_zero,List.set_cons_succ])
 refine wpAnyH_take (i:=1) (oi:=⟨some 7,_,_,_,_,_⟩) rfl (by kernel_rfl) (by kernel_rfl) (by kernel_rfl) (fun _ _ _ h=>h) (yieldsIf_load_mid (by kernel_rfl) 147 (.tmp 2) rfl (b2) 0 rfl [.string S,.string U,.bool c] _ HPl.out Tryz.underlying147 rfl sizePl19) (by assumption) ?_
 (try simp only [Act.put,List.setIfInBounds_toArray,List.set_cons_zero,List.set_cons_succ])
 refine' wpAnyH_take (i:=2) (oi:=⟨some 8,_,_,_,_,_⟩) (v:=_) rfl (by kernel_rfl) (by kernel_rfl) (by kernel_rfl) (fun _ _ _ h=>h) (Or.inl ⟨by kernel_rfl,?hyal22⟩) (by assumption) ?restal22
 case hyal22=>(intro wx hSw;(try dsimp only at hSw);have hk:=HC0.out wx hSw;obtain ⟨k1,k2⟩:=hk;go_simp;first | done | with_reducible rfl)
 (try simp only [Act.put,List.setIfInBounds_toArray,List.set_cons_zero,List.set_cons_succ])
 refine' wpAnyH_take (i:=4) (oi:=⟨some 10,_,_,_,_,_⟩) (v:=_) rfl (by kernel_rfl) (by kernel_rfl) (by kernel_rfl) (fun _ _ _ h=>h) (Or.inl ⟨by kernel_rfl,?hyal23⟩) (by assumption) ?restal23
 case hyal23=>(intro wx hSw;(try dsimp only at hSw);have hk:=HC0.out wx hSw;obtain ⟨k1,k2⟩:=hk;go_simp;first | done | with_reducible rfl)
 (try simp only [Act.put,List.setIfInBounds_toArray,List.set_cons_zero,List.set_cons_succ])
 refine wpAnyH_ready (rs:=[3]) (by kernel_rfl) (by simp) ?_
 refine AllReadyH.cons rfl (fun K9 hK=> ?_) AllReadyH.nil;rw [if_pos (by kernel_rfl)]
 go_simp
 go_wp2_with (go_at_call 91;refine (HM.out _).mono ?_;rintro e w1 ⟨rfl,hba⟩)
 have HQ1:=hid (below2 HQ0.out hba);clear hba;refine hK.out _ _ HQ1.out (fun hHeld2=> ?_);clear hK K9 hHeld
 rename _=>hHeld
 refine wpAnyH_ready (rs:=[5]) (by kernel_rfl) (by simp) ?_
 refine AllReadyH.cons rfl (fun K9 hK=> ?_) AllReadyH.nil;rw [if_pos (by kernel_rfl)]
 go_simp
 go_wp2_with (go_at_call 93;refine (HH.out _ HQ1.out).mono ?_;rintro e w2 ⟨rfl,hba⟩)
 have HQ2:=hid (below2 HQ1.out hba);clear hba;refine hK.out _ _ HQ2.out (fun hHeld2=> ?_);clear hK K9 hHeld
 rename _=>hHeld
 refine' wpAnyH_take (i:=6) (oi:=⟨some 5,_,_,_,_,_⟩) (v:=_) rfl (by kernel_rfl) (by kernel_rfl) (by kernel_rfl) (fun _ _ _ h=>h) (Or.inl ⟨by kernel_rfl,?hyal24⟩) (by assumption) ?restal24
 case hyal24=>(intro wx hSw;(try dsimp only at hSw);have hk:=HC0.out wx hSw;obtain ⟨k1,k2⟩:=hk;go_simp;first | done | with_reducible rfl)
 (try simp only [Act.put,List.setIfInBounds_toArray,List.set_cons_zero,List.set_cons_succ])
 refine wpAnyH_done (by kernel_rfl) ?_ _
 go_wp2_with fail
 go_ret
 exact ⟨rfl,HQ2.out⟩

end Go.Proofs.YtolioccofbhliaaGreatDoor

namespace Go.Proofs.YtolioccofbhliaaGreatDoor
open Go.RowKit

def RwAt (k:Nat) (w:World) (v:Value) (n:Nat) (xs:List Value):Prop:=xs.length=n*k ∧ ∃ a c,v = .slice a n c∧n≤c∧c≤maxLen∧((a=none∧n=0) ∨ ∃ ad,a=some ad ∧ ∀ j u,xs[j]? = some u→w.cell? (ad.add j)=some u)

theorem RwAt.kept {k:Nat} {w w':World} {v:Value} {n:Nat} {xs:List Value} (h:RwAt k w v n xs) (hb:Below w.heap.size w w'):RwAt k w' v n xs:=by
 obtain ⟨h1,a,c,e,h2,h3,h4⟩:=h
 refine ⟨h1,a,c,e,h2,h3,?_⟩
 rcases h4 with h4 | ⟨ad,e2,h4⟩
 ·exact .inl h4
 ·exact .inr ⟨ad,e2,fun j u hu=>(hb.cell (World.block_lt_of_cell? w _ (h4 j u hu))).trans (h4 j u hu)⟩

def Rp3 (w:World) (b:Nat) (st:Int) (vh vb:Value):Prop:=w.heap[b]? = some (.cells #[.int .i64 st,vh,vb] 30 (0,0))

theorem Rp3.range {w:World} {b:Nat} {st:Int} {vh vb:Value} (h:Rp3 w b st vh vb):w.rangeAt b 0 [.int .i64 st,vh,vb]:=range_row_Cb (cs:=[.int .i64 st,vh,vb]) h

theorem Rp3.cells {w:World} {b:Nat} {st:Int} {vh vb:Value} (h:Rp3 w b st vh vb):w.cell? ⟨b,0,none⟩=some (.int .i64 st)∧w.cell? ⟨b,1,none⟩=some vh∧w.cell? ⟨b,2,none⟩=some vb∧w.frozen? ⟨b,0,none⟩=false∧w.frozen? ⟨b,1,none⟩=false∧w.frozen? ⟨b,2,none⟩=false:=
 ⟨by rw [Lib.cell_of_heap h];rfl,by rw [Lib.cell_of_heap h];rfl,by rw [Lib.cell_of_heap h];rfl,Lib.frozen_of_heap h 0,Lib.frozen_of_heap h 1,Lib.frozen_of_heap h 2⟩

theorem Rp3.set {w:World} {b:Nat} {st s':Int} {vh vb h' b':Value} (h:Rp3 w b st vh vb):Rp3 (((w.setCell ⟨b,0,none⟩ (.int .i64 s')).setCell ⟨b,1,none⟩ h').setCell ⟨b,2,none⟩ b') b s' h' b':=by
 have h1:=Lib.heap_setCell_same h (i:=0) (.int .i64 s');have h2:=Lib.heap_setCell_same h1 (i:=1) h';exact Lib.heap_setCell_same h2 (i:=2) b'

end Go.Proofs.YtolioccofbhliaaGreatDoor
