/-
  Walks and plain facts that this claim leans on, put together out of 4 texts: Ti, Se, Sj, Sf.
-/
import Derived.Test.YtolioccofbhliaaGreatDoorProg
import Derived.Test.YtolioccofbhliaaGreatDoorQp1
import Derived.Test.YtolioccofbhliaaGreatDoorQp2
import Derived.Test.YtolioccofbhliaaGreatDoorQp3
import Derived.Test.YtolioccofbhliaaGreatDoorQp4
import Derived.Test.YtolioccofbhliaaGreatDoorQp5
import Derived.Test.YtolioccofbhliaaGreatDoorQp7
import Derived.Lib.IndexMore
import Derived.Lib.Join
import Derived.Lib.LastIndexByte
import Derived.WalkKit
import Derived.Lib.Strings
import Derived.Lib.UnsafeStr
import Derived.Laws.IdiomStrings
import Derived.Laws.AppendOwn
import Derived.Laws.BitsAllLaws
import Derived.Lib.Bytealg
import Derived.Lib.BufferMore
import Derived.LoopN
import Derived.RegionTactic
import Derived.Deep.RegionWith
import Derived.Deep.QuietTactic
import Derived.BigQuiet
import Derived.Laws.OwnMore
import Derived.Shelf.Strings.Builder1
import Derived.Shelf.Strings.Builder2
import Derived.Shelf.Strings.OnBuilder
import Derived.Shelf.Strings.Trim
import Derived.Shelf.Small.Utf8
import Derived.Shelf.Small.Bits
import Derived.Shelf.Small.Strs
import Derived.Shelf.Small.Wraps
import Derived.Shelf.Strings.BuilderF
import Derived.Shelf.Strings.BuilderK
import Derived.Shelf.Strings.Builder2Cap
import Derived.Shelf.Strconv.Itoa0
import Derived.Shelf.Strconv.Itoa1
import Derived.Shelf.LaysM
import Derived.Shelf.Strconv.Itoa2
import Derived.Shelf.Strconv.Itoa3
import Derived.Shelf.Strings.Search1
import Derived.Shelf.Strings.Search2
import Derived.Shelf.Strings.Cut
import Derived.Shelf.Strings.Shaped
import Derived.Shelf.Sort.Plain
import Derived.Shelf.Strings.Prefix
import Derived.Shelf.Strings.Runes
import Derived.Shelf.Strings.IndexAny
import Derived.Shelf.Strings.AsciiSet
import Derived.Shelf.Strings.IndexAnyAll
import Derived.Shelf.Unicode.DecodeSlow
import Derived.Shelf.Unicode.DecodeAny
import Derived.Shelf.Unicode.DecodeLast
import Derived.Shelf.Slices.CompactS
import Derived.Shelf.Slices.In.SortNone
import Derived.Ground.SlgnProg
import Derived.Shelf.SlicesE.Compact
import Derived.Ground.SlgfProg
import Derived.Shelf.SlicesE.IndexFunc
import Derived.Shelf.SlicesE.DeleteFunc
import Derived.Laws.AppendOwnNone
import Derived.Scope
import Derived.ScopeJumps
import Derived.WalkMore
import Derived.Lib.IndexAny
import Derived.Lib.Replace
import Derived.Lib.TrimByte
import Derived.Lib.ItoaNum
import Derived.Laws.RangeAny
import Derived.Lib.DecodeN
import Derived.Lib.OthersKept
import Derived.Deep.LoopGhost
import Derived.Laws.BytesString
import Derived.Deep.WholeRow
import Derived.BigRegion
import Derived.WalkSpells
import Derived.WalkLawsBesides
import Derived.Lib.AppendIntMem
import Derived.Lib.SmallJoins
import Derived.WalkSmall
import Derived.OwnWalk
import Derived.Laws.CopyOwn
import Derived.Laws.ResultCell
import Derived.Deep.MidRow
import Derived.Lib.FrozenHead2
import Derived.Lib.Builder
import Derived.Deep.RegionLaw
set_option linter.unusedSimpArgs false
set_option linter.unusedVariables false

namespace Go.Proofs.YtolioccofbhliaaGreatDoor
open Go.RowKit

theorem ahead_part (c:UInt8) (l:List UInt8):(aheadV [c] l).1=(part c l).1∧(aheadV [c] l).2=if (part c l).2.2 then c::(part c l).2.1 else []:=by
 induction l with
 | nil=>exact ⟨rfl,rfl⟩
 | cons x l ih=>
   unfold aheadV at ih ⊢;rw [part];by_cases h:x=c
   ·subst h
    simp
   ·have h2:([c].contains x)=false:=by simp [h]
    rw [if_neg h];simp only [List.takeWhile_cons,List.dropWhile_cons,h2,Bool.not_false,if_true]
    exact ⟨congrArg (List.cons x) ih.1,ih.2⟩

theorem ahead_size (ends l:List UInt8):(aheadV ends l).1.length≤l.length∧(aheadV ends l).2.length≤l.length:=
 ⟨(List.takeWhile_prefix _).length_le,(List.dropWhile_suffix _).length_le⟩

theorem ahead_twice (c:UInt8) (l:List UInt8):aheadV [c,c] l=aheadV [c] l:=by
 unfold aheadV;have:(fun x:UInt8=> !([c,c].contains x))=fun x=> !([c].contains x):=by
  funext x
  simp
 rw [this]

def Only (b:Nat) (w w':World):Prop:=Below b w w' ∧ ∀ k,b<k→k<w.heap.size→w'.heap[k]? = w.heap[k]?

theorem Only.refl (b:Nat) (w:World):Only b w w:=⟨Below.refl _ _,fun _ _ _=>rfl⟩

theorem Only.of {b:Nat} {w w':World} (h:Below w.heap.size w w') (hb:b≤w.heap.size):Only b w w':=⟨h.mono hb,fun k _ hk=>h.block k hk⟩

theorem Only.trans {b:Nat} {w w1 w2:World} (h:Only b w w1) (h2:Only b w1 w2):Only b w w2:=
 ⟨h.1.trans h2.1,fun k hb hk=>(h2.2 k hb (by have:=h.1.size;omega)).trans (h.2 k hb hk)⟩

theorem Only.then {b:Nat} {w w1 w2:World} (h:Only b w w1) (h2:Below w1.heap.size w1 w2) (hb:b≤w1.heap.size):Only b w w2:=h.trans (Only.of h2 hb)

theorem Only.set {b:Nat} {w w1:World} (h:Only b w w1) (j:Nat) (x:Value):Only b w (w1.setCell ⟨b,j,none⟩ x):=
 ⟨h.1.setCell (p:=⟨b,j,none⟩) (Nat.le_refl _) _,fun k hb hk=>by
   rw [heap_setCell_other _ _ _ _ (show k≠b by omega)];exact h.2 k hb hk⟩

theorem own_only {w w':World} {B n b:Nat} {v:Value} {xs:List Value} {u:Adr} {pv:Value} (h:w.ownsRow B 9 1 v n xs) (hA:AdrIn w b u pv) (ho:Only b w w'):w'.ownsRow B 9 1 v n xs:=
 ownsRow_same h fun g hg=>by
  have h1:=own_apart h hA hg;have h2:=(h.lt g hg).2;rcases Nat.lt_or_gt_of_ne h1 with h3 | h3
  ·exact ho.1.block g h3
  ·exact ho.2 g h3 h2

theorem own_weak {w:World} {B C n:Nat} {v:Value} {xs:List Value} (h:w.ownsRow B 9 1 v n xs) (hC:C≤B):w.ownsRow C 9 1 v n xs:=by
 refine ⟨h.1,?_⟩
 rcases h.2 with hn | ⟨g,cap,cur,hv,hb,rest⟩
 ·exact .inl hn
 ·exact .inr ⟨g,cap,cur,hv,by omega,rest⟩

def SetPost_Ti (b:Nat) (v:Adr) (pv:Value) (w:World) (e:Ending) (w':World):Prop:=e = .returned (.tuple #[])∧Only b w w'∧AdrIn w' b v pv

set_option maxHeartbeats 2000000 in
set_option maxRecDepth 100000 in
theorem rquery_any (s:ByteArray) (b:Nat) (u:Adr) (pv:Value) (w:World) (hs:s.size≤100000) (hA:AdrIn w b u pv):
 Calls Tryz.prog 218 #[.pointer (some ⟨b,0,none⟩),.string s] w (SetPost_Ti b (withQuery u (aheadV [63] s.data.toList).2) pv w):=by
 have HA:=hid hA;have HLt:=hid (Nat.le_of_lt hA.lt);clear hA;have hap:=ahead_part 63 s.data.toList;have hpl:=part_le 63 s.data.toList;obtain ⟨P1,hP1⟩: ∃ X:ByteArray,X=⟨(part 63 s.data.toList).1.toArray⟩:=⟨_,rfl⟩
 obtain ⟨P2,hP2⟩: ∃ X:ByteArray,X=⟨(part 63 s.data.toList).2.1.toArray⟩:=⟨_,rfl⟩
 obtain ⟨ok,hok⟩: ∃ X,X=(part 63 s.data.toList).2.2:=⟨_,rfl⟩
 have hP2s:P2.size≤100000:=by rw [hP2];exact size_le hpl.2 hs
 have HPt:Hid (∀ w:World,Calls Tryz.prog 113 #[.string s,.int .u8 63] w fun e w'=>e = .returned (.tuple #[.string P1,.string P2,.bool ok])∧Below w.heap.size w w'):=fun w=>by
  rw [hP1,hP2,hok];exact rpart_any s 63 w (by omega)
 have HV:=hid (show withQuery u (aheadV [63] s.data.toList).2=if ok then { u with query:=querV (specV u.scheme) P2.data.toList,hasQuery:=true } else u by
  rw [hap.2,hP2,hok]
  cases (part 63 s.data.toList).2.2
  ·rfl
  ·rfl)
 have HSp:Hid (∀ w:World,Calls Tryz.prog 129 #[.string ⟨u.scheme.toArray⟩] w fun e w'=>e = .returned (.bool (specV u.scheme))∧w=w'):=fun w=>rspecial_any ⟨u.scheme.toArray⟩ w
 clear hap hpl hP1 hP2 hok
 go_enter Tryz.func218,Tryz.ntmps218
 go_wp2_with fail
 refine (HPt.out _).mono ?_;rintro e w1 ⟨rfl,hb1⟩
 have h1:=HA.out.kept hb1;have HO1:=hid (Only.of hb1 HLt.out);have HLt1:=hid (Nat.le_of_lt h1.lt);clear hb1
 cases ok with
 | false=>
   have HN:=hid (show withQuery u (aheadV [63] s.data.toList).2=u from HV.out);have H1:=hid h1;clear h1
   go_wp2
   first | go_end0 | ((try simp only [Exit.inBlock,Exit.then]);refine bodyPost_ret (results_none rfl _ _ _) rfl ?_)
   rw [HN.out];exact ⟨rfl,HO1.out,H1.out⟩
 | true=>
   have hc10:=h1.cell 10 _ rfl;have hf10:=h1.frozen 10;have h2:AdrIn (w1.setCell ⟨b,10,none⟩ (.bool true)) b { u with hasQuery:=true } pv:=h1.set 10 _ rfl;have HO2:=hid (HO1.out.set 10 (.bool true));have hc0:(w1.setCell ⟨b,10,none⟩ (.bool true)).cell? ⟨b,0,none⟩=some (.string ⟨u.scheme.toArray⟩):=h2.cell 0 _ rfl
   have H2:=hid h2;clear h2 h1
   cases hsp:specV u.scheme with
   | true=>
     rw [hsp] at HSp;have HN:=hid (show withQuery u (aheadV [63] s.data.toList).2={ u with query:=pct 4 P2.data.toList,hasQuery:=true } by rw [HV.out,hsp];rfl);clear hsp
     go_wp2_with fail
     generalize (w1.setCell ⟨b,10,none⟩ (.bool true))=w2 at *
     refine (HSp.out _).mono ?_;rintro e w' ⟨rfl,rfl⟩
     go_wp2_with fail
     refine (rpctS_any P2 4 _ (by omega)).mono ?_;rintro e w3 ⟨rfl,hb3⟩
     have h3:=H2.out.kept hb3;have hc8:=h3.cell 8 _ rfl;have hf8:=h3.frozen 8;have HO3:=hid (HO2.out.then hb3 (Nat.le_of_lt H2.out.lt));have H3:=hid h3;clear h3 hb3
     go_wp2
     first | go_end0 | ((try simp only [Exit.inBlock,Exit.then]);refine bodyPost_ret (results_none rfl _ _ _) rfl ?_)
     rw [HN.out];exact ⟨rfl,HO3.out.set 8 _,H3.out.set 8 _ rfl⟩
   | false=>
     rw [hsp] at HSp;have HN:=hid (show withQuery u (aheadV [63] s.data.toList).2={ u with query:=pct 3 P2.data.toList,hasQuery:=true } by rw [HV.out,hsp];rfl);clear hsp
     go_wp2_with fail
     generalize (w1.setCell ⟨b,10,none⟩ (.bool true))=w2 at *
     refine (HSp.out _).mono ?_;rintro e w' ⟨rfl,rfl⟩
     go_wp2_with fail
     refine (rpctS_any P2 3 _ (by omega)).mono ?_;rintro e w3 ⟨rfl,hb3⟩
     have h3:=H2.out.kept hb3;have hc8:=h3.cell 8 _ rfl;have hf8:=h3.frozen 8;have HO3:=hid (HO2.out.then hb3 (Nat.le_of_lt H2.out.lt));have H3:=hid h3;clear h3 hb3
     go_wp2
     first | go_end0 | ((try simp only [Exit.inBlock,Exit.then]);refine bodyPost_ret (results_none rfl _ _ _) rfl ?_)
     rw [HN.out];exact ⟨rfl,HO3.out.set 8 _,H3.out.set 8 _ rfl⟩

set_option maxHeartbeats 2000000 in
set_option maxRecDepth 100000 in
theorem rsplit_any (s:ByteArray) (b:Nat) (u:Adr) (pv:Value) (w:World) (hs:s.size≤100000) (hA:AdrIn w b u pv) (hu:u.fragment=[]∧u.hasFragment=false):
 Calls Tryz.prog 171 #[.pointer (some ⟨b,0,none⟩),.string s] w fun e w'=>e = .returned (.string ⟨(part 35 s.data.toList).1.toArray⟩)∧Only b w w'∧AdrIn w' b { u with fragment:=pct 2 (part 35 s.data.toList).2.1,hasFragment:=(part 35 s.data.toList).2.2 } pv:=by
 have HA:=hid hA;have HLt:=hid (Nat.le_of_lt hA.lt);clear hA;have hpl:=part_le 35 s.data.toList;obtain ⟨P1,hP1⟩: ∃ X:ByteArray,X=⟨(part 35 s.data.toList).1.toArray⟩:=⟨_,rfl⟩
 obtain ⟨P2,hP2⟩: ∃ X:ByteArray,X=⟨(part 35 s.data.toList).2.1.toArray⟩:=⟨_,rfl⟩
 obtain ⟨ok,hok⟩: ∃ X,X=(part 35 s.data.toList).2.2:=⟨_,rfl⟩
 have hP2s:P2.size≤100000:=by rw [hP2];exact size_le hpl.2 hs
 have HPt:Hid (∀ w:World,Calls Tryz.prog 113 #[.string s,.int .u8 35] w fun e w'=>e = .returned (.tuple #[.string P1,.string P2,.bool ok])∧Below w.heap.size w w'):=fun w=>by
  rw [hP1,hP2,hok];exact rpart_any s 35 w (by omega)
 have HNo:=hid (show ok=false→P2.data.toList=[] by
  rw [hok,hP2]
  intro h;show (part 35 s.data.toList).2.1=[];rcases first_split 35 s.data.toList with h2 | ⟨a,r,h2,h3⟩
  ·rw [part_none 35 _ h2]
  ·rw [h3,part_some 35 a r h2] at h;cases h)
 rw [← hP1,← hok,show (part 35 s.data.toList).2.1=P2.data.toList by rw [hP2]];have HU:=hid hu;clear hpl hP1 hP2 hok hu
 go_enter Tryz.func171,Tryz.ntmps171
 go_wp2_with fail
 refine (HPt.out _).mono ?_;rintro e w1 ⟨rfl,hb1⟩
 have h1:=HA.out.kept hb1;have HO1:=hid (Only.of hb1 HLt.out);clear hb1
 cases ok with
 | false=>
   have H1:=hid h1;clear h1
   go_wp2
   go_ret
   refine ⟨by first | rfl | trivial,HO1.out,?_⟩
   rw [HNo.out (by first | rfl | trivial)];have e:({ u with fragment:=pct 2 [],hasFragment:=false }:Adr)=u:=by
    have h:=HU.out
    cases u
    simp only at h;rw [h.1,h.2];rfl
   rw [e];exact H1.out
 | true=>
   have hc11:=h1.cell 11 _ rfl;have hf11:=h1.frozen 11;have h2:AdrIn (w1.setCell ⟨b,11,none⟩ (.bool true)) b { u with hasFragment:=true } pv:=h1.set 11 _ rfl;have HO2:=hid (HO1.out.set 11 (.bool true));have H2:=hid h2;clear h2 h1
   go_wp2_with fail
   generalize (w1.setCell ⟨b,11,none⟩ (.bool true))=w2 at *
   refine (rpctS_any P2 2 _ (by omega)).mono ?_;rintro e w3 ⟨rfl,hb3⟩
   have h3:=H2.out.kept hb3;have hc9:=h3.cell 9 _ rfl;have hf9:=h3.frozen 9;have HO3:=hid (HO2.out.then hb3 (Nat.le_of_lt H2.out.lt));have H3:=hid h3;clear h3 hb3
   go_wp2
   go_ret
   exact ⟨by first | rfl | trivial,HO3.out.set 9 _,H3.out.set 9 _ rfl⟩

def RestPost (b:Nat) (v:Adr) (w:World) (e:Ending) (w':World):Prop:=
 e = .returned (.tuple #[])∧Only b w w' ∧ ∃ pv,AdrIn w' b v pv∧w'.ownsRow w.heap.size 9 1 pv v.path.length (cellsS v.path)

theorem withPath_eq (u:Adr) (r:List UInt8):withPath u [] r={ withQuery u (aheadV [63] r).2 with path:=pathV (specV u.scheme) [] (aheadV [63] r).1 }:=by
 unfold withPath withQuery;split<;>rfl

theorem pathV_0 (sp:Bool) (l:List UInt8) (h:l=[]):pathV sp [] l=if sp then [[]] else []:=by
 subst h;cases sp<;>rfl

theorem own_one (w:World) (x:ByteArray):(w.alloc (.cells #[.string x] 9)).ownsRow w.heap.size 9 1 (.slice (some ⟨w.heap.size,0,none⟩) 1 1) 1 (cellsS [x.data.toList]):=
 ⟨rfl,.inr ⟨w.heap.size,1,#[.string x],rfl,Nat.le_refl _,heap_alloc_new w _,Nat.le_refl _,by unfold maxLen;omega,rfl,by rw [cellsS_one];rfl⟩⟩

set_option maxHeartbeats 2000000 in
set_option maxRecDepth 100000 in
theorem rrest_any (s:ByteArray) (b:Nat) (u:Adr) (pv:Value) (w:World) (hs:s.size≤100000) (hA:AdrIn w b u pv):
 Calls Tryz.prog 216 #[.pointer (some ⟨b,0,none⟩),.string s] w (RestPost b (withPath u [] s.data.toList) w):=by
 have HA:=hid hA;have HLt:=hid (Nat.le_of_lt hA.lt);clear hA;have hal:=ahead_size [63] s.data.toList;obtain ⟨P,hP⟩: ∃ X:ByteArray,X=⟨(aheadV [63] s.data.toList).1.toArray⟩:=⟨_,rfl⟩
 obtain ⟨R,hR⟩: ∃ X:ByteArray,X=⟨(aheadV [63] s.data.toList).2.toArray⟩:=⟨_,rfl⟩
 have hPs:P.size≤100000:=by rw [hP];exact size_le hal.1 hs
 have HAh:Hid (∀ w:World,Calls Tryz.prog 217 #[.string s,.int .u8 63,.int .u8 63] w fun e w'=>e = .returned (.tuple #[.string P,.string R])∧Below w.heap.size w w'):=fun w=>by
  have:=rahead_any s 63 63 w (by omega)
  rw [ahead_twice,← hP,← hR] at this
  exact this
 have hPl:(aheadV [63] s.data.toList).1=P.data.toList:=by rw [hP]
 obtain ⟨q,hq⟩: ∃ q,q=withQuery u (aheadV [63] s.data.toList).2:=⟨_,rfl⟩
 have hqs:q.scheme=u.scheme:=by rw [hq];unfold withQuery;split<;>rfl
 have HQ:=hid (fun (w:World) (h:AdrIn w b u pv)=>rquery_any s b u pv w hs h);rw [← hq] at HQ;have HV:=hid (show withPath u [] s.data.toList={ q with path:=pathV (specV u.scheme) [] P.data.toList } by rw [withPath_eq,← hq,hPl]);have HSp:Hid (∀ w:World,Calls Tryz.prog 129 #[.string ⟨u.scheme.toArray⟩] w fun e w'=>e = .returned (.bool (specV u.scheme))∧w=w'):=fun w=>rspecial_any ⟨u.scheme.toArray⟩ w
 clear hal hP hR hPl hq
 go_enter Tryz.func216,Tryz.ntmps216
 go_wp2_with fail
 refine (HAh.out _).mono ?_;rintro e w1 ⟨rfl,hb1⟩
 have H1:=hid (HA.out.kept hb1);have HO1:=hid (Only.of hb1 HLt.out);clear hb1
 go_wp2_with fail
 refine (HQ.out _ H1.out).mono ?_;rintro e w2 ⟨rfl,ho2,h2⟩
 have hc0:=h2.cell 0 _ rfl;rw [hqs] at hc0;have HO2:=hid (HO1.out.trans ho2);have hsz2:w.heap.size≤w2.heap.size:=HO2.out.1.size;have hlt2:=h2.lt;clear ho2;by_cases he:P.data.toList=[]
 ·have he':=empty_yes P he
  cases hsp:specV u.scheme with
  | true=>
    rw [hsp] at HSp;have HN:=hid (show withPath u [] s.data.toList={ q with path:=[[]] } by rw [HV.out,pathV_0 _ _ he,hsp];rfl);clear hsp he;have H2:=hid h2;clear h2;have hc7:=H2.out.cell 7 _ rfl;have hf7:=H2.out.frozen 7;obtain ⟨W3,hW3⟩: ∃ W,W=w2.setCell ⟨b,7,none⟩ (.slice (some ⟨w2.heap.size,0,none⟩) 1 1):=⟨_,rfl⟩
    have hsz3:W3.heap.size=w2.heap.size:=by rw [hW3];simp
    have h3:AdrIn W3 b { q with path:=[[]] } (.slice (some ⟨w2.heap.size,0,none⟩) 1 1):=by rw [hW3];exact H2.out.set 7 _ rfl
    have HO3:=hid (show Only b w (W3.alloc (.cells #[.string ⟨#[]⟩] 9)) from (show Only b w W3 by rw [hW3];exact HO2.out.set 7 _).then ((Below.refl _ W3).alloc (Nat.le_refl _) _) (Nat.le_of_lt h3.lt));have H3:=hid (show AdrIn (W3.alloc (.cells #[.string ⟨#[]⟩] 9)) b { q with path:=[[]] } (.slice (some ⟨w2.heap.size,0,none⟩) 1 1) from h3.kept ((Below.refl _ W3).alloc (Nat.le_refl _) _));have HOw:=hid (show (W3.alloc (.cells #[.string ⟨#[]⟩] 9)).ownsRow w2.heap.size 9 1 (.slice (some ⟨w2.heap.size,0,none⟩) 1 1) 1 (cellsS [[]]) by
     have:=own_one W3 ⟨#[]⟩;rw [hsz3] at this;exact this)
    have HW3:=hid hW3.symm;clear h3 hsz3 hW3
    go_wp2_with fail
    refine (HSp.out _).mono ?_;rintro e w' ⟨rfl,rfl⟩
    go_wp2
    first | go_end0 | ((try simp only [Exit.inBlock,Exit.then]);refine bodyPost_ret (results_none rfl _ _ _) rfl ?_)
    rw [HN.out];rw [HW3.out];exact ⟨rfl,HO3.out,_,H3.out,own_weak HOw.out hsz2⟩
  | false=>
    rw [hsp] at HSp;have HN:=hid (show withPath u [] s.data.toList={ q with path:=[] } by rw [HV.out,pathV_0 _ _ he,hsp];rfl);clear hsp he;have hc7:=h2.cell 7 _ rfl;have hf7:=h2.frozen 7;have H2:=hid h2;clear h2
    go_wp2_with fail
    refine (HSp.out _).mono ?_;rintro e w' ⟨rfl,rfl⟩
    go_wp2
    first | go_end0 | ((try simp only [Exit.inBlock,Exit.then]);refine bodyPost_ret (results_none rfl _ _ _) rfl ?_)
    rw [HN.out];exact ⟨rfl,HO2.out.set 7 _,_,H2.out.set (v:={ q with path:=[] }) 7 _ rfl,own_nil _ _ _⟩
 ·have he':=empty_no P he
  have hsz:0<P.size:=by rw [Lib.size_eq];exact List.length_pos_iff.2 he
  obtain ⟨r,hr⟩:=list_one P hsz
  have hp1:(1:Int)≤(P.size:Int):=by omega
  have H2:=hid h2;clear h2;by_cases h47:P[0]=47
  ·have e47:((P[0].toNat:Int)==47)=true:=byte_is h47
   obtain ⟨T,hT⟩: ∃ T:ByteArray,T=P.extract 1 P.size:=⟨_,rfl⟩
   have hTs:T.size≤100000:=by rw [hT];simp;omega
   have HN:=hid (show withPath u [] s.data.toList={ q with path:=pathL [] (cutL 47 T.data.toList) } by
    rw [HV.out,pathV_some (fun h=>he h.1),hT,extract_drop,hr,h47];rfl)
   have HT:=hid hT.symm;clear he hr h47 hT
   go_wp2_with fail
   rw [HT.out];refine (rpath_any T (.slice none 0 0) [] _ hTs (.inl ⟨rfl,rfl⟩) (by simp)).mono ?_;rintro e w3 ⟨v3,rfl,hown,hb3⟩
   have h3:=H2.out.kept hb3;have hc7:=h3.cell 7 _ rfl;have hf7:=h3.frozen 7;obtain ⟨a0,n0,c0,rfl⟩:=own_sl hown
   have HOw:=hid (own_weak hown hsz2);have HO3:=hid (HO2.out.then hb3 (Nat.le_of_lt hlt2));have H3:=hid h3;clear h3 hown hb3
   go_wp2
   first | go_end0 | ((try simp only [Exit.inBlock,Exit.then]);refine bodyPost_ret (results_none rfl _ _ _) rfl ?_)
   rw [HN.out];exact ⟨rfl,HO3.out.set 7 _,_,H3.out.set (v:={ q with path:=pathL [] (cutL 47 T.data.toList) }) 7 _ rfl,own_set HOw.out H3.out 7 _⟩
  ·have e47:((P[0].toNat:Int)==47)=false:=byte_not h47
   have HN:=hid (show withPath u [] s.data.toList={ q with path:=pathL [] (cutL 47 P.data.toList) } by
    rw [HV.out,pathV_some (fun h=>he h.1)]
    have:over1 P.data.toList=P.data.toList:=by rw [hr];show (if P[0]=47 then r else P[0]::r)=_;rw [if_neg h47]
    rw [this])
   clear he hr h47
   go_wp2_with fail
   refine (rpath_any P (.slice none 0 0) [] _ hPs (.inl ⟨rfl,rfl⟩) (by simp)).mono ?_;rintro e w3 ⟨v3,rfl,hown,hb3⟩
   have h3:=H2.out.kept hb3;have hc7:=h3.cell 7 _ rfl;have hf7:=h3.frozen 7;obtain ⟨a0,n0,c0,rfl⟩:=own_sl hown
   have HOw:=hid (own_weak hown hsz2);have HO3:=hid (HO2.out.then hb3 (Nat.le_of_lt hlt2));have H3:=hid h3;clear h3 hown hb3
   go_wp2
   first | go_end0 | ((try simp only [Exit.inBlock,Exit.then]);refine bodyPost_ret (results_none rfl _ _ _) rfl ?_)
   rw [HN.out];exact ⟨rfl,HO3.out.set 7 _,_,H3.out.set (v:={ q with path:=pathL [] (cutL 47 P.data.toList) }) 7 _ rfl,own_set HOw.out H3.out 7 _⟩

end Go.Proofs.YtolioccofbhliaaGreatDoor

namespace Go.Proofs.YtolioccofbhliaaGreatDoor
open Go.RowKit

theorem lastL_of {L:List (List UInt8)} {m:Nat} (hm:L.length=m+1):L.getLast? = some (L[m]'(by omega)):=by
 rw [List.getLast?_eq_getElem?,show L.length - 1=m by omega]
 exact List.getElem?_eq_getElem _

theorem txt_mk {L:List (List UInt8)} {w w':World} {b cap n:Nat} (hn:L.length=n) (hc:n≤cap) (hm:cap≤2 ^ 63 - 1) (ht:TxtS w' b L) (hb:Below w.heap.size w w'):TxtPost L w (.returned (.slice (some ⟨b,0,none⟩) n cap)) w':=by
 subst hn;exact ⟨b,cap,rfl,hc,hm,ht,hb⟩

theorem labL_drop {l:List UInt8} {L:List (List UInt8)} {m:Nat} (hL:cutL 46 l=L) (hm:L.length=m+1) (h1:0<m) (h0:L[m]'(by omega)=[]):labL l=L.take m:=by
 unfold labL;rw [hL,if_pos ⟨by omega,by rw [lastL_of hm,h0]⟩,List.dropLast_eq_take,hm]
 rfl

theorem labL_same {l:List UInt8} {L:List (List UInt8)} {m:Nat} (hL:cutL 46 l=L) (hm:L.length=m+1) (h: ¬ (0<m∧L[m]'(by omega)=[])):labL l=L:=by
 unfold labL;rw [hL,if_neg]
 rintro ⟨h1,h2⟩
 rw [lastL_of hm] at h2;exact h ⟨by omega,Option.some.inj h2⟩

set_option maxHeartbeats 1000000 in
set_option maxRecDepth 100000 in
theorem labels_any (s:ByteArray) (w:World) (hs:s.size≤1000000):
 Calls Tryz.prog 272 #[.string s] w (TxtPost (labL s.data.toList) w):=by
 obtain ⟨L,hL⟩: ∃ L,cutL 46 s.data.toList=L:=⟨_,rfl⟩
 have hne:L≠[]:=by rw [← hL];exact cutL_ne _ _
 obtain ⟨m,hm⟩: ∃ m,L.length=m+1:=⟨L.length - 1,by have:=List.length_pos_iff.2 hne;omega⟩
 have HL:=hid hL;have HM:=hid hm;clear hL;have hcut:=rcut_any s 46 w hs;rw [show ((46:UInt8).toNat:Int)=46 from rfl,HL.out] at hcut
 go_enter Tryz.func272,Tryz.ntmps272
 go_wp2_with fail
 refine hcut.mono ?_;rintro e w1 ⟨b,cap,rfl,hlc,hcm,htx,hbw⟩
 clear hcut;have hcell:=htx m (by omega)
 have HT:=hid htx;clear htx;unfold maxLen at hcm;rw [hm] at hlc ⊢;by_cases h1:0<m
 ·have h1':(1:Int)<((m+1:Nat):Int):=by omega
  by_cases h0:L[m]'(by omega)=[]
  ·have HB:=hid (labL_drop HL.out HM.out h1 h0)
   have hemp:(L[m]'(by omega)).isEmpty=true:=by rw [h0];rfl
   clear h0
   go_wp2_with fail
   go_ret
   rw [HB.out];have hlt:(L.take m).length=m:=by rw [List.length_take,HM.out];omega
   exact txt_mk hlt (by omega) hcm (HT.out.take m) hbw
  ·have HB:=hid (labL_same HL.out HM.out (fun h=>h0 h.2))
   have hemp:(L[m]'(by omega)).isEmpty=false:=by simpa using h0
   clear h0
   go_wp2_with fail
   go_ret
   rw [HB.out];exact txt_mk HM.out (by omega) hcm HT.out hbw
 ·have HB:=hid (labL_same HL.out HM.out (fun h=>h1 h.1))
  have h1': ¬ (1:Int)<((m+1:Nat):Int):=by omega
  go_wp2_with fail
  go_ret
  rw [HB.out];exact txt_mk HM.out (by omega) hcm HT.out hbw

theorem hex_yes {c:UInt8} (h:dig16 c<16):hexI (c.toNat:Int)=(dig16 c:Int):=by
 have key: ∀ n<256,dig16 (UInt8.ofNat n)<16→hexI ((UInt8.ofNat n).toNat:Int)=(dig16 (UInt8.ofNat n):Int):=by decide +kernel
 have:=key c.toNat c.toNat_lt;have e:UInt8.ofNat c.toNat=c:=by simp
 rw [e] at this;exact this h

theorem hex_no {c:UInt8} (h: ¬ dig16 c<16):hexI (c.toNat:Int) = -1:=by
 have key: ∀ n<256,¬ dig16 (UInt8.ofNat n)<16→hexI ((UInt8.ofNat n).toNat:Int) = -1:=by decide +kernel
 have:=key c.toNat c.toNat_lt;have e:UInt8.ofNat c.toNat=c:=by simp
 rw [e] at this;exact this h

theorem valC_cons_yes {cap base n:Nat} {c:UInt8} {l:List UInt8} (h:dig16 c<base):valC cap base n (c::l)=valC cap base (min (n*base+dig16 c) cap) l:=by rw [valC,if_pos h]

theorem valC_cons_no {cap base n:Nat} {c:UInt8} {l:List UInt8} (h: ¬ dig16 c<base):valC cap base n (c::l)=none:=by rw [valC,if_neg h]

def NumPost (x:List UInt8) (w:World) (e:Ending) (w':World):Prop:=e = .returned (.tuple #[.int .u64 ((rnumV x).getD 0:Nat),.bool (rnumV x).isSome])∧w=w'

end Go.Proofs.YtolioccofbhliaaGreatDoor

namespace Go.Proofs.YtolioccofbhliaaGreatDoor
open Go.RowKit

theorem ten_yes {c:UInt8} (h:dig16 c<10):(c.toNat:Int) - 48=(dig16 c:Int)∧48≤(c.toNat:Int)∧(c.toNat:Int)≤57∧digitI (c.toNat:Int)=true:=by
 have key: ∀ n<256,dig16 (UInt8.ofNat n)<10→((UInt8.ofNat n).toNat:Int) - 48=(dig16 (UInt8.ofNat n):Int)∧48≤((UInt8.ofNat n).toNat:Int)∧((UInt8.ofNat n).toNat:Int)≤57∧digitI ((UInt8.ofNat n).toNat:Int)=true:=by decide +kernel
 have:=key c.toNat c.toNat_lt;have e:UInt8.ofNat c.toNat=c:=by simp
 rw [e] at this;exact this h

theorem ten_no {c:UInt8} (h: ¬ dig16 c<10):digitI (c.toNat:Int)=false:=by
 have key: ∀ n<256,¬ dig16 (UInt8.ofNat n)<10→digitI ((UInt8.ofNat n).toNat:Int)=false:=by decide +kernel
 have:=key c.toNat c.toNat_lt;have e:UInt8.ofNat c.toNat=c:=by simp
 rw [e] at this;exact this h

def IntPost (l:List UInt8) (w:World) (e:Ending) (w':World):Prop:=e = .returned (.tuple #[.int .i64 ((valC big 10 0 l).getD 0:Nat),.bool ((valC big 10 0 l).isSome && !l.isEmpty)])∧w=w'

theorem int_none {l:List UInt8} {w:World} (h:valC big 10 0 l=none):IntPost l w (.returned (.tuple #[.int .i64 0,.bool false])) w:=by
 unfold IntPost;rw [h];exact ⟨rfl,rfl⟩

theorem int_some {l:List UInt8} {w:World} {n:Nat} {b:Bool} (h:valC big 10 0 l=some n) (hb:b = !l.isEmpty):IntPost l w (.returned (.tuple #[.int .i64 n,.bool b])) w:=by
 unfold IntPost;rw [h,hb];exact ⟨rfl,rfl⟩

set_option maxHeartbeats 2000000 in
set_option maxRecDepth 100000 in
theorem rint2_any (s:ByteArray) (w:World) (hs:s.size≤140737488351232):
 Calls Tryz.prog 115 #[.string s] w (IntPost s.data.toList w):=by
 go_enter Tryz.func115,Tryz.ntmps115
 go_wp2
 go_loop [4,5] (fun v i=> ∃ k n:Nat,k≤s.size∧i = .int .i64 k∧v = .int .i64 n∧n≤9223372036854775807∧valC big 10 n (s.data.toList.drop k)=valC big 10 0 s.data.toList) (fun _ i=>s.size - (intOf i).toNat)
 case atStart=>exact ⟨0,0,Nat.zero_le _,rfl,rfl,by omega,by rw [List.drop_zero]⟩
 case round=>
  obtain ⟨k,n,hk,rfl,rfl,hn,hv⟩:=hrel
  have HV:=hid hv;clear hv;by_cases hlt:k<s.size
  ·have hlt':(k:Int)<(s.size:Int):=by omega
   have HD:=hid (drop_cons s k hlt);have hc8:s[k].toNat<256:=s[k].toNat_lt;by_cases hd:dig16 s[k]<10
   ·obtain ⟨hd1,hd2,hd3,hdg⟩:=ten_yes hd
    have HN:=hid (show valC big 10 (min (n*10+dig16 s[k]) big) (s.data.toList.drop (k+1))=valC big 10 0 s.data.toList by rw [← HV.out,HD.out,valC_cons_yes hd]);have HD1:=hid hd1;by_cases hbig:(9223372036854775807 - ((s[k].toNat:Int) - 48)) / 10<(n:Int)
    ·have HM:=hid (show min (n*10+dig16 s[k]) big=9223372036854775807 by unfold big;omega)
     clear hd1
     go_wp2_with (go_at_call 159;refine (rdigit_any _ _).mono ?_;rintro e w' ⟨rfl,rfl⟩)
     go_round
     case rel=>exact ⟨k+1,9223372036854775807,by omega,by go_num,rfl,by omega,by rw [← HM.out];exact HN.out⟩
     case measure=>simp [intOf];omega
    ·have HM:=hid (show min (n*10+dig16 s[k]) big=n*10+dig16 s[k] by unfold big;omega)
     have hbig':(n:Int)≤(9223372036854775807 - ((s[k].toNat:Int) - 48)) / 10:=by omega
     have hle:n*10+dig16 s[k]≤9223372036854775807:=by omega
     clear hbig hd1
     go_wp2_with (go_at_call 159;refine (rdigit_any _ _).mono ?_;rintro e w' ⟨rfl,rfl⟩)
     go_round
     case rel=>
      refine ⟨k+1,n*10+dig16 s[k],by omega,by go_num,?_,hle,by rw [← HM.out];exact HN.out⟩;have:=HD1.out
      congr 1
      omega
     case measure=>simp [intOf];omega
   ·have hdg:=ten_no hd
    have HN:=hid (show valC big 10 0 s.data.toList=none by rw [← HV.out,HD.out,valC_cons_no hd]);clear hd
    go_wp2_with (go_at_call 159;refine (rdigit_any _ _).mono ?_;rintro e w' ⟨rfl,rfl⟩)
    go_ret2
    exact int_none HN.out
  ·have hlt': ¬ (k:Int)<(s.size:Int):=by omega
   have HE:=hid (show valC big 10 0 s.data.toList=some n by rw [← HV.out,drop_none s k hlt];rfl);by_cases h0:s.size=0
   ·have hl:s.data.toList=[]:=List.eq_nil_of_length_eq_zero (by simpa using h0)
    have HL:=hid hl;clear hl
    go_wp2
    go_ret2
    exact int_some HE.out (by rw [HL.out];simp [h0])
   ·have hl:s.data.toList.isEmpty=false:=by
     rw [List.isEmpty_eq_false_iff];intro h;apply h0;have:=congrArg List.length h;simpa using this
    have HL:=hid hl;clear hl;have h0':(0:Int)<(s.size:Int):=by omega
    go_wp2
    go_ret2
    exact int_some HE.out (by rw [HL.out];first | (simp;omega) | simp)

end Go.Proofs.YtolioccofbhliaaGreatDoor

namespace Go.Proofs.YtolioccofbhliaaGreatDoor
open Go.RowKit

theorem num_ret {x:List UInt8} {w:World} (h:rnumV x=none):NumPost x w (.returned (.tuple #[.int .u64 0,.bool false])) w:=by
 unfold NumPost;rw [h];exact ⟨rfl,rfl⟩

theorem num_ret2 {x:List UInt8} {w:World} {n:Nat} {b:Bool} (h:(rnumV x).getD 0=n) (hb:(rnumV x).isSome=b):NumPost x w (.returned (.tuple #[.int .u64 n,.bool b])) w:=by
 unfold NumPost;rw [h,hb]
 exact ⟨rfl,rfl⟩

set_option maxHeartbeats 4000000 in
set_option maxRecDepth 100000 in
theorem rnumber_any (x:ByteArray) (w:World) (hs:x.size≤4000000000):
 Calls Tryz.prog 273 #[.string x] w (NumPost x.data.toList w):=by
 have hmk:marked x.data.toList=(Lib.hasPrefix x.data.toList [48,120]||Lib.hasPrefix x.data.toList [48,88]):=rfl;by_cases hm:marked x.data.toList=true
 ·have h2:2≤x.size:=by
   obtain ⟨c,r,hx,_⟩:=marked_form _ hm
   have:=congrArg List.length hx;simp at this;omega
  have h2':(2:Int)≤(x.size:Int):=by omega
  obtain ⟨Y,hY⟩: ∃ Y:ByteArray,x.extract 2 x.size=Y:=⟨_,rfl⟩
  have hYd:Y.data.toList=x.data.toList.drop 2:=by rw [← hY,extract_drop]
  have hYs:Y.size≤4000000000:=by rw [← hY];simp;omega
  have HY:=hid hY;have HYd:=hid hYd;have hcase:(Lib.hasPrefix x.data.toList [48,120]=true)∨(Lib.hasPrefix x.data.toList [48,120]=false∧Lib.hasPrefix x.data.toList [48,88]=true):=by
   rw [hmk] at hm
   cases h:Lib.hasPrefix x.data.toList [48,120]
   ·rw [h] at hm;exact .inr ⟨rfl,by simpa using hm⟩
   ·exact .inl rfl
  have HRv:=hid (show rnumV x.data.toList=valC lid 16 0 Y.data.toList by unfold rnumV;rw [if_pos hm,HYd.out]);clear hm hmk hY hYd;by_cases h0:Y.data.toList=[]
  ·have HN:=hid (show rnumV x.data.toList=some 0 by rw [HRv.out,h0];rfl)
   have hemp:(x.extract 2 x.size).toList.isEmpty=true:=by rw [HY.out,Lib.toList_data,h0];rfl
   clear h0;rcases hcase with hp1 | ⟨hp1,hp2⟩
   all_goals
    go_enter Tryz.func273,Tryz.ntmps273
    go_wp2_with (first | (go_at_call 215;refine (begins_any _ _ _ hs (by decide)).mono ?_;rintro e w' ⟨rfl,rfl⟩;first | rw [show (⟨#[48,120]⟩:ByteArray).data.toList=[48,120] from rfl,hp1] | rw [show (⟨#[48,88]⟩:ByteArray).data.toList=[48,88] from rfl,hp2]))
    go_ret2
    exact num_ret2 (by rw [HN.out];rfl) (by rw [HN.out];rfl)
  ·have HR:=hid (show rnumV x.data.toList=if Y.data.toList=[] then none else valC lid 16 0 Y.data.toList by rw [if_neg h0];exact HRv.out)
   have hemp:(x.extract 2 x.size).toList.isEmpty=false:=by rw [HY.out,Lib.toList_data];simpa using h0
   clear h0;rcases hcase with hp1 | ⟨hp1,hp2⟩
   all_goals
    go_enter Tryz.func273,Tryz.ntmps273
    go_wp2_with (first | (go_at_call 215;refine (begins_any _ _ _ hs (by decide)).mono ?_;rintro e w' ⟨rfl,rfl⟩;first | rw [show (⟨#[48,120]⟩:ByteArray).data.toList=[48,120] from rfl,hp1] | rw [show (⟨#[48,88]⟩:ByteArray).data.toList=[48,88] from rfl,hp2]))
    rw [HY.out];clear hemp
    go_loop [5,6] (fun v i=> ∃ k n:Nat,k≤Y.size∧i = .int .i64 k∧v = .int .u64 n∧n≤1099511627776∧valC lid 16 n (Y.data.toList.drop k)=valC lid 16 0 Y.data.toList) (fun _ i=>Y.size - (intOf i).toNat)
    case atStart=>exact ⟨0,0,Nat.zero_le _,rfl,rfl,by omega,by rw [List.drop_zero]⟩
    case round=>
     obtain ⟨k,n,hk,rfl,rfl,hn,hv⟩:=hrel
     have HV:=hid hv;clear hv;by_cases hlt:k<Y.size
     ·have hlt':(k:Int)<(Y.size:Int):=by omega
      have HD:=hid (drop_cons Y k hlt);have hc8:Y[k].toNat<256:=Y[k].toNat_lt;by_cases hd:dig16 Y[k]<16
      ·have hx:=hex_yes (c:=Y[k]) (by omega)
       have HN:=hid (show valC lid 16 (min (n*16+dig16 Y[k]) lid) (Y.data.toList.drop (k+1))=valC lid 16 0 Y.data.toList by rw [← HV.out,HD.out,valC_cons_yes hd]);generalize dig16 Y[k]=d at *
       have hd0: ¬ ((d:Int)<0):=by omega
       have hd1: ¬ ((16:Int)≤(d:Int)):=by omega
       by_cases hbig:1099511627776<n*16+d
       ·have hbig':(1099511627776:Int)<(n:Int)*16+(d:Int):=by omega
        have HM:=hid (show min (n*16+d) lid=1099511627776 by unfold lid;omega)
        go_wp2_with (go_at_call 271;refine (rhex_any _ _ (by omega) (by omega)).mono ?_;rintro e w' ⟨rfl,rfl⟩;rw [hx])
        go_round
        case rel=>exact ⟨k+1,1099511627776,by omega,by go_num,by go_num,by omega,by rw [← HM.out];exact HN.out⟩
        case measure=>simp [intOf];omega
       ·have hbig': ¬ (1099511627776:Int)<(n:Int)*16+(d:Int):=by omega
        have HM:=hid (show min (n*16+d) lid=n*16+d by unfold lid;omega)
        go_wp2_with (go_at_call 271;refine (rhex_any _ _ (by omega) (by omega)).mono ?_;rintro e w' ⟨rfl,rfl⟩;rw [hx])
        go_round
        case rel=>exact ⟨k+1,n*16+d,by omega,by go_num,by go_num,by omega,by rw [← HM.out];exact HN.out⟩
        case measure=>simp [intOf];omega
      ·have HN:=hid (show valC lid 16 0 Y.data.toList=none by rw [← HV.out,HD.out,valC_cons_no hd])
       by_cases hd16:dig16 Y[k]<16
       ·have hx:=hex_yes (c:=Y[k]) hd16
        generalize dig16 Y[k]=d at *
        have hd0: ¬ ((d:Int)<0):=by omega
        have hd1:((16:Int)≤(d:Int)):=by omega
        go_wp2_with (go_at_call 271;refine (rhex_any _ _ (by omega) (by omega)).mono ?_;rintro e w' ⟨rfl,rfl⟩;rw [hx])
        go_ret2
        exact num_ret (by rw [HR.out,HN.out];simp)
       ·have hx:=hex_no (c:=Y[k]) hd16
        clear hd16
        go_wp2_with (go_at_call 271;refine (rhex_any _ _ (by omega) (by omega)).mono ?_;rintro e w' ⟨rfl,rfl⟩;rw [hx])
        go_ret2
        exact num_ret (by rw [HR.out,HN.out];simp)
     ·have hlt': ¬ (k:Int)<(Y.size:Int):=by omega
      have HE:=hid (show valC lid 16 0 Y.data.toList=some n by rw [← HV.out,drop_none Y k hlt];rfl);by_cases h0:Y.size=0
      ·have hn0:n=0:=by
        have h1:=HE.out;have h2:Y.data.toList=[]:=List.eq_nil_of_length_eq_zero (by simpa using h0)
        rw [h2,valC] at h1
        exact (Option.some.inj h1).symm
       have HR2:=hid (show rnumV x.data.toList=none by rw [HR.out,if_pos (List.eq_nil_of_length_eq_zero (by simpa using h0))]);subst hn0
       go_wp2
       go_ret2
       exact num_ret2 (by rw [HR2.out];rfl) (by rw [HR2.out];simp [h0])
      ·have HR2:=hid (show rnumV x.data.toList=some n by rw [HR.out,if_neg (fun e=>h0 (by have:=congrArg List.length e;simpa using this)),HE.out])
       have h0':(0:Int)<(Y.size:Int):=by omega
       go_wp2
       go_ret2
       exact num_ret2 (by rw [HR2.out];rfl) (by rw [HR2.out];first | (simp;omega) | simp)
 ·have hp:Lib.hasPrefix x.data.toList [48,120]=false∧Lib.hasPrefix x.data.toList [48,88]=false:=by
   rw [hmk] at hm;simpa using hm
  obtain ⟨hp1,hp2⟩:=hp
  have hm':marked x.data.toList=false:=by simpa using hm
  by_cases h8:1<x.size∧x.data.toList.head? = some 48
  ·have h1':(1:Int)<(x.size:Int):=by omega
   have hsz:0<x.size:=by omega
   have h48:x[0]=48:=by
    have h:=h8.2;rw [List.head?_eq_getElem?,List.getElem?_eq_getElem (by simpa using hsz)] at h
    exact Option.some.inj h
   have h48':(x[0].toNat:Int)=48:=by rw [h48];rfl
   obtain ⟨Y,hY⟩: ∃ Y:ByteArray,x.extract 1 x.size=Y:=⟨_,rfl⟩
   have hYd:Y.data.toList=x.data.toList.drop 1:=by rw [← hY,extract_drop]
   have hYs:Y.size≤4000000000:=by rw [← hY];simp;omega
   have HY:=hid hY;have HR:=hid (show rnumV x.data.toList=if Y.data.toList=[] then none else valC lid 8 0 Y.data.toList by
    rw [if_neg (by rw [hYd];intro e;have:=congrArg List.length e;simp at this;omega)];unfold rnumV;rw [hm',if_neg (by simp),if_pos ⟨by simpa using h8.1,h8.2⟩,hYd])
   clear hm hmk hY hYd h8 h48 hm'
   go_enter Tryz.func273,Tryz.ntmps273
   go_wp2_with (first | (go_at_call 215;refine (begins_any _ _ _ hs (by decide)).mono ?_;rintro e w' ⟨rfl,rfl⟩;first | rw [show (⟨#[48,120]⟩:ByteArray).data.toList=[48,120] from rfl,hp1] | rw [show (⟨#[48,88]⟩:ByteArray).data.toList=[48,88] from rfl,hp2]))
   rw [HY.out]
   go_wp2
   go_loop [5,6] (fun v i=> ∃ k n:Nat,k≤Y.size∧i = .int .i64 k∧v = .int .u64 n∧n≤1099511627776∧valC lid 8 n (Y.data.toList.drop k)=valC lid 8 0 Y.data.toList) (fun _ i=>Y.size - (intOf i).toNat)
   case atStart=>exact ⟨0,0,Nat.zero_le _,rfl,rfl,by omega,by rw [List.drop_zero]⟩
   case round=>
    obtain ⟨k,n,hk,rfl,rfl,hn,hv⟩:=hrel
    have HV:=hid hv;clear hv;by_cases hlt:k<Y.size
    ·have hlt':(k:Int)<(Y.size:Int):=by omega
     have HD:=hid (drop_cons Y k hlt);have hc8:Y[k].toNat<256:=Y[k].toNat_lt;by_cases hd:dig16 Y[k]<8
     ·have hx:=hex_yes (c:=Y[k]) (by omega)
      have HN:=hid (show valC lid 8 (min (n*8+dig16 Y[k]) lid) (Y.data.toList.drop (k+1))=valC lid 8 0 Y.data.toList by rw [← HV.out,HD.out,valC_cons_yes hd]);generalize dig16 Y[k]=d at *
      have hd0: ¬ ((d:Int)<0):=by omega
      have hd1: ¬ ((8:Int)≤(d:Int)):=by omega
      by_cases hbig:1099511627776<n*8+d
      ·have hbig':(1099511627776:Int)<(n:Int)*8+(d:Int):=by omega
       have HM:=hid (show min (n*8+d) lid=1099511627776 by unfold lid;omega)
       go_wp2_with (go_at_call 271;refine (rhex_any _ _ (by omega) (by omega)).mono ?_;rintro e w' ⟨rfl,rfl⟩;rw [hx])
       go_round
       case rel=>exact ⟨k+1,1099511627776,by omega,by go_num,by go_num,by omega,by rw [← HM.out];exact HN.out⟩
       case measure=>simp [intOf];omega
      ·have hbig': ¬ (1099511627776:Int)<(n:Int)*8+(d:Int):=by omega
       have HM:=hid (show min (n*8+d) lid=n*8+d by unfold lid;omega)
       go_wp2_with (go_at_call 271;refine (rhex_any _ _ (by omega) (by omega)).mono ?_;rintro e w' ⟨rfl,rfl⟩;rw [hx])
       go_round
       case rel=>exact ⟨k+1,n*8+d,by omega,by go_num,by go_num,by omega,by rw [← HM.out];exact HN.out⟩
       case measure=>simp [intOf];omega
     ·have HN:=hid (show valC lid 8 0 Y.data.toList=none by rw [← HV.out,HD.out,valC_cons_no hd])
      by_cases hd16:dig16 Y[k]<16
      ·have hx:=hex_yes (c:=Y[k]) hd16
       generalize dig16 Y[k]=d at *
       have hd0: ¬ ((d:Int)<0):=by omega
       have hd1:((8:Int)≤(d:Int)):=by omega
       go_wp2_with (go_at_call 271;refine (rhex_any _ _ (by omega) (by omega)).mono ?_;rintro e w' ⟨rfl,rfl⟩;rw [hx])
       go_ret2
       exact num_ret (by rw [HR.out,HN.out];simp)
      ·have hx:=hex_no (c:=Y[k]) hd16
       clear hd16
       go_wp2_with (go_at_call 271;refine (rhex_any _ _ (by omega) (by omega)).mono ?_;rintro e w' ⟨rfl,rfl⟩;rw [hx])
       go_ret2
       exact num_ret (by rw [HR.out,HN.out];simp)
    ·have hlt': ¬ (k:Int)<(Y.size:Int):=by omega
     have HE:=hid (show valC lid 8 0 Y.data.toList=some n by rw [← HV.out,drop_none Y k hlt];rfl);by_cases h0:Y.size=0
     ·have hn0:n=0:=by
       have h1:=HE.out;have h2:Y.data.toList=[]:=List.eq_nil_of_length_eq_zero (by simpa using h0)
       rw [h2,valC] at h1
       exact (Option.some.inj h1).symm
      have HR2:=hid (show rnumV x.data.toList=none by rw [HR.out,if_pos (List.eq_nil_of_length_eq_zero (by simpa using h0))]);subst hn0
      go_wp2
      go_ret2
      exact num_ret2 (by rw [HR2.out];rfl) (by rw [HR2.out];simp [h0])
     ·have HR2:=hid (show rnumV x.data.toList=some n by rw [HR.out,if_neg (fun e=>h0 (by have:=congrArg List.length e;simpa using this)),HE.out])
      have h0':(0:Int)<(Y.size:Int):=by omega
      go_wp2
      go_ret2
      exact num_ret2 (by rw [HR2.out];rfl) (by rw [HR2.out];first | (simp;omega) | simp)
  ·obtain ⟨Y,hY⟩: ∃ Y:ByteArray,x=Y:=⟨_,rfl⟩
   have HR:=hid (show rnumV x.data.toList=if Y.data.toList=[] then none else valC lid 10 0 Y.data.toList by
    rw [← hY];unfold rnumV;rw [hm',if_neg (by simp),if_neg (by simpa using h8)])
   have hYs:Y.size≤4000000000:=by rw [← hY];exact hs
   have hcase: ¬ (1<x.size)∨(1<x.size ∧ ∃ h:0<x.size,((x[0].toNat:Int)==48)=false):=by
    by_cases h1:1<x.size
    ·right
     refine ⟨h1,by omega,?_⟩
     rw [beq_eq_false_iff_ne];intro e;apply h8;refine ⟨h1,?_⟩
     rw [List.head?_eq_getElem?,List.getElem?_eq_getElem (by simp;omega)]
     have:x[0]=48:=UInt8.toNat_inj.1 (by show x[0].toNat=48;omega)
     exact congrArg some this
    ·exact .inl h1
   clear hm hmk h8 hm';subst hY;rcases hcase with h1 | ⟨h1,h0,h48⟩
   ·have h1': ¬ (1:Int)<(x.size:Int):=by omega
    go_enter Tryz.func273,Tryz.ntmps273
    go_wp2_with (first | (go_at_call 215;refine (begins_any _ _ _ hs (by decide)).mono ?_;rintro e w' ⟨rfl,rfl⟩;first | rw [show (⟨#[48,120]⟩:ByteArray).data.toList=[48,120] from rfl,hp1] | rw [show (⟨#[48,88]⟩:ByteArray).data.toList=[48,88] from rfl,hp2]))
    go_loop [5,6] (fun v i=> ∃ k n:Nat,k≤x.size∧i = .int .i64 k∧v = .int .u64 n∧n≤1099511627776∧valC lid 10 n (x.data.toList.drop k)=valC lid 10 0 x.data.toList) (fun _ i=>x.size - (intOf i).toNat)
    case atStart=>exact ⟨0,0,Nat.zero_le _,rfl,rfl,by omega,by rw [List.drop_zero]⟩
    case round=>
     obtain ⟨k,n,hk,rfl,rfl,hn,hv⟩:=hrel
     have HV:=hid hv;clear hv;by_cases hlt:k<x.size
     ·have hlt':(k:Int)<(x.size:Int):=by omega
      have HD:=hid (drop_cons x k hlt);have hc8:x[k].toNat<256:=x[k].toNat_lt;by_cases hd:dig16 x[k]<10
      ·have hx:=hex_yes (c:=x[k]) (by omega)
       have HN:=hid (show valC lid 10 (min (n*10+dig16 x[k]) lid) (x.data.toList.drop (k+1))=valC lid 10 0 x.data.toList by rw [← HV.out,HD.out,valC_cons_yes hd]);generalize dig16 x[k]=d at *
       have hd0: ¬ ((d:Int)<0):=by omega
       have hd1: ¬ ((10:Int)≤(d:Int)):=by omega
       by_cases hbig:1099511627776<n*10+d
       ·have hbig':(1099511627776:Int)<(n:Int)*10+(d:Int):=by omega
        have HM:=hid (show min (n*10+d) lid=1099511627776 by unfold lid;omega)
        go_wp2_with (go_at_call 271;refine (rhex_any _ _ (by omega) (by omega)).mono ?_;rintro e w' ⟨rfl,rfl⟩;rw [hx])
        go_round
        case rel=>exact ⟨k+1,1099511627776,by omega,by go_num,by go_num,by omega,by rw [← HM.out];exact HN.out⟩
        case measure=>simp [intOf];omega
       ·have hbig': ¬ (1099511627776:Int)<(n:Int)*10+(d:Int):=by omega
        have HM:=hid (show min (n*10+d) lid=n*10+d by unfold lid;omega)
        go_wp2_with (go_at_call 271;refine (rhex_any _ _ (by omega) (by omega)).mono ?_;rintro e w' ⟨rfl,rfl⟩;rw [hx])
        go_round
        case rel=>exact ⟨k+1,n*10+d,by omega,by go_num,by go_num,by omega,by rw [← HM.out];exact HN.out⟩
        case measure=>simp [intOf];omega
      ·have HN:=hid (show valC lid 10 0 x.data.toList=none by rw [← HV.out,HD.out,valC_cons_no hd])
       by_cases hd16:dig16 x[k]<16
       ·have hx:=hex_yes (c:=x[k]) hd16
        generalize dig16 x[k]=d at *
        have hd0: ¬ ((d:Int)<0):=by omega
        have hd1:((10:Int)≤(d:Int)):=by omega
        go_wp2_with (go_at_call 271;refine (rhex_any _ _ (by omega) (by omega)).mono ?_;rintro e w' ⟨rfl,rfl⟩;rw [hx])
        go_ret2
        exact num_ret (by rw [HR.out,HN.out];simp)
       ·have hx:=hex_no (c:=x[k]) hd16
        clear hd16
        go_wp2_with (go_at_call 271;refine (rhex_any _ _ (by omega) (by omega)).mono ?_;rintro e w' ⟨rfl,rfl⟩;rw [hx])
        go_ret2
        exact num_ret (by rw [HR.out,HN.out];simp)
     ·have hlt': ¬ (k:Int)<(x.size:Int):=by omega
      have HE:=hid (show valC lid 10 0 x.data.toList=some n by rw [← HV.out,drop_none x k hlt];rfl);by_cases h0:x.size=0
      ·have hn0:n=0:=by
        have h1:=HE.out;have h2:x.data.toList=[]:=List.eq_nil_of_length_eq_zero (by simpa using h0)
        rw [h2,valC] at h1
        exact (Option.some.inj h1).symm
       have HR2:=hid (show rnumV x.data.toList=none by rw [HR.out,if_pos (List.eq_nil_of_length_eq_zero (by simpa using h0))]);subst hn0
       go_wp2
       go_ret2
       exact num_ret2 (by rw [HR2.out];rfl) (by rw [HR2.out];simp [h0])
      ·have HR2:=hid (show rnumV x.data.toList=some n by rw [HR.out,if_neg (fun e=>h0 (by have:=congrArg List.length e;simpa using this)),HE.out])
       have h0':(0:Int)<(x.size:Int):=by omega
       go_wp2
       go_ret2
       exact num_ret2 (by rw [HR2.out];rfl) (by rw [HR2.out];first | (simp;omega) | simp)
   ·have h1':(1:Int)<(x.size:Int):=by omega
    go_enter Tryz.func273,Tryz.ntmps273
    go_wp2_with (first | (go_at_call 215;refine (begins_any _ _ _ hs (by decide)).mono ?_;rintro e w' ⟨rfl,rfl⟩;first | rw [show (⟨#[48,120]⟩:ByteArray).data.toList=[48,120] from rfl,hp1] | rw [show (⟨#[48,88]⟩:ByteArray).data.toList=[48,88] from rfl,hp2]))
    go_loop [5,6] (fun v i=> ∃ k n:Nat,k≤x.size∧i = .int .i64 k∧v = .int .u64 n∧n≤1099511627776∧valC lid 10 n (x.data.toList.drop k)=valC lid 10 0 x.data.toList) (fun _ i=>x.size - (intOf i).toNat)
    case atStart=>exact ⟨0,0,Nat.zero_le _,rfl,rfl,by omega,by rw [List.drop_zero]⟩
    case round=>
     obtain ⟨k,n,hk,rfl,rfl,hn,hv⟩:=hrel
     have HV:=hid hv;clear hv;by_cases hlt:k<x.size
     ·have hlt':(k:Int)<(x.size:Int):=by omega
      have HD:=hid (drop_cons x k hlt);have hc8:x[k].toNat<256:=x[k].toNat_lt;by_cases hd:dig16 x[k]<10
      ·have hx:=hex_yes (c:=x[k]) (by omega)
       have HN:=hid (show valC lid 10 (min (n*10+dig16 x[k]) lid) (x.data.toList.drop (k+1))=valC lid 10 0 x.data.toList by rw [← HV.out,HD.out,valC_cons_yes hd]);generalize dig16 x[k]=d at *
       have hd0: ¬ ((d:Int)<0):=by omega
       have hd1: ¬ ((10:Int)≤(d:Int)):=by omega
       by_cases hbig:1099511627776<n*10+d
       ·have hbig':(1099511627776:Int)<(n:Int)*10+(d:Int):=by omega
        have HM:=hid (show min (n*10+d) lid=1099511627776 by unfold lid;omega)
        go_wp2_with (go_at_call 271;refine (rhex_any _ _ (by omega) (by omega)).mono ?_;rintro e w' ⟨rfl,rfl⟩;rw [hx])
        go_round
        case rel=>exact ⟨k+1,1099511627776,by omega,by go_num,by go_num,by omega,by rw [← HM.out];exact HN.out⟩
        case measure=>simp [intOf];omega
       ·have hbig': ¬ (1099511627776:Int)<(n:Int)*10+(d:Int):=by omega
        have HM:=hid (show min (n*10+d) lid=n*10+d by unfold lid;omega)
        go_wp2_with (go_at_call 271;refine (rhex_any _ _ (by omega) (by omega)).mono ?_;rintro e w' ⟨rfl,rfl⟩;rw [hx])
        go_round
        case rel=>exact ⟨k+1,n*10+d,by omega,by go_num,by go_num,by omega,by rw [← HM.out];exact HN.out⟩
        case measure=>simp [intOf];omega
      ·have HN:=hid (show valC lid 10 0 x.data.toList=none by rw [← HV.out,HD.out,valC_cons_no hd])
       by_cases hd16:dig16 x[k]<16
       ·have hx:=hex_yes (c:=x[k]) hd16
        generalize dig16 x[k]=d at *
        have hd0: ¬ ((d:Int)<0):=by omega
        have hd1:((10:Int)≤(d:Int)):=by omega
        go_wp2_with (go_at_call 271;refine (rhex_any _ _ (by omega) (by omega)).mono ?_;rintro e w' ⟨rfl,rfl⟩;rw [hx])
        go_ret2
        exact num_ret (by rw [HR.out,HN.out];simp)
       ·have hx:=hex_no (c:=x[k]) hd16
        clear hd16
        go_wp2_with (go_at_call 271;refine (rhex_any _ _ (by omega) (by omega)).mono ?_;rintro e w' ⟨rfl,rfl⟩;rw [hx])
        go_ret2
        exact num_ret (by rw [HR.out,HN.out];simp)
     ·have hlt': ¬ (k:Int)<(x.size:Int):=by omega
      have HE:=hid (show valC lid 10 0 x.data.toList=some n by rw [← HV.out,drop_none x k hlt];rfl);by_cases h0:x.size=0
      ·exact absurd h1 (by omega)
      ·have HR2:=hid (show rnumV x.data.toList=some n by rw [HR.out,if_neg (fun e=>h0 (by have:=congrArg List.length e;simpa using this)),HE.out])
       have h0':(0:Int)<(x.size:Int):=by omega
       go_wp2
       go_ret2
       exact num_ret2 (by rw [HR2.out];rfl) (by rw [HR2.out];first | (simp;omega) | simp)

end Go.Proofs.YtolioccofbhliaaGreatDoor
