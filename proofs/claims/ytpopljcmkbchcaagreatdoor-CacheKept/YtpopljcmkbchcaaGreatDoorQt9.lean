/-
  Walks and plain facts that this claim leans on, put together out of 1 texts: Ehh.
-/
import Derived.Test.YtpopljcmkbchcaaGreatDoorProg
import Derived.Test.YtpopljcmkbchcaaGreatDoorQt1
import Derived.Test.YtpopljcmkbchcaaGreatDoorQt2
import Derived.Test.YtpopljcmkbchcaaGreatDoorQt3
import Derived.Test.YtpopljcmkbchcaaGreatDoorQt4
import Derived.Test.YtpopljcmkbchcaaGreatDoorQt5
import Derived.Test.YtpopljcmkbchcaaGreatDoorQt6
import Derived.Test.YtpopljcmkbchcaaGreatDoorQt7
import Derived.Test.YtpopljcmkbchcaaGreatDoorQt8
import Derived.BigRegion
import Derived.Deep.RegionHeld
import Derived.Deep.RegionHeldLaw
import Derived.Lib.IndexAny
import Derived.WalkKit
import Derived.Lib.UnsafeStr
import Derived.Lib.BufferRead
import Derived.Lib.RuneBytes
import Derived.Laws.RangeAny
import Derived.Deep.LoopGhost
import Derived.Maps.OwnSet
import Derived.Maps.OwnOps
import Derived.Maps.AppendAt
import Derived.StringKeys
import Derived.BigQuiet
import Derived.Deep.QuietTactic
import Derived.LoopN
import Derived.RegionTactic
import Derived.Deep.RegionLaw
import Derived.Deep.RegionWith
import Derived.WalkSpells
import Derived.WalkLawsBesides
import Derived.Lib.FieldsP
import Derived.Lib.DecodeN
import Derived.Lib.IndexMore
import Derived.Lib.Join
import Derived.Lib.SmallJoins
import Derived.Laws.CopyOwn
import Derived.Laws.ResultCell
import Derived.Deep.MidRow
import Derived.Laws.OwnMore
import Derived.Below
import Derived.WalkSmall
import Derived.Lib.LaidTab
import Derived.Lib.AppendIntMem
import Derived.Laws.AppendOwn
import Derived.Laws.Runes
import Derived.Lib.OthersKept
import Derived.Lib.FrozenHead2
import Derived.Lib.Builder
import Derived.Lib.AppendStr
import Derived.Lib.Replace
import Derived.Shelf.GgClosure.GivesRunes
import Derived.Laws.BitsAll
import Derived.Laws.Shifts
import Derived.Deep.DeepAppendRoom
import Derived.Laws.IdiomStrings
import Derived.Laws.BytesString
import Derived.Laws.CopyRow
import Derived.Sort.OwnSorted
import Derived.Lib.SlicesCompact
import Derived.Shelf.Slices.In.SortNone
import Derived.Shelf.Slices.CompactS
import Derived.Lib.SliceRun
import Derived.Lib.Strings
import Derived.Laws.BitsAllLaws
import Derived.Lib.Bytealg
import Derived.Lib.BufferMore
import Derived.Shelf.Strings.Builder1
import Derived.Shelf.Strings.Builder2
import Derived.Shelf.Strings.OnBuilder
import Derived.Shelf.Strings.Trim
import Derived.Shelf.Small.Utf8
import Derived.Shelf.Small.Bits
import Derived.Shelf.Small.Strs
import Derived.Shelf.Small.Wraps
import Derived.Shelf.Strings.BuilderF
import Derived.Shelf.Strings.BuilderK
import Derived.Shelf.Strings.BuilderRune
import Derived.Shelf.Utf8.AppendRune
import Derived.Shelf.Utf8.AppendRunePlain
import Derived.Shelf.Strings.Builder2Cap
import Derived.Shelf.Strconv.Itoa0
import Derived.Shelf.Strconv.Itoa1
import Derived.Shelf.LaysM
import Derived.Shelf.Strconv.Itoa2
import Derived.Shelf.Strconv.Itoa3
import Derived.Shelf.Strings.Search1
import Derived.Shelf.Strings.Search2
import Derived.Shelf.Strings.Cut
import Derived.Shelf.Strings.Shaped
import Derived.Shelf.Sort.Plain
import Derived.Shelf.Strings.Prefix
import Derived.Shelf.Unicode.Latin
import Derived.Shelf.Strings.Runes
import Derived.Shelf.Strings.IndexAny
import Derived.Shelf.Strings.AsciiSet
import Derived.Shelf.Strings.IndexAnyAll
import Derived.Shelf.Unicode.DecodeSlow
import Derived.Shelf.Unicode.DecodeAny
import Derived.Shelf.Unicode.DecodeLast
import Derived.Shelf.Unicode.CaseLookup
import Derived.Shelf.Unicode.CaseConvert
import Derived.Shelf.Unicode.CaseTo
import Derived.Shelf.Unicode.CaseLaid
import Derived.Lib.SlTrimSet
import Derived.Shelf.Strings.SlTrimAscii
import Derived.Deep.CutRange
import Derived.Laws.Rows
import Derived.Laws.MakeOwn
import Derived.Deep.WholeRow
import Derived.Laws.AppendOwnNone
set_option linter.unusedSimpArgs false
set_option linter.unusedVariables false

namespace Go.Proofs.YtpopljcmkbchcaaGreatDoor
open Go.RowKit

def RwAt (k:Nat) (w:World) (v:Value) (n:Nat) (xs:List Value):Prop:=xs.length=n*k ∧ ∃ a c,v = .slice a n c∧n≤c∧c≤maxLen∧((a=none∧n=0) ∨ ∃ ad,a=some ad ∧ ∀ j u,xs[j]? = some u→w.cell? (ad.add j)=some u)

theorem RwAt.kept {k:Nat} {w w':World} {v:Value} {n:Nat} {xs:List Value} (h:RwAt k w v n xs) (hb:Below w.heap.size w w'):RwAt k w' v n xs:=by
 obtain ⟨h1,a,c,e,h2,h3,h4⟩:=h
 refine ⟨h1,a,c,e,h2,h3,?_⟩
 rcases h4 with h4 | ⟨ad,e2,h4⟩
 ·exact .inl h4
 ·exact .inr ⟨ad,e2,fun j u hu=>(hb.cell (World.block_lt_of_cell? w _ (h4 j u hu))).trans (h4 j u hu)⟩

theorem own_rw {w:World} {B k n:Nat} {T:TypeId} {v:Value} {xs:List Value} (h:w.ownsRow B T k v n xs):RwAt k w v n xs:=by
 refine ⟨h.1,?_⟩
 rcases h.2 with ⟨rfl,rfl⟩ | ⟨g,cap,cur,rfl,hb,hg,h1,h2,h3,h4⟩
 ·exact ⟨none,0,rfl,Nat.le_refl _,by decide,.inl ⟨rfl,rfl⟩⟩
 ·refine ⟨_,cap,rfl,h1,h2,.inr ⟨_,rfl,fun j u hu=> ?_⟩⟩
  have:=h.cellAt j (by have:=(List.getElem?_eq_some_iff.1 hu).1;rw [h.1] at this;exact this)
  rw [Addr.add_mid,Nat.zero_add,this]
  exact hu

theorem hd_rw {w:World} {v:Value} {L:List Hd} (h:HdAt w v L):RwAt 2 w v L.length (cellsH L):=by
 obtain ⟨a,c,rfl,h1,h2,h3⟩:=h
 refine ⟨cellsH_len L,a,c,rfl,h1,h2,?_⟩
 cases a with
 | none=>
   refine .inl ⟨rfl,?_⟩
   cases L with
   | nil=>rfl
   | cons x L=>obtain ⟨b,off,e,_⟩:=h3 0 (by simp);cases e
 | some ad=>
   refine .inr ⟨ad,rfl,fun j u hu=> ?_⟩
   have hj:=(List.getElem?_eq_some_iff.1 hu).1;rw [cellsH_len] at hj;obtain ⟨b,off,e,c1,c2⟩:=h3 (j / 2) (by omega)
   injection e with e
   subst e;obtain ⟨d1,d2⟩:=cellsH_at L (j / 2) (by omega)
   rw [Addr.add_mid];rcases Nat.mod_two_eq_zero_or_one j with h | h
   ·have ej:j=j / 2*2:=by omega
    rw [ej] at hu ⊢;rw [d1] at hu;rw [c1];exact hu
   ·have ej:j=j / 2*2+1:=by omega
    rw [ej] at hu ⊢;rw [d2] at hu;rw [← Nat.add_assoc,c2];exact hu

theorem cellsH_oneC (L:List Hd): ∀ u ∈ cellsH L,u.oneCell'=true:=by
 intro u hu;unfold cellsH at hu;obtain ⟨h,_,hu⟩:=List.mem_flatMap.1 hu
 simp at hu;rcases hu with rfl | rfl<;>rfl

theorem cellsB_oneC (l:List UInt8): ∀ u ∈ cellsB l,u.oneCell'=true:=by
 intro u hu;unfold cellsB at hu;obtain ⟨h,_,rfl⟩:=List.mem_map.1 hu
 rfl

theorem own_mt17 (w:World) (T:TypeId) (k:Nat):(w.alloc (.cells #[] T)).ownsRow w.heap.size T k (.slice (some ⟨w.heap.size,0,none⟩) 0 0) 0 []:=
 ⟨by simp,.inr ⟨w.heap.size,0,#[],rfl,Nat.le_refl _,heap_alloc_new w _,Nat.le_refl _,Nat.zero_le _,by simp,by simp⟩⟩

theorem own_low17 {w:World} {B B':Nat} {e:TypeId} {k:Nat} {v:Value} {n:Nat} {xs:List Value} (h:w.ownsRow B e k v n xs) (hb:B'≤B):w.ownsRow B' e k v n xs:=by
 refine ⟨h.1,?_⟩
 rcases h.2 with h2 | ⟨g,cap,cur,e1,e2,e3⟩
 ·exact .inl h2
 ·exact .inr ⟨g,cap,cur,e1,Nat.le_trans hb e2,e3⟩

theorem infoBy:(Tryz.prog.info? 5).map (fun i=>(i.zero,i.size,i.bytes))=some (some (.int .u8 0),1,1):=by kernel_rfl

set_option maxHeartbeats 1000000 in
set_option maxRecDepth 100000 in
theorem cloneH17_any (v:Value) (n:Nat) (xs:List Value) (w:World) (h:RwAt 2 w v n xs) (h1: ∀ u ∈ xs,u.oneCell'=true) (hl:n≤1000000):
 Calls Tryz.prog 109 #[v] w fun e w'=> ∃ u,e = .returned u∧w'.ownsRow w.heap.size 45 2 u n xs∧Below w.heap.size w w':=by
 obtain ⟨i0,hi,hz0,hz1,hz2⟩:=info3 infoHd
 obtain ⟨hx,a,c,rfl,hc,hm,ha⟩:=h
 rcases ha with ⟨rfl,rfl⟩ | ⟨ad,rfl,hcell⟩
 ·have hx0:xs=[]:=List.eq_nil_of_length_eq_zero (by omega)
  subst hx0;have hnl:(binOp .eql 27 (.slice none 0 c) (.slice none 0 0)).run Tryz.prog w = .ok (.bool true) w:=Lib.run_eql_slice_nil w _ _ none 0 c 0 0 Tryz.underlying27;clear hx hc hm h1 hl
  go_enter Tryz.func109,Tryz.ntmps109
  go_wp2
  go_ret
  exact ⟨_,rfl,World.ownsRow_nil _ _ _ _,Below.refl _ _⟩
 ·have hb0:Below w.heap.size w (w.alloc (.cells #[] 45)):=(Below.refl _ w).alloc (Nat.le_refl _) _
  have HB0:=hid hb0;have HC:=hid (show ∀ j u,xs[j]? = some u→(w.alloc (.cells #[] 45)).cell? (ad.add j)=some u from fun j u hu=>(hb0.cell (World.block_lt_of_cell? w _ (hcell j u hu))).trans (hcell j u hu));have HX:=hid hx;have HOne:=hid h1;have hnl:(binOp .eql 27 (.slice (some ad) n c) (.slice none 0 0)).run Tryz.prog w = .ok (.bool false) w:=Lib.run_eql_slice_nil w _ _ (some ad) n c 0 0 Tryz.underlying27;clear hx hc hm h1 hcell hb0
  go_enter Tryz.func109,Tryz.ntmps109
  go_wp2_with (at_builtin;refine wpList_append_own _ rfl _ _ 27 rfl w.heap.size 45 i0 _ 2 32 Tryz.underlying27 hi hz0 hz1 hz2 rfl (by decide) _ 0 [] rfl (own_mt17 w 45 2) ad n c xs rfl HX.out HC.out HOne.out (by unfold maxLen;omega) (by omega) (by simp) ?_)
  intro v' w' hown hgrow hnil;have HO:=hid hown;have HB:=hid (show Below w.heap.size w w' from HB0.out.grown hgrow (by simp) (fun k hk=>by simp [Value.ownBlock] at hk;omega));clear hown hgrow hnil
  go_wp2
  go_ret
  exact ⟨v',rfl,HO.out,HB.out⟩

set_option maxHeartbeats 1000000 in
set_option maxRecDepth 100000 in
theorem cloneB17_any (v:Value) (n:Nat) (xs:List Value) (w:World) (h:RwAt 1 w v n xs) (h1: ∀ u ∈ xs,u.oneCell'=true) (hl:n≤1000000):
 Calls Tryz.prog 110 #[v] w fun e w'=> ∃ u,e = .returned u∧w'.ownsRow w.heap.size 5 1 u n xs∧Below w.heap.size w w':=by
 obtain ⟨i0,hi,hz0,hz1,hz2⟩:=info3 infoBy
 obtain ⟨hx,a,c,rfl,hc,hm,ha⟩:=h
 rcases ha with ⟨rfl,rfl⟩ | ⟨ad,rfl,hcell⟩
 ·have hx0:xs=[]:=List.eq_nil_of_length_eq_zero (by omega)
  subst hx0;have hnl:(binOp .eql 28 (.slice none 0 c) (.slice none 0 0)).run Tryz.prog w = .ok (.bool true) w:=Lib.run_eql_slice_nil w _ _ none 0 c 0 0 Tryz.underlying28;clear hx hc hm h1 hl
  go_enter Tryz.func110,Tryz.ntmps110
  go_wp2
  go_ret
  exact ⟨_,rfl,World.ownsRow_nil _ _ _ _,Below.refl _ _⟩
 ·have hb0:Below w.heap.size w (w.alloc (.cells #[] 5)):=(Below.refl _ w).alloc (Nat.le_refl _) _
  have HB0:=hid hb0;have HC:=hid (show ∀ j u,xs[j]? = some u→(w.alloc (.cells #[] 5)).cell? (ad.add j)=some u from fun j u hu=>(hb0.cell (World.block_lt_of_cell? w _ (hcell j u hu))).trans (hcell j u hu));have HX:=hid hx;have HOne:=hid h1;have hnl:(binOp .eql 28 (.slice (some ad) n c) (.slice none 0 0)).run Tryz.prog w = .ok (.bool false) w:=Lib.run_eql_slice_nil w _ _ (some ad) n c 0 0 Tryz.underlying28;clear hx hc hm h1 hcell hb0
  go_enter Tryz.func110,Tryz.ntmps110
  go_wp2_with (at_builtin;refine wpList_append_own _ rfl _ _ 28 rfl w.heap.size 5 i0 _ 1 1 Tryz.underlying28 hi hz0 hz1 hz2 rfl (by decide) _ 0 [] rfl (own_mt17 w 5 1) ad n c xs rfl HX.out HC.out HOne.out (by unfold maxLen;omega) (by omega) (by simp) ?_)
  intro v' w' hown hgrow hnil;have HO:=hid hown;have HB:=hid (show Below w.heap.size w w' from HB0.out.grown hgrow (by simp) (fun k hk=>by simp [Value.ownBlock] at hk;omega));clear hown hgrow hnil
  go_wp2
  go_ret
  exact ⟨v',rfl,HO.out,HB.out⟩

def Rp3 (w:World) (b:Nat) (st:Int) (vh vb:Value):Prop:=w.heap[b]? = some (.cells #[.int .i64 st,vh,vb] 30 (0,0))

theorem Rp3.range {w:World} {b:Nat} {st:Int} {vh vb:Value} (h:Rp3 w b st vh vb):w.rangeAt b 0 [.int .i64 st,vh,vb]:=range_row_Cb (cs:=[.int .i64 st,vh,vb]) h

theorem Rp3.cells {w:World} {b:Nat} {st:Int} {vh vb:Value} (h:Rp3 w b st vh vb):w.cell? ⟨b,0,none⟩=some (.int .i64 st)∧w.cell? ⟨b,1,none⟩=some vh∧w.cell? ⟨b,2,none⟩=some vb∧w.frozen? ⟨b,0,none⟩=false∧w.frozen? ⟨b,1,none⟩=false∧w.frozen? ⟨b,2,none⟩=false:=
 ⟨by rw [Lib.cell_of_heap h];rfl,by rw [Lib.cell_of_heap h];rfl,by rw [Lib.cell_of_heap h];rfl,Lib.frozen_of_heap h 0,Lib.frozen_of_heap h 1,Lib.frozen_of_heap h 2⟩

theorem Rp3.set {w:World} {b:Nat} {st s':Int} {vh vb h' b':Value} (h:Rp3 w b st vh vb):Rp3 (((w.setCell ⟨b,0,none⟩ (.int .i64 s')).setCell ⟨b,1,none⟩ h').setCell ⟨b,2,none⟩ b') b s' h' b':=by
 have h1:=Lib.heap_setCell_same h (i:=0) (.int .i64 s');have h2:=Lib.heap_setCell_same h1 (i:=1) h';exact Lib.heap_setCell_same h2 (i:=2) b'

theorem results_rp {fn:Func} {p:Tmp} (h:fn.results = #[.cell p 30]) (tmps:Array Value) (w:World) (b:Nat) (st:Int) (vh vb:Value) (hp:tmps.getD p undef = .pointer (some ⟨b,0,none⟩)) (hc:w.rangeAt b 0 [.int .i64 st,vh,vb]):(results fn tmps).run Tryz.prog w = .ok (.agg #[.int .i64 st,vh,vb]) w:=by
 rw [Array.getD_eq_getD_getElem?] at hp;simp only [results,h]
 simp [Sem.run_bind,Result.andThen,hp,asAddr,run_loadVar_mid w b 0 30 [.int .i64 st,vh,vb] _ hc Tryz.underlying30 rfl (by kernel_rfl)]

set_option maxHeartbeats 2000000 in
set_option maxRecDepth 100000 in
theorem copied_any (st:Int) (vh vb:Value) (L:List Hd) (l:List UInt8) (w:World) (hh:RwAt 2 w vh L.length (cellsH L)) (hb:RwAt 1 w vb l.length (cellsB l)) (hl:L.length≤1000000) (hl2:l.length≤1000000):
 Calls Tryz.prog 57 #[.agg #[.int .i64 st,vh,vb]] w fun e w'=> ∃ u b,e = .returned (.agg #[.int .i64 st,u,b])∧w'.ownsRow w.heap.size 45 2 u L.length (cellsH L)∧w'.ownsRow w.heap.size 5 1 b l.length (cellsB l)∧Below w.heap.size w w':=by
 have HH:=hid hh;have HBb:=hid hb;obtain ⟨_,a1,c1,rfl,_,_,_⟩:=hh
 obtain ⟨_,a2,c2,rfl,_,_,_⟩:=hb
 obtain ⟨n1,hn1⟩: ∃ n,n=L.length:=⟨_,rfl⟩
 obtain ⟨n2,hn2⟩: ∃ n,n=l.length:=⟨_,rfl⟩
 obtain ⟨xs,hxs⟩: ∃ xs,xs=cellsH L:=⟨_,rfl⟩
 obtain ⟨ys,hys⟩: ∃ xs,xs=cellsB l:=⟨_,rfl⟩
 have HO1:=hid (cellsH_oneC L);have HO2:=hid (cellsB_oneC l);rw [← hxs] at HO1;rw [← hys] at HO2;rw [← hn1,← hxs] at HH;rw [← hn2,← hys] at HBb;rw [← hn1] at hl;rw [← hn2] at hl2;rw [← hn1,← hn2,← hxs,← hys];have HC1:=hid (fun (Y:World) (hY:Below w.heap.size w Y)=>cloneH17_any _ n1 xs Y (HH.out.kept hY) HO1.out hl);have HC2:=hid (fun (Y:World) (hY:Below w.heap.size w Y)=>cloneB17_any _ n2 ys Y (HBb.out.kept hY) HO2.out hl2);clear hn1 hn2 hxs hys;obtain ⟨W1,hW1⟩: ∃ X,w.alloc (.cells #[.int .i64 st,.slice a1 n1 c1,.slice a2 n2 c2] 30)=X:=⟨_,rfl⟩
 obtain ⟨W2,hW2⟩: ∃ X,W1.alloc (.cells #[.int .i64 0,.slice none 0 0,.slice none 0 0] 30)=X:=⟨_,rfl⟩
 have hb1:Below w.heap.size w W1:=by rw [← hW1];exact (Below.refl _ w).alloc (Nat.le_refl _) _
 have hb2:Below W1.heap.size W1 W2:=by rw [← hW2];exact (Below.refl _ W1).alloc (Nat.le_refl _) _
 have hs1:W1.heap.size=w.heap.size+1:=by rw [← hW1];simp
 have hr1:W2.heap[w.heap.size]? = some (.cells #[.int .i64 st,.slice a1 n1 c1,.slice a2 n2 c2] 30 (0,0)):=by rw [hb2.block _ (by omega),← hW1];exact heap_alloc_new w _
 have hr2:Rp3 W2 W1.heap.size 0 (.slice none 0 0) (.slice none 0 0):=by rw [← hW2];exact heap_alloc_new W1 _
 have HB2:=hid (below2_Efc hb1 hb2);have HR1:=hid hr1;have HR2:=hid hr2;have HS1:=hid hs1;have HKF:=hid (show ∀ Z,Below w.heap.size w Z∧Z.heap[w.heap.size]? = some (.cells #[.int .i64 st,.slice a1 n1 c1,.slice a2 n2 c2] 30 (0,0))→Z.cell? ⟨w.heap.size,0,none⟩=some (.int .i64 st)∧Z.cell? ⟨w.heap.size,1,none⟩=some (.slice a1 n1 c1)∧Z.cell? ⟨w.heap.size,2,none⟩=some (.slice a2 n2 c2) from fun Z hZ=>by
  have h1:=hZ.2;exact ⟨by rw [Lib.cell_of_heap h1];rfl,by rw [Lib.cell_of_heap h1];rfl,by rw [Lib.cell_of_heap h1];rfl⟩)
 have HQ0:=hid (show Below w.heap.size w W2.drew∧W2.drew.heap[w.heap.size]? = some (.cells #[.int .i64 st,.slice a1 n1 c1,.slice a2 n2 c2] 30 (0,0)) from ⟨(below2_Efc hb1 hb2).drew,hr1⟩);have HD:=hid (show Below W2.heap.size W2 W2.drew from (Below.refl _ _).drew);clear hb1 hb2 hr1 hr2 hs1
 go_enter Tryz.func57,Tryz.ntmps57
 go_upto_region 1 with fail
 refine wp_region_held_drew (S:=(fun wx=>Below w.heap.size w wx∧wx.heap[w.heap.size]? = some (.cells #[.int .i64 st,.slice a1 n1 c1,.slice a2 n2 c2] 30 (0,0)))) (by kernel_rfl) HQ0.out (fun hHeld=> ?_)
 refine wpAnyH_to (fuel':=10) (listed':= #[false,false,false,false,false,false,false,false,false,false]) rfl rfl ?_
 refine' wpAnyH_take (i:=0) (oi:=⟨some 3,_,_,_,_,_⟩) (v:=_) rfl (by kernel_rfl) (by kernel_rfl) (by kernel_rfl) (fun _ _ _ h=>h) (Or.inl ⟨by kernel_rfl,?hycp1⟩) (by assumption) ?restcp1
 case hycp1=>(intro wx hSw;(try dsimp only at hSw);obtain ⟨f1,f2,f3⟩:=HKF.out _ hSw;go_simp;first | done | with_reducible rfl)
 (try simp only [Act.put,List.setIfInBounds_toArray,List.set_cons_zero,List.set_cons_succ])
 refine' wpAnyH_take (i:=1) (oi:=⟨some 4,_,_,_,_,_⟩) (v:=_) rfl (by kernel_rfl) (by kernel_rfl) (by kernel_rfl) (fun _ _ _ h=>h) (Or.inl ⟨by kernel_rfl,?hycp2⟩) (by assumption) ?restcp2
 case hycp2=>(intro wx hSw;(try dsimp only at hSw);obtain ⟨f1,f2,f3⟩:=HKF.out _ hSw;go_simp;first | done | with_reducible rfl)
 (try simp only [Act.put,List.setIfInBounds_toArray,List.set_cons_zero,List.set_cons_succ])
 refine' wpAnyH_take (i:=2) (oi:=⟨some 5,_,_,_,_,_⟩) (v:=_) rfl (by kernel_rfl) (by kernel_rfl) (by kernel_rfl) (fun _ _ _ h=>h) (Or.inl ⟨by kernel_rfl,?hycp3⟩) (by assumption) ?restcp3
 case hycp3=>(intro wx hSw;(try dsimp only at hSw);obtain ⟨f1,f2,f3⟩:=HKF.out _ hSw;go_simp;first | done | with_reducible rfl)
 (try simp only [Act.put,List.setIfInBounds_toArray,List.set_cons_zero,List.set_cons_succ])
 refine' wpAnyH_take (i:=3) (oi:=⟨some 6,_,_,_,_,_⟩) (v:=_) rfl (by kernel_rfl) (by kernel_rfl) (by kernel_rfl) (fun _ _ _ h=>h) (Or.inl ⟨by kernel_rfl,?hycp4⟩) (by assumption) ?restcp4
 case hycp4=>(intro wx hSw;(try dsimp only at hSw);obtain ⟨f1,f2,f3⟩:=HKF.out _ hSw;go_simp;first | done | with_reducible rfl)
 (try simp only [Act.put,List.setIfInBounds_toArray,List.set_cons_zero,List.set_cons_succ])
 refine' wpAnyH_take (i:=5) (oi:=⟨some 8,_,_,_,_,_⟩) (v:=_) rfl (by kernel_rfl) (by kernel_rfl) (by kernel_rfl) (fun _ _ _ h=>h) (Or.inl ⟨by kernel_rfl,?hycp5⟩) (by assumption) ?restcp5
 case hycp5=>(intro wx hSw;(try dsimp only at hSw);obtain ⟨f1,f2,f3⟩:=HKF.out _ hSw;go_simp;first | done | with_reducible rfl)
 (try simp only [Act.put,List.setIfInBounds_toArray,List.set_cons_zero,List.set_cons_succ])
 refine' wpAnyH_take (i:=6) (oi:=⟨some 9,_,_,_,_,_⟩) (v:=_) rfl (by kernel_rfl) (by kernel_rfl) (by kernel_rfl) (fun _ _ _ h=>h) (Or.inl ⟨by kernel_rfl,?hycp6⟩) (by assumption) ?restcp6
 case hycp6=>(intro wx hSw;(try dsimp only at hSw);obtain ⟨f1,f2,f3⟩:=HKF.out _ hSw;go_simp;first | done | with_reducible rfl)
 (try simp only [Act.put,List.setIfInBounds_toArray,List.set_cons_zero,List.set_cons_succ])
 refine wpAnyH_ready (rs:=[4]) (by kernel_rfl) (by simp) ?_
 refine AllReadyH.cons rfl (fun K9 hK=> ?_) AllReadyH.nil;rw [if_pos (by kernel_rfl)]
 go_simp
 go_wp2_with (go_at_call 109;refine (HC1.out _ HQ0.out.1).mono ?_;rintro e w4 ⟨u4,rfl,ho4,hba⟩)
 have HO4:=hid ho4;have HD4:=hid (below2_Efc HD.out hba);have HQ4:=hid (show Below w.heap.size w w4∧w4.heap[w.heap.size]? = some (.cells #[.int .i64 st,.slice a1 n1 c1,.slice a2 n2 c2] 30 (0,0)) from ⟨below2_Efc HQ0.out.1 hba,(hba.block _ (Array.getElem?_eq_some_iff.1 HQ0.out.2).1).trans HQ0.out.2⟩);clear hba ho4;refine hK.out _ _ HQ4.out (fun hHeld2=> ?_);clear hK K9 hHeld
 rename _=>hHeld
 refine wpAnyH_ready (rs:=[7]) (by kernel_rfl) (by simp) ?_
 refine AllReadyH.cons rfl (fun K9 hK=> ?_) AllReadyH.nil;rw [if_pos (by kernel_rfl)]
 go_simp
 go_wp2_with (go_at_call 110;refine (HC2.out _ HQ4.out.1).mono ?_;rintro e w5 ⟨u5,rfl,ho5,hba⟩)
 have HO5:=hid ho5;have HO45:=hid (own_same HO4.out hba);have HD5:=hid (below2_Efc HD4.out hba);have HQ5:=hid (show Below w.heap.size w w5∧w5.heap[w.heap.size]? = some (.cells #[.int .i64 st,.slice a1 n1 c1,.slice a2 n2 c2] 30 (0,0)) from ⟨below2_Efc HQ4.out.1 hba,(hba.block _ (Array.getElem?_eq_some_iff.1 HQ4.out.2).1).trans HQ4.out.2⟩);clear hba ho5;refine hK.out _ _ HQ5.out (fun hHeld2=> ?_);clear hK K9 hHeld
 rename _=>hHeld
 obtain ⟨b4,c4,rfl⟩:=own_sl16 HO45.out
 obtain ⟨b5,c5,rfl⟩:=own_sl16 HO5.out
 refine' wpAnyH_take (i:=8) (oi:=⟨some 11,_,_,_,_,_⟩) (v:=_) rfl (by kernel_rfl) (by kernel_rfl) (by kernel_rfl) (fun _ _ _ h=>h) (Or.inl ⟨by kernel_rfl,?hycp7⟩) (by assumption) ?restcp7
 case hycp7=>(intro wx hSw;(try dsimp only at hSw);obtain ⟨f1,f2,f3⟩:=HKF.out _ hSw;go_simp;first | done | with_reducible rfl)
 (try simp only [Act.put,List.setIfInBounds_toArray,List.set_cons_zero,List.set_cons_succ])
 have HR5:=hid (show Rp3 w5 W1.heap.size 0 (.slice none 0 0) (.slice none 0 0) from (HD5.out.block _ (Array.getElem?_eq_some_iff.1 HR2.out).1).trans HR2.out);obtain ⟨y0,y1,y2,g0,g1,g2⟩:=HR5.out.cells
 refine wpAnyH_ready (rs:=[9]) (by kernel_rfl) (by simp) ?_
 refine AllReadyH.cons rfl (fun K9 hK=> ?_) AllReadyH.nil;rw [if_pos (by kernel_rfl)]
 go_simp
 have HQ6:=hid (show Below w.heap.size w (((w5.setCell ⟨W1.heap.size,0,none⟩ (.int .i64 st)).setCell ⟨W1.heap.size,1,none⟩ (.slice b4 n1 c4)).setCell ⟨W1.heap.size,2,none⟩ (.slice b5 n2 c5))∧(((w5.setCell ⟨W1.heap.size,0,none⟩ (.int .i64 st)).setCell ⟨W1.heap.size,1,none⟩ (.slice b4 n1 c4)).setCell ⟨W1.heap.size,2,none⟩ (.slice b5 n2 c5)).heap[w.heap.size]? = some (.cells #[.int .i64 st,.slice a1 n1 c1,.slice a2 n2 c2] 30 (0,0)) from
  ⟨((HQ5.out.1.setCell (p:=⟨W1.heap.size,0,none⟩) (by show w.heap.size≤W1.heap.size;have:=HS1.out;omega) _).setCell (p:=⟨W1.heap.size,1,none⟩) (by show w.heap.size≤W1.heap.size;have:=HS1.out;omega) _).setCell (p:=⟨W1.heap.size,2,none⟩) (by show w.heap.size≤W1.heap.size;have:=HS1.out;omega) _,by
    rw [heap_setCell_other _ _ _ _ (by show w.heap.size≠W1.heap.size;have:=HS1.out;omega),heap_setCell_other _ _ _ _ (by show w.heap.size≠W1.heap.size;have:=HS1.out;omega),heap_setCell_other _ _ _ _ (by show w.heap.size≠W1.heap.size;have:=HS1.out;omega)];exact HQ5.out.2⟩)
 refine hK.out _ _ HQ6.out (fun hHeld2=> ?_);clear hK K9 hHeld
 rename _=>hHeld
 refine wpAnyH_done (by kernel_rfl) ?_ _
 go_wp2
 have HE4:=hid (show (((w5.setCell ⟨W1.heap.size,0,none⟩ (.int .i64 st)).setCell ⟨W1.heap.size,1,none⟩ (.slice b4 n1 c4)).setCell ⟨W1.heap.size,2,none⟩ (.slice b5 n2 c5)).ownsRow w.heap.size 45 2 (.slice b4 n1 c4) n1 xs∧(((w5.setCell ⟨W1.heap.size,0,none⟩ (.int .i64 st)).setCell ⟨W1.heap.size,1,none⟩ (.slice b4 n1 c4)).setCell ⟨W1.heap.size,2,none⟩ (.slice b5 n2 c5)).ownsRow w.heap.size 5 1 (.slice b5 n2 c5) n2 ys from by
  have hw:W1.heap.size<W2.heap.size:=(Array.getElem?_eq_some_iff.1 HR2.out).1;have hd:=HD.out.size;have hd4:=HD4.out.size;refine ⟨ownsRow_same (own_low17 HO45.out HQ0.out.1.size) fun g hg=> ?_,ownsRow_same (own_low17 HO5.out HQ4.out.1.size) fun g hg=> ?_⟩
  ·have:=(HO45.out.lt g hg).1
   rw [heap_setCell_other _ _ _ _ (by show g≠W1.heap.size;omega),heap_setCell_other _ _ _ _ (by show g≠W1.heap.size;omega),heap_setCell_other _ _ _ _ (by show g≠W1.heap.size;omega)]
  ·have:=(HO5.out.lt g hg).1
   rw [heap_setCell_other _ _ _ _ (by show g≠W1.heap.size;omega),heap_setCell_other _ _ _ _ (by show g≠W1.heap.size;omega),heap_setCell_other _ _ _ _ (by show g≠W1.heap.size;omega)])
 exact bodyPost_ret (results_rp rfl _ _ W1.heap.size st _ _ rfl HR5.out.set.range) rfl ⟨_,_,rfl,HE4.out.1,HE4.out.2,HQ6.out.1⟩

theorem infoCho:(Tryz.prog.info? 145).map (fun i=>(i.zero,i.size,i.bytes))=some (some (.agg #[.string ByteArray.empty,.string ByteArray.empty,.bool false]),3,40):=by kernel_rfl

set_option maxHeartbeats 2000000 in
set_option maxRecDepth 100000 in
theorem choices_any (v vn:Value) (A:List Hd) (N:List (List UInt8)) (w:World) (h:HdAt w v A) (hz:Szo A) (ht:TxAt w vn N) (hn:N.length≤1000000) (hs: ∀ x ∈ N,x.length≤140737488351232):
 Calls Tryz.prog 56 #[v,vn] w fun e w'=> ∃ u,e = .returned u∧w'.ownsRow w.heap.size 145 3 u N.length (cellsC (N.map (choV A)))∧Below w.heap.size w w':=by
 obtain ⟨i0,hi,hz0,hz1,hz2⟩:=info3 infoCho
 have HC:=hid (fun (n:ByteArray) (hn:n.size≤140737488351232) (Y:World) (hY:Below w.heap.size w Y)=>choose_any v A n Y (h.kept hY) hz hn);obtain ⟨a1,c1,rfl,_,_,_⟩:=h.view
 have HT:=hid ht;have HS:=hid hs;obtain ⟨a2,c2,rfl,_,_,_⟩:=ht.view
 obtain ⟨n,hN⟩: ∃ n,n=N.length:=⟨_,rfl⟩
 have HN:=hid hN;rw [← hN] at hn ⊢;obtain ⟨w0,hm0,ho0,hg0⟩:=run_make_own (P:=Tryz.prog) w w.heap.size 90 145 i0 _ 3 Tryz.underlying90 hi hz0 hz1 .i64 .i64 n (by rw [hz2];omega) (by unfold maxLen;omega) (Nat.le_refl _)
 have HO0:=hid ho0;have HB0:=hid (show Below w.heap.size w w0 from (Below.refl _ w).grown hg0 (Nat.le_refl _) (fun k hk=>by cases hk));clear h hz ht hs hN ho0 hg0
 go_enter Tryz.func56,Tryz.ntmps56
 go_wp2_with fail
 go_loopw [5,7,13] (fun s5 _ s13 wr=> ∃ (k:Nat) (a:Option Addr) (c:Nat),s13 = .int .i64 k∧s5 = .slice a k c∧k≤n∧Hid (wr.ownsRow w.heap.size 145 3 (.slice a k c) k (cellsC ((N.map (choV A)).take k))∧Below w.heap.size w wr)) (fun _ _ s13 _=>n - (intOf s13).toNat)
 case atStart=>exact ⟨0,_,_,rfl,rfl,Nat.zero_le _,HO0.out,HB0.out⟩
 case round=>
  obtain ⟨k,a,c,rfl,rfl,hk,HR⟩:=hrel
  by_cases hlt:k<n
  ·have hin:(k:Int)<(n:Int):=by omega
   have hkN:k<N.length:=by have:=HN.out;omega
   obtain ⟨a',c',e1,_,_,hcell⟩:=HT.out
   injection e1 with e1 e2 e3
   clear e2 e3;subst e1;obtain ⟨b,off,rfl,hc0⟩:=hcell k hkN
   obtain ⟨X,hX⟩: ∃ X:ByteArray,(⟨N[k].toArray⟩:ByteArray)=X:=⟨_,rfl⟩
   have hXl:X.data.toList=N[k]:=by rw [← hX]
   rw [hX] at hc0;have d0:=(HR.out.2.cell (World.block_lt_of_cell? w _ hc0)).trans hc0;have hC:=HC.out X (by rw [Lib.size_eq,hXl];exact HS.out _ (List.getElem_mem hkN)) wr HR.out.2
   rw [hXl] at hC;obtain ⟨T,hT⟩: ∃ T:ByteArray,(⟨(getT A N[k]).toArray⟩:ByteArray)=T:=⟨_,rfl⟩
   obtain ⟨t,ht⟩: ∃ t,getB A N[k]=t:=⟨_,rfl⟩
   rw [hT,ht] at hC
   have HCl:=hid hC;have HTk:=hid (show cellsC ((N.map (choV A)).take (k+1))=cellsC ((N.map (choV A)).take k)++[.string X,.string T,.bool t] by
    rw [List.take_succ_eq_append_getElem (by rw [List.length_map];exact hkN),cellsC_app,List.getElem_map,← hX,← hT,← ht]
    rfl)
   clear hc0 hC hX hXl hT ht hcell hkN
   go_wp2_with fail
   refine HCl.out.mono ?_;rintro e w2 ⟨rfl,hb2⟩
   have HO2:=hid (own_same HR.out.1 hb2);have HB2:=hid (below2_Efc HR.out.2 hb2);have hs2:w.heap.size≤w2.heap.size:=HB2.out.size;clear hb2
   go_wp2_with (at_builtin;refine wpList_append_own _ rfl _ _ 90 rfl w.heap.size 145 i0 _ 3 40 Tryz.underlying90 hi hz0 hz1 hz2 rfl (by decide) _ k _ rfl (HO2.out.alloc _) ⟨w2.heap.size,0,none⟩ 1 1 [.string X,.string T,.bool t] rfl rfl ?c1 ?c2 (by unfold maxLen;omega) (by omega) (by simp;omega) ?_)
   case c1=>
    intro q u hq;rw [Addr.add_mid];exact range_row_Cb (cs:=[.string X,.string T,.bool t]) (heap_alloc_new w2 _) q u hq
   case c2=>intro u hu;simp at hu;rcases hu with rfl | rfl | rfl<;>rfl
   intro v3 w3 hown3 hgrow3 hnil3;obtain ⟨a3,c3,rfl⟩:=own_sl16 hown3
   rw [← HTk.out] at hown3;have HR3:=hid (show w3.ownsRow w.heap.size 145 3 (.slice a3 (k+1) c3) (k+1) (cellsC ((N.map (choV A)).take (k+1)))∧Below w.heap.size w w3 from ⟨hown3,(HB2.out.alloc hs2 _).grown hgrow3 (by simp;omega) (fun g hg=>(HO2.out.lt g hg).1)⟩);clear hown3 hgrow3 hnil3
   go_wp2_with fail
   go_roundw
   case rel=>
    first
     | exact ⟨k+1,a3,c3,by go_num,rfl,by omega,HR3.out⟩
     | ((repeat apply Exists.intro);exact ⟨⟨k+1,a3,c3,by go_num,rfl,by omega,HR3.out⟩,rfl⟩)
   case measure=>simp [intOf];omega
  ·obtain rfl:k=n:=by omega
   have hin:decide ((k:Int)<(k:Int))=false:=by simp
   have HE:=hid HR.out;rw [List.take_of_length_le (by rw [List.length_map];have:=HN.out;omega)] at HE;clear HR hlt
   go_wp2
   go_ret
   exact ⟨_,rfl,HE.out.1,HE.out.2⟩

set_option maxHeartbeats 2000000 in
theorem ofBody_any (n:ByteArray) (w:World) (hn:n.size≤140737488351232):
 Calls Tryz.prog 124 #[.string n] w fun e w'=>e = .returned (.bool (ofB n.data.toList))∧Below w.heap.size w w':=by
 have HL:=hid (lower_any n w (by omega));obtain ⟨N,hN⟩: ∃ N:ByteArray,(⟨(low n.data.toList).toArray⟩:ByteArray)=N:=⟨_,rfl⟩
 have hNl:N.data.toList=low n.data.toList:=by rw [← hN]
 rw [hN] at HL;have HV:=hid (show ofB n.data.toList=[tCl,tCe,tCt,tCr].contains N.data.toList by rw [hNl];rfl);clear hN hNl hn;by_cases h0:N.data.toList=tCl
 ·have HE:=hid (show ofB n.data.toList=true by rw [HV.out,h0];decide)
  have hNe:N=⟨#[99,111,110,116,101,110,116,45,108,101,110,103,116,104]⟩:=eq_lit16 h0
  clear h0 HV;subst hNe
  go_enter Tryz.func124,Tryz.ntmps124
  go_wp2_with fail
  refine HL.out.mono ?_;rintro e w1 ⟨rfl,hb1⟩
  go_wp2_with fail
  go_ret
  exact ⟨ret_bool HE.out.symm,hb1⟩
 ·have e0:(N.toList==[99,111,110,116,101,110,116,45,108,101,110,103,116,104])=false:=beq_no16 N _ h0
  by_cases h1:N.data.toList=tCe
  ·have HE:=hid (show ofB n.data.toList=true by rw [HV.out,h1];decide)
   have hNe:N=⟨#[99,111,110,116,101,110,116,45,101,110,99,111,100,105,110,103]⟩:=eq_lit16 h1
   clear h1 HV;subst hNe
   go_enter Tryz.func124,Tryz.ntmps124
   go_wp2_with fail
   refine HL.out.mono ?_;rintro e w1 ⟨rfl,hb1⟩
   go_wp2_with fail
   go_ret
   exact ⟨ret_bool HE.out.symm,hb1⟩
  ·have e1:(N.toList==[99,111,110,116,101,110,116,45,101,110,99,111,100,105,110,103])=false:=beq_no16 N _ h1
   by_cases h2:N.data.toList=tCt
   ·have HE:=hid (show ofB n.data.toList=true by rw [HV.out,h2];decide)
    have hNe:N=⟨#[99,111,110,116,101,110,116,45,116,121,112,101]⟩:=eq_lit16 h2
    clear h2 HV;subst hNe
    go_enter Tryz.func124,Tryz.ntmps124
    go_wp2_with fail
    refine HL.out.mono ?_;rintro e w1 ⟨rfl,hb1⟩
    go_wp2_with fail
    go_ret
    exact ⟨ret_bool HE.out.symm,hb1⟩
   ·have e2:(N.toList==[99,111,110,116,101,110,116,45,116,121,112,101])=false:=beq_no16 N _ h2
    by_cases h3:N.data.toList=tCr
    ·have HE:=hid (show ofB n.data.toList=true by rw [HV.out,h3];decide)
     have hNe:N=⟨#[99,111,110,116,101,110,116,45,114,97,110,103,101]⟩:=eq_lit16 h3
     clear h3 HV;subst hNe
     go_enter Tryz.func124,Tryz.ntmps124
     go_wp2_with fail
     refine HL.out.mono ?_;rintro e w1 ⟨rfl,hb1⟩
     go_wp2_with fail
     go_ret
     exact ⟨ret_bool HE.out.symm,hb1⟩
    ·have e3:(N.toList==[99,111,110,116,101,110,116,45,114,97,110,103,101])=false:=beq_no16 N _ h3
     have HE:=hid (show ofB n.data.toList=false by rw [HV.out];simp [h0,h1,h2,h3]);clear h0 h1 h2 h3 HV
     go_enter Tryz.func124,Tryz.ntmps124
     go_wp2_with fail
     refine HL.out.mono ?_;rintro e w1 ⟨rfl,hb1⟩
     go_wp2_with fail
     go_ret
     exact ⟨ret_bool HE.out.symm,hb1⟩

set_option maxHeartbeats 2000000 in
theorem setO17_any (v:Value) (L:List Hd) (n x:ByteArray) (w:World) (B:Nat) (ho:w.ownsRow B 45 2 v L.length (cellsH L)) (hB:B≤w.heap.size) (hk:Hk L) (hn:n.size≤140737488351232) (hx:x.size≤9223372036854775807):
 Calls Tryz.prog 65 #[v,.string n,.string x] w fun e w'=> ∃ u,e = .returned u∧w'.ownsRow B 45 2 u (setH L n.data.toList x.data.toList).length (cellsH (setH L n.data.toList x.data.toList))∧Below w.heap.size w w':=by
 have HS:=hid (set_any v L n x w (own_hd ho) hk.szd.2.1 hn hx hk.szd.1);have HO:=hid ho;obtain ⟨a,c,rfl⟩:=own_sl16 ho
 obtain ⟨k,hke⟩: ∃ k,setE L n.data.toList x.data.toList=k:=⟨_,rfl⟩
 unfold SetPost at HS;rw [hke] at HS;have HV:=hid (show setH L n.data.toList x.data.toList=if k=0 then setV L n.data.toList x.data.toList else L by unfold setH;rw [hke]);clear ho hk hn hx hke
 go_enter Tryz.func65,Tryz.ntmps65
 go_wp2_with fail
 refine HS.out.mono ?_;rintro e w1 ⟨hb1,hc⟩
 have HB1:=hid hb1;rcases hc with ⟨hk0,rfl⟩ | ⟨rfl,u,rfl,hu⟩
 ·have hb:((k:Int)==0)=false:=beq_eq_false_iff_ne.2 (by omega)
  have HE:=hid (show setH L n.data.toList x.data.toList=L by rw [HV.out,if_neg hk0]);clear hk0 hb1 HV HS
  go_wp2_with fail
  go_ret
  rw [HE.out];exact ⟨_,rfl,own_same HO.out HB1.out,HB1.out⟩
 ·have HE:=hid (show setH L n.data.toList x.data.toList=setV L n.data.toList x.data.toList by rw [HV.out,if_pos rfl])
  have HU:=hid hu;obtain ⟨a2,c2,rfl⟩:=own_sl16 hu
  clear hb1 HV HS hu
  go_wp2_with fail
  go_ret
  rw [HE.out];exact ⟨_,rfl,own_low17 HU.out hB,HB1.out⟩

set_option maxHeartbeats 2000000 in
set_option maxRecDepth 100000 in
theorem renewed_any (v vb:Value) (K B:List Hd) (w:World) (h:HdAt w v K) (hk:Hk K) (hb:HdAt w vb B) (hs:Szo B):
 Calls Tryz.prog 76 #[v,vb] w fun e w'=> ∃ u,e = .returned u∧w'.ownsRow w.heap.size 45 2 u (renV K B).length (cellsH (renV K B))∧Below w.heap.size w w':=by
 have HD:=hid (drop_any v K ⟨#[97,103,101]⟩ w h (by decide) hk.szd.1 hk.szd.2.1);rw [show (⟨#[97,103,101]⟩:ByteArray).data.toList=tAge from rfl] at HD;unfold HdPost2 at HD;have HBt:=hid hb;have HSz:=hid hs.1;have hBl:B.length≤1000000:=hs.2.1;obtain ⟨a1,c1,rfl,_,_,_⟩:=h.view
 obtain ⟨a2,c2,rfl,_,_,_⟩:=hb.view
 obtain ⟨n,hN⟩: ∃ n,n=B.length:=⟨_,rfl⟩
 have HN:=hid hN;have HK:=hid hk;rw [← hN] at hBl ⊢;clear h hk hb hs hN
 go_enter Tryz.func76,Tryz.ntmps76
 go_wp2_with fail
 refine HD.out.mono ?_;rintro e w1 ⟨v1,rfl,ho1,hb1,_⟩
 obtain ⟨a3,c3,rfl⟩:=own_sl16 ho1
 obtain ⟨m,hm⟩: ∃ m,m=(dropV K tAge).length:=⟨_,rfl⟩
 rw [← hm] at ho1 ⊢;have HJ:=hid (show ∃ L,L=(B.take 0).foldl renS (dropV K tAge)∧L.length=m∧Hk L∧w1.ownsRow w.heap.size 45 2 (.slice a3 m c3) m (cellsH L)∧Below w.heap.size w w1 from ⟨_,rfl,hm.symm,HK.out.drop _,ho1,hb1⟩);clear ho1 hb1 hm HD
 go_wp2_with fail
 go_loopw [5,7,12] (fun s5 _ s12 wr=> ∃ (k m:Nat) (a:Option Addr) (c:Nat),s12 = .int .i64 k∧s5 = .slice a m c∧k≤n∧Hid (∃ L,L=(B.take k).foldl renS (dropV K tAge)∧L.length=m∧Hk L∧wr.ownsRow w.heap.size 45 2 (.slice a m c) m (cellsH L)∧Below w.heap.size w wr)) (fun _ _ s12 _=>n - (intOf s12).toNat)
 case atStart=>exact ⟨0,m,a3,c3,rfl,rfl,Nat.zero_le _,HJ.out⟩
 case round=>
  clear HJ;obtain ⟨k,m,a,c,rfl,rfl,hk,HR⟩:=hrel
  by_cases hlt:k<n
  ·have hin:(k:Int)<(n:Int):=by omega
   have hkB:k<B.length:=by have:=HN.out;omega
   obtain ⟨L,hL,hLm,hLk,hLo,hLb⟩:=HR.out
   obtain ⟨a',c',e1,_,_,hcell⟩:=HBt.out
   injection e1 with e1 e2 e3
   clear e2 e3;subst e1;obtain ⟨b,off,rfl,hc0,hc1⟩:=hcell k hkB
   obtain ⟨X,hX⟩: ∃ X:ByteArray,(⟨B[k].name.toArray⟩:ByteArray)=X:=⟨_,rfl⟩
   obtain ⟨Y,hY⟩: ∃ X:ByteArray,(⟨B[k].value.toArray⟩:ByteArray)=X:=⟨_,rfl⟩
   have hXl:X.data.toList=B[k].name:=by rw [← hX]
   have hYl:Y.data.toList=B[k].value:=by rw [← hY]
   have hz:=HSz.out B[k] (List.getElem_mem hkB);have hXs:X.size≤140737488351232:=by rw [Lib.size_eq,hXl];exact hz.1
   have hYs:Y.size≤9223372036854775807:=by rw [Lib.size_eq,hYl];have:=hz.2;omega
   rw [hX] at hc0;rw [hY] at hc1;have d0:=(hLb.cell (World.block_lt_of_cell? w _ hc0)).trans hc0;have d1:=(hLb.cell (World.block_lt_of_cell? w _ hc1)).trans hc1;have HTk:=hid (show (B.take (k+1)).foldl renS (dropV K tAge)=if ofB X.data.toList then L else setH L X.data.toList Y.data.toList by
    rw [renV_take K B k hkB,← hL,hXl,hYl]
    rfl)
   have HOb:=hid (fun (Z:World)=>ofBody_any X Z hXs);have HST:=hid (fun (Z:World) (hZ:Below wr.heap.size wr Z)=>setO17_any _ L X Y Z w.heap.size (by rw [hLm];exact own_same hLo hZ) (Nat.le_trans hLb.size hZ.size) hLk hXs hYs);have HLo:=hid hLo;have HLb:=hid hLb;have HLk:=hid hLk;have HLm:=hid hLm;obtain ⟨q,hq⟩: ∃ q,ofB X.data.toList=q:=⟨_,rfl⟩
   rw [hq] at HTk HOb;have HBA:=hid ((Below.refl wr.heap.size wr).alloc (Nat.le_refl _) (.cells #[.string X,.string Y] 45));clear hL hLm hLk hLo hLb hcell hc0 hc1 hX hY hXl hYl hz hXs hYs hkB hq HR
   cases q with
   | true=>
     go_wp2_with fail
     refine (HOb.out _).mono ?_;rintro e w2 ⟨rfl,hb2⟩
     have HR2:=hid (show ∃ L,L=(B.take (k+1)).foldl renS (dropV K tAge)∧L.length=m∧Hk L∧w2.ownsRow w.heap.size 45 2 (.slice a m c) m (cellsH L)∧Below w.heap.size w w2 from ⟨L,HTk.out.symm,HLm.out,HLk.out,own_same HLo.out (below2_Efc HBA.out hb2),below2_Efc HLb.out (below2_Efc HBA.out hb2)⟩);clear hb2
     go_wp2_with fail
     go_roundw
     case rel=>
      first
       | exact ⟨k+1,m,a,c,by go_num,rfl,by omega,HR2.out⟩
       | ((repeat apply Exists.intro);exact ⟨⟨k+1,m,a,c,by go_num,rfl,by omega,HR2.out⟩,rfl⟩)
     case measure=>simp [intOf];omega
   | false=>
     go_wp2_with fail
     refine (HOb.out _).mono ?_;rintro e w2 ⟨rfl,hb2⟩
     have HB2:=hid (below2_Efc HBA.out hb2);have hr2:w2.heap[wr.heap.size]? = some (.cells #[.string X,.string Y] 45 (0,0)):=(hb2.block _ (by simp)).trans (heap_alloc_new wr _);have g0:w2.cell? ⟨wr.heap.size,0,none⟩=some (.string X):=by rw [Lib.cell_of_heap hr2];rfl
     have g1:w2.cell? ⟨wr.heap.size,1,none⟩=some (.string Y):=by rw [Lib.cell_of_heap hr2];rfl
     clear hb2 hr2
     go_wp2_with fail
     refine (HST.out _ HB2.out).mono ?_;rintro e w3 ⟨u3,rfl,ho3,hb3⟩
     obtain ⟨a5,c5,rfl⟩:=own_sl16 ho3
     obtain ⟨m3,hm3⟩: ∃ x,x=(setH L X.data.toList Y.data.toList).length:=⟨_,rfl⟩
     rw [← hm3] at ho3 ⊢;have HR3:=hid (show ∃ L,L=(B.take (k+1)).foldl renS (dropV K tAge)∧L.length=m3∧Hk L∧w3.ownsRow w.heap.size 45 2 (.slice a5 m3 c5) m3 (cellsH L)∧Below w.heap.size w w3 from ⟨_,HTk.out.symm,hm3.symm,HLk.out.set _ _,ho3,below2_Efc HLb.out (below2_Efc HB2.out hb3)⟩);clear hb3 ho3 hm3
     go_wp2_with fail
     go_roundw
     case rel=>
      first
       | exact ⟨k+1,m3,a5,c5,by go_num,rfl,by omega,HR3.out⟩
       | ((repeat apply Exists.intro);exact ⟨⟨k+1,m3,a5,c5,by go_num,rfl,by omega,HR3.out⟩,rfl⟩)
     case measure=>simp [intOf];omega
  ·obtain rfl:k=n:=by omega
   have hin:decide ((k:Int)<(k:Int))=false:=by simp
   have HE:=hid HR.out;rw [List.take_of_length_le (by have:=HN.out;omega)] at HE;clear HR hlt
   go_wp2
   go_ret
   obtain ⟨L,hL,hLm,_,hLo,hLb⟩:=HE.out
   refine ⟨_,rfl,?_,hLb⟩
   rw [show renV K B=L from hL.symm,hLm];exact hLo

theorem getB_at (v:Value) (L:List Hd) (n:ByteArray) (w:World) (h:HdAt w v L) (hz:Szo L) (hn:n.size≤140737488351232):
 Calls Tryz.prog 91 #[v,.string n] w fun e w'=>e = .returned (.tuple #[.string ⟨(getT L n.data.toList).toArray⟩,.bool (getB L n.data.toList)])∧Below w.heap.size w w':=
 get_any v L n w h hn hz.1 hz.2.1 (by have:=hz.2.2;omega)

set_option maxHeartbeats 2000000 in
set_option maxRecDepth 100000 in
theorem conditions_any (v:Value) (L:List Hd) (w:World) (h:HdAt w v L) (hz:Szo L):
 Calls Tryz.prog 68 #[v] w fun e w'=> ∃ u,e = .returned u∧w'.ownsRow w.heap.size 45 2 u (condV L).length (cellsH (condV L))∧Below w.heap.size w w':=by
 obtain ⟨i0,hi,hz0,hz1,hz2⟩:=info3 infoHd
 have H1:=hid (fun (Y:World) (hY:Below w.heap.size w Y)=>getB_at v L ⟨#[101,116,97,103]⟩ Y (h.kept hY) hz (by decide));have H2:=hid (fun (Y:World) (hY:Below w.heap.size w Y)=>getB_at v L ⟨#[108,97,115,116,45,109,111,100,105,102,105,101,100]⟩ Y (h.kept hY) hz (by decide));obtain ⟨a1,c1,rfl,_,_,_⟩:=h.view
 rw [show (⟨#[101,116,97,103]⟩:ByteArray).data.toList=tEt from rfl] at H1;rw [show (⟨#[108,97,115,116,45,109,111,100,105,102,105,101,100]⟩:ByteArray).data.toList=tLm from rfl] at H2;obtain ⟨E,hE⟩: ∃ T:ByteArray,(⟨(getT L tEt).toArray⟩:ByteArray)=T:=⟨_,rfl⟩
 obtain ⟨M,hM⟩: ∃ T:ByteArray,(⟨(getT L tLm).toArray⟩:ByteArray)=T:=⟨_,rfl⟩
 obtain ⟨p,hp⟩: ∃ t,getB L tEt=t:=⟨_,rfl⟩
 obtain ⟨q,hq⟩: ∃ t,getB L tLm=t:=⟨_,rfl⟩
 rw [hE,hp] at H1
 rw [hM,hq] at H2
 have HV:=hid (show (condV L).length=(if p then 1 else 0)+(if q then 1 else 0)∧cellsH (condV L)=(if p then [.string ⟨#[105,102,45,110,111,110,101,45,109,97,116,99,104]⟩,.string E] else [])++(if q then [.string ⟨#[105,102,45,109,111,100,105,102,105,101,100,45,115,105,110,99,101]⟩,.string M] else []) by
  unfold condV;rw [hp,hq,cellsH_app,← hE,← hM]
  cases p<;>cases q<;>exact ⟨rfl,rfl⟩)
 have HB0:=hid (Below.refl w.heap.size w);clear h hz hE hM hp hq
 cases p with
 | true=>
   cases q with
   | true=>
     go_enter Tryz.func68,Tryz.ntmps68
     go_wp2_with fail
     refine (H1.out _ HB0.out).mono ?_;rintro e w1 ⟨rfl,hb1⟩
     have HB1:=hid (below2_Efc HB0.out hb1);clear hb1
     go_wp2_with (at_builtin;refine wpList_append_own _ rfl _ _ 27 rfl w.heap.size 45 i0 _ 2 32 Tryz.underlying27 hi hz0 hz1 hz2 rfl (by decide) _ 0 _ rfl (World.ownsRow_nil _ _ _ _) ⟨w1.heap.size,0,none⟩ 1 1 [.string ⟨#[105,102,45,110,111,110,101,45,109,97,116,99,104]⟩,.string E] rfl rfl ?c13 ?c23 (by decide) (by decide) (by have:=HB1.out.size;simp;omega) ?_)
     case c13=>
      intro q u hq;rw [Addr.add_mid];exact range_row_Cb (cs:=[.string ⟨#[105,102,45,110,111,110,101,45,109,97,116,99,104]⟩,.string E]) (heap_alloc_new w1 _) q u hq
     case c23=>intro u hu;simp at hu;rcases hu with rfl | rfl<;>rfl
     intro v3 w3 hown3 hgrow3 hnil3;obtain ⟨a3,c3,rfl⟩:=own_sl16 hown3
     have HO3:=hid hown3;have HB3:=hid (show Below w.heap.size w w3 from (HB1.out.alloc HB1.out.size _).grown hgrow3 (by have:=HB1.out.size;simp;omega) (fun g hg=>by cases hg));clear hown3 hgrow3 hnil3
     go_wp2_with fail
     refine (H2.out _ HB3.out).mono ?_;rintro e w5 ⟨rfl,hb5⟩
     have HB5:=hid (below2_Efc HB3.out hb5);have HO5:=hid (own_same HO3.out hb5);clear hb5
     go_wp2_with (at_builtin;refine wpList_append_own _ rfl _ _ 27 rfl w.heap.size 45 i0 _ 2 32 Tryz.underlying27 hi hz0 hz1 hz2 rfl (by decide) _ 1 _ rfl (HO5.out.alloc _) ⟨w5.heap.size,0,none⟩ 1 1 [.string ⟨#[105,102,45,109,111,100,105,102,105,101,100,45,115,105,110,99,101]⟩,.string M] rfl rfl ?c17 ?c27 (by decide) (by decide) (by have:=HB5.out.size;simp;omega) ?_)
     case c17=>
      intro q u hq;rw [Addr.add_mid];exact range_row_Cb (cs:=[.string ⟨#[105,102,45,109,111,100,105,102,105,101,100,45,115,105,110,99,101]⟩,.string M]) (heap_alloc_new w5 _) q u hq
     case c27=>intro u hu;simp at hu;rcases hu with rfl | rfl<;>rfl
     intro v7 w7 hown7 hgrow7 hnil7;obtain ⟨a7,c7,rfl⟩:=own_sl16 hown7
     have HO7:=hid hown7;have HB7:=hid (show Below w.heap.size w w7 from (HB5.out.alloc HB5.out.size _).grown hgrow7 (by have:=HB5.out.size;simp;omega) (fun g hg=>(HO5.out.lt g hg).1));clear hown7 hgrow7 hnil7
     go_wp2_with fail
     go_ret
     refine ⟨_,rfl,?_,HB7.out⟩
     rw [HV.out.1,HV.out.2]
     exact HO7.out
   | false=>
     go_enter Tryz.func68,Tryz.ntmps68
     go_wp2_with fail
     refine (H1.out _ HB0.out).mono ?_;rintro e w1 ⟨rfl,hb1⟩
     have HB1:=hid (below2_Efc HB0.out hb1);clear hb1
     go_wp2_with (at_builtin;refine wpList_append_own _ rfl _ _ 27 rfl w.heap.size 45 i0 _ 2 32 Tryz.underlying27 hi hz0 hz1 hz2 rfl (by decide) _ 0 _ rfl (World.ownsRow_nil _ _ _ _) ⟨w1.heap.size,0,none⟩ 1 1 [.string ⟨#[105,102,45,110,111,110,101,45,109,97,116,99,104]⟩,.string E] rfl rfl ?c13 ?c23 (by decide) (by decide) (by have:=HB1.out.size;simp;omega) ?_)
     case c13=>
      intro q u hq;rw [Addr.add_mid];exact range_row_Cb (cs:=[.string ⟨#[105,102,45,110,111,110,101,45,109,97,116,99,104]⟩,.string E]) (heap_alloc_new w1 _) q u hq
     case c23=>intro u hu;simp at hu;rcases hu with rfl | rfl<;>rfl
     intro v3 w3 hown3 hgrow3 hnil3;obtain ⟨a3,c3,rfl⟩:=own_sl16 hown3
     have HO3:=hid hown3;have HB3:=hid (show Below w.heap.size w w3 from (HB1.out.alloc HB1.out.size _).grown hgrow3 (by have:=HB1.out.size;simp;omega) (fun g hg=>by cases hg));clear hown3 hgrow3 hnil3
     go_wp2_with fail
     refine (H2.out _ HB3.out).mono ?_;rintro e w5 ⟨rfl,hb5⟩
     have HB5:=hid (below2_Efc HB3.out hb5);have HO5:=hid (own_same HO3.out hb5);clear hb5
     go_wp2_with fail
     go_ret
     refine ⟨_,rfl,?_,HB5.out⟩
     rw [HV.out.1,HV.out.2]
     exact HO5.out
 | false=>
   cases q with
   | true=>
     go_enter Tryz.func68,Tryz.ntmps68
     go_wp2_with fail
     refine (H1.out _ HB0.out).mono ?_;rintro e w1 ⟨rfl,hb1⟩
     have HB1:=hid (below2_Efc HB0.out hb1);clear hb1
     go_wp2_with fail
     refine (H2.out _ HB1.out).mono ?_;rintro e w5 ⟨rfl,hb5⟩
     have HB5:=hid (below2_Efc HB1.out hb5);clear hb5
     go_wp2_with (at_builtin;refine wpList_append_own _ rfl _ _ 27 rfl w.heap.size 45 i0 _ 2 32 Tryz.underlying27 hi hz0 hz1 hz2 rfl (by decide) _ 0 _ rfl (World.ownsRow_nil _ _ _ _) ⟨w5.heap.size,0,none⟩ 1 1 [.string ⟨#[105,102,45,109,111,100,105,102,105,101,100,45,115,105,110,99,101]⟩,.string M] rfl rfl ?c17 ?c27 (by decide) (by decide) (by have:=HB5.out.size;simp;omega) ?_)
     case c17=>
      intro q u hq;rw [Addr.add_mid];exact range_row_Cb (cs:=[.string ⟨#[105,102,45,109,111,100,105,102,105,101,100,45,115,105,110,99,101]⟩,.string M]) (heap_alloc_new w5 _) q u hq
     case c27=>intro u hu;simp at hu;rcases hu with rfl | rfl<;>rfl
     intro v7 w7 hown7 hgrow7 hnil7;obtain ⟨a7,c7,rfl⟩:=own_sl16 hown7
     have HO7:=hid hown7;have HB7:=hid (show Below w.heap.size w w7 from (HB5.out.alloc HB5.out.size _).grown hgrow7 (by have:=HB5.out.size;simp;omega) (fun g hg=>by cases hg));clear hown7 hgrow7 hnil7
     go_wp2_with fail
     go_ret
     refine ⟨_,rfl,?_,HB7.out⟩
     rw [HV.out.1,HV.out.2]
     exact HO7.out
   | false=>
     go_enter Tryz.func68,Tryz.ntmps68
     go_wp2_with fail
     refine (H1.out _ HB0.out).mono ?_;rintro e w1 ⟨rfl,hb1⟩
     have HB1:=hid (below2_Efc HB0.out hb1);clear hb1
     go_wp2_with fail
     refine (H2.out _ HB1.out).mono ?_;rintro e w5 ⟨rfl,hb5⟩
     have HB5:=hid (below2_Efc HB1.out hb5);clear hb5
     go_wp2_with fail
     go_ret
     refine ⟨_,rfl,?_,HB5.out⟩
     rw [HV.out.1,HV.out.2]
     exact World.ownsRow_nil _ _ _ _

end Go.Proofs.YtpopljcmkbchcaaGreatDoor
