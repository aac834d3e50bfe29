/-
  Walks and plain facts that this claim leans on, put together out of 1 texts: Ehj.
-/
import Derived.Test.YtpopljcmkbchcaaGreatDoorProg
import Derived.Test.YtpopljcmkbchcaaGreatDoorQt1
import Derived.Test.YtpopljcmkbchcaaGreatDoorQt2
import Derived.Test.YtpopljcmkbchcaaGreatDoorQt3
import Derived.Test.YtpopljcmkbchcaaGreatDoorQt4
import Derived.Test.YtpopljcmkbchcaaGreatDoorQt5
import Derived.Test.YtpopljcmkbchcaaGreatDoorQt6
import Derived.Test.YtpopljcmkbchcaaGreatDoorQt7
import Derived.Test.YtpopljcmkbchcaaGreatDoorQt8
import Derived.Test.YtpopljcmkbchcaaGreatDoorQt9
import Derived.Test.YtpopljcmkbchcaaGreatDoorQt10
import Derived.BigRegion
import Derived.Deep.RegionHeld
import Derived.Deep.RegionHeldLaw
import Derived.Lib.IndexAny
import Derived.WalkKit
import Derived.Lib.UnsafeStr
import Derived.Lib.BufferRead
import Derived.Lib.RuneBytes
import Derived.Laws.RangeAny
import Derived.Deep.LoopGhost
import Derived.Maps.OwnSet
import Derived.Maps.OwnOps
import Derived.Maps.AppendAt
import Derived.StringKeys
import Derived.BigQuiet
import Derived.Deep.QuietTactic
import Derived.LoopN
import Derived.RegionTactic
import Derived.Deep.RegionLaw
import Derived.Deep.RegionWith
import Derived.WalkSpells
import Derived.WalkLawsBesides
import Derived.Lib.FieldsP
import Derived.Lib.DecodeN
import Derived.Lib.IndexMore
import Derived.Lib.Join
import Derived.Lib.SmallJoins
import Derived.Laws.CopyOwn
import Derived.Laws.ResultCell
import Derived.Deep.MidRow
import Derived.Laws.OwnMore
import Derived.Below
import Derived.WalkSmall
import Derived.Lib.LaidTab
import Derived.Lib.AppendIntMem
import Derived.Laws.AppendOwn
import Derived.Laws.Runes
import Derived.Lib.OthersKept
import Derived.Lib.FrozenHead2
import Derived.Lib.Builder
import Derived.Lib.AppendStr
import Derived.Lib.Replace
import Derived.Shelf.GgClosure.GivesRunes
import Derived.Laws.BitsAll
import Derived.Laws.Shifts
import Derived.Deep.DeepAppendRoom
import Derived.Laws.IdiomStrings
import Derived.Laws.BytesString
import Derived.Laws.CopyRow
import Derived.Sort.OwnSorted
import Derived.Lib.SlicesCompact
import Derived.Shelf.Slices.In.SortNone
import Derived.Shelf.Slices.CompactS
import Derived.Lib.SliceRun
import Derived.Lib.Strings
import Derived.Laws.BitsAllLaws
import Derived.Lib.Bytealg
import Derived.Lib.BufferMore
import Derived.Shelf.Strings.Builder1
import Derived.Shelf.Strings.Builder2
import Derived.Shelf.Strings.OnBuilder
import Derived.Shelf.Strings.Trim
import Derived.Shelf.Small.Utf8
import Derived.Shelf.Small.Bits
import Derived.Shelf.Small.Strs
import Derived.Shelf.Small.Wraps
import Derived.Shelf.Strings.BuilderF
import Derived.Shelf.Strings.BuilderK
import Derived.Shelf.Strings.BuilderRune
import Derived.Shelf.Utf8.AppendRune
import Derived.Shelf.Utf8.AppendRunePlain
import Derived.Shelf.Strings.Builder2Cap
import Derived.Shelf.Strconv.Itoa0
import Derived.Shelf.Strconv.Itoa1
import Derived.Shelf.LaysM
import Derived.Shelf.Strconv.Itoa2
import Derived.Shelf.Strconv.Itoa3
import Derived.Shelf.Strings.Search1
import Derived.Shelf.Strings.Search2
import Derived.Shelf.Strings.Cut
import Derived.Shelf.Strings.Shaped
import Derived.Shelf.Sort.Plain
import Derived.Shelf.Strings.Prefix
import Derived.Shelf.Unicode.Latin
import Derived.Shelf.Strings.Runes
import Derived.Shelf.Strings.IndexAny
import Derived.Shelf.Strings.AsciiSet
import Derived.Shelf.Strings.IndexAnyAll
import Derived.Shelf.Unicode.DecodeSlow
import Derived.Shelf.Unicode.DecodeAny
import Derived.Shelf.Unicode.DecodeLast
import Derived.Shelf.Unicode.CaseLookup
import Derived.Shelf.Unicode.CaseConvert
import Derived.Shelf.Unicode.CaseTo
import Derived.Shelf.Unicode.CaseLaid
import Derived.Lib.SlTrimSet
import Derived.Shelf.Strings.SlTrimAscii
import Derived.Deep.CutRange
import Derived.Laws.Rows
import Derived.Laws.MakeOwn
import Derived.Deep.WholeRow
import Derived.Laws.AppendOwnNone
set_option linter.unusedSimpArgs false
set_option linter.unusedVariables false

namespace Go.Proofs.YtpopljcmkbchcaaGreatDoor
open Go.RowKit

variable {G : Nat → Prop}

def RowG (r:RowC):Prop:=Hk r.rp.hd∧r.ch.length≤1000000∧(∀ c ∈ r.ch,c.name.length≤140737488351232)∧r.rp.bd.length≤1000000∧(0≤r.sto∧r.sto≤4611686018427387904)

def CaG (C:CaS):Prop:=C.rows.length≤1000∧(0≤C.tn∧C.tn≤1000000) ∧ ∀ r ∈ C.rows,RowG r

theorem results_z2 {fn:Func} {p q:Tmp} (h:fn.results = #[.cell p 92,.tmp q]) (tmps:Array Value) (w:World) (b:Nat) (cs:List Value) (hl:cs.length=7) (hp:tmps.getD p undef = .pointer (some ⟨b,0,none⟩)) (hc:w.rangeAt b 0 cs):(results fn tmps).run Tryz.prog w = .ok (.tuple #[.agg cs.toArray,tmps.getD q undef]) w:=by
 rw [Array.getD_eq_getD_getElem?] at hp;simp only [results,h]
 simp [Sem.run_bind,Result.andThen,hp,asAddr,run_loadVar_mid w b 0 92 cs _ hc Tryz.underlying92 rfl (by rw [hl];exact sizeRw)]

theorem field_ct0 (a b:Bool) (m:Int) (w:World):(Instr.field 87 (.agg #[.bool a,.bool b,.int .i64 m]) 0).run Tryz.prog w = .ok (.bool a) w:=by kernel_rfl

theorem field_ct1 (a b:Bool) (m:Int) (w:World):(Instr.field 87 (.agg #[.bool a,.bool b,.int .i64 m]) 1).run Tryz.prog w = .ok (.bool b) w:=by kernel_rfl

def AtIs (o:Option Nat) (x:Int):Prop:=(o=none∧x = -1) ∨ ∃ a:Nat,o=some a∧x=(a:Int)

def TakeP (G:Nat→Prop) (p:Nat) (C:CaS) (u:List UInt8) (A:List Hd) (w:World) (e:Ending) (w':World):Prop:=
 (takeV C u A=none∧e = .returned (.tuple #[.agg #[.string ⟨#[]⟩,.slice none 0 0,.int .i64 0,.slice none 0 0,.slice none 0 0,.int .i64 0,.int .i64 0],.bool false])∧Below w.heap.size w w') ∨
 ∃ z R,takeV C u A=some (z.r,R)∧e = .returned (.tuple #[zVal z,.bool true])∧DenZ G w' (p+1) w'.heap.size z∧CaI G w' p w'.heap.size ⟨R,C.tn⟩∧TqC p w w'

theorem below_setC17 {B b:Nat} (hb:B≤b) {w0:World}: ∀ (vs:List Value) (o:Nat) (w:World),Below B w0 w→Below B w0 (w.setCells b o vs)
 | [],_,_,h=>h
 | v::vs,o,w,h=>below_setC17 hb vs (o+1) _ (h.setCell (p:=⟨b,o,none⟩) hb v)

theorem eraseIdx_map17 (Z:List Zr) (i:Nat):(Z.eraseIdx i).map (·.r)=(Z.map (·.r)).eraseIdx i:=by
 rw [List.eraseIdx_eq_take_drop_succ,List.eraseIdx_eq_take_drop_succ,List.map_append,List.map_take,List.map_drop]

theorem mem_erase17 {Z:List Zr} {i:Nat} {x:Zr} (h:x ∈ Z.eraseIdx i):x ∈ Z:=List.mem_of_mem_eraseIdx h

theorem del17 {w W w5 W':World} {p M g c a n q0:Nat} {C:CaS} {Z:List Zr} (hI:CaI G w p M C) (hb:Below w.heap.size w W) (hZ:Z.map (·.r)=C.rows) (hn:n=C.rows.length) (ha:a<n)
 (hden: ∀ z ∈ Z,DenZ G w (p+1) M z) (hrow:W.heap[p]? = some (.cells #[.slice (some ⟨g,0,none⟩) n c,.int .i64 C.tn] 81 (0,0))) (hownW:W.ownsRow (p+1) 92 7 (.slice (some ⟨g,0,none⟩) n c) n (cellsZ Z))
 (hown:w5.ownsRow (p+1) 92 7 (.slice (some ⟨g,0,none⟩) (n - 1) c) (n - 1) (cellsZ (Z.eraseIdx a))) (hgr:W.grownBy w5 (some g))
 (cs:List Value) (hq0:w.heap.size≤q0) (hq1: ∃ cur fz,W.heap[q0]? = some (Obj.cells cur 92 fz)) (hgq:g<w.heap.size)
 (hW':W'=(w5.setCell ⟨p,0,none⟩ (.slice (some ⟨g,0,none⟩) (n - 1) c)).setCells q0 0 cs):
 CaI G W' p W'.heap.size ⟨C.rows.eraseIdx a,C.tn⟩∧TqC p w W' ∧ ∀ z ∈ Z,DenZ G W' (p+1) W'.heap.size z:=by
 obtain ⟨⟨h1,h2,h3,h5⟩,_⟩:=hI
 have hp:p<w.heap.size:=by omega
 have hgp:p+1≤g:=(hownW.lt g rfl).1;obtain ⟨cg,hcg⟩:=ownsRow_kind hownW g rfl
 have t1:TqC p w W:=Tq.below hb (by omega)
 have t2:TqC p W w5:=Tq.grown hgr (fun k hk=>by injection hk with hk;subst hk;exact ⟨by omega,cg,_,hcg⟩) (by have:=hb.size;omega)
 have hr5:w5.heap[p]? = some (.cells #[.slice (some ⟨g,0,none⟩) n c,.int .i64 C.tn] 81 (0,0)):=by
  rw [hgr.block p (by have:=hb.size;omega) (fun e=>by injection e with e;omega)];exact hrow
 have t3:TqC p w5 (w5.setCell ⟨p,0,none⟩ (.slice (some ⟨g,0,none⟩) (n - 1) c)):=Tq.set hr5 (.inr rfl) (Nat.le_refl _) 0 _;obtain ⟨W6,hW6⟩: ∃ X,X=w5.setCell ⟨p,0,none⟩ (.slice (some ⟨g,0,none⟩) (n - 1) c):=⟨_,rfl⟩
 rw [← hW6] at t3 hW';have hq6: ∃ cur fz,W6.heap[q0]? = some (Obj.cells cur 92 fz):=by
  obtain ⟨cur,fz,hq⟩:=hq1
  have hl:=(Array.getElem?_eq_some_iff.1 hq).1;rw [hW6,heap_setCell_other _ _ _ _ (by show q0≠p;omega),hgr.block q0 hl (fun e=>by injection e with e;omega)]
  exact ⟨cur,fz,hq⟩
 have t4:TqC p W6 W':=by
  rw [hW'];obtain ⟨cur,fz,hq⟩:=hq6
  exact Tq.grown (grown_cells17 q0 cs 0 W6) (fun k hk=>by injection hk with hk;subst hk;exact ⟨by omega,cur,fz,hq⟩) (by
   have e1:=t3.1.size;have e2:=hgr.size;have e3:=hb.size
   omega)
 have hT:=((t1.trans t2).trans t3).trans t4;have hD: ∀ z ∈ Z,DenZ G W' (p+1) W'.heap.size z:=fun z hz=>((hden z hz).tq hT).mono (by have:=hT.1.size;omega)
 refine ⟨CaI.mk17 h3 (h5.low17 h3 hT.1) (some ⟨g,0,none⟩) (n - 1) c (Z.eraseIdx a) ?_ ?_ ?_ (by rw [eraseIdx_map17,hZ]) (fun z hz=>hD z (mem_erase17 hz)),hT,hD⟩
 ·rw [List.length_eraseIdx,← hn,if_pos ha]
 ·rw [hW',far_cells17 (by omega),hW6]
  exact Lib.heap_setCell_same hr5 (i:=0) _
 ·refine ownsRow_same hown fun k hk=> ?_
  injection hk with hk
  subst hk;rw [hW',far_cells17 (by show g≠q0;omega),hW6]
  exact heap_setCell_other _ _ _ _ (by show g≠p;omega)

set_option maxHeartbeats 4000000 in
set_option maxRecDepth 100000 in
theorem take17_any (p M:Nat) (C:CaS) (vA:Value) (A:List Hd) (u:ByteArray) (w:World) (hI:CaI G w p M C) (hG:CaG C) (hA:HdAt w vA A) (hz:Szo A):
 Calls Tryz.prog 63 #[.pointer (some ⟨p,0,none⟩),.string u,vA] w (TakeP G p C u.data.toList A w):=by
 have HI:=hid hI;obtain ⟨⟨h1,h2,h3,h5⟩,a0,c,Z,hrow,hown,hZ,hden⟩:=hI
 have HP:=hid (fun (Y:World) (hY:Below w.heap.size w Y)=>parse16_any vA A Y (h5.kept hY) (hA.kept hY) hz.1 hz.2.1 (by have:=hz.2.2;omega));obtain ⟨ns,nc,mx,hct⟩: ∃ a b m,ctlV A=⟨a,b,m⟩:=⟨_,_,_,rfl⟩
 rw [hct] at HP;unfold CtPost at HP;dsimp only at HP;have HCt:=hid (show (ctlV A).ns=ns by rw [hct]);have HHA:=hid hA;obtain ⟨va,vc,rfl,_,_,_⟩:=hA.view
 obtain ⟨n,hnn⟩: ∃ n,n=C.rows.length:=⟨_,rfl⟩
 have HN:=hid (show n=Z.length by rw [hnn,← hZ];simp);have HNC:=hid hnn;rw [← hnn] at hrow hown;have HZ:=hid hZ;have HDen:=hid hden;have HRY:=hid (fun (Y:World) (hY:Below w.heap.size w Y)=>(show Y.heap[p]? = some (.cells #[.slice a0 n c,.int .i64 C.tn] 81 (0,0)) from (hY.block p (by omega)).trans hrow));have HOY:=hid (fun (Y:World) (hY:Below w.heap.size w Y)=>own_same hown.1 hY);have HGb:=hid (fun g (hg:(Value.slice a0 n c).ownBlock=some g)=>(show g<w.heap.size by have:=hown.2 g hg;omega))
 have HRG:=hid (show ∀ z ∈ Z,RowG z.r from fun z hz'=>hG.2.2 z.r (by rw [← hZ];exact List.mem_map.2 ⟨z,hz',rfl⟩));have hn9:n≤1000:=by rw [hnn];exact hG.1
 have HSz:=hid hz;have HTV:=hid (show takeV C u.data.toList A=if ns then none else match bestV (meantV u.data.toList A) C.rows n with | none=>none | some a=>(C.rows[a]?).map fun r=>(r,C.rows.eraseIdx a) by
  unfold takeV;rw [HCt.out,hnn]
  cases ns<;>(try cases bestV (meantV u.data.toList A) C.rows C.rows.length)<;>rfl)
 obtain ⟨W1,hW1⟩: ∃ X,w.alloc (.cells #[.string ⟨#[]⟩,.slice none 0 0,.int .i64 0,.slice none 0 0,.slice none 0 0,.int .i64 0,.int .i64 0] 92)=X:=⟨_,rfl⟩
 have HB1:=hid (show Below w.heap.size w W1 by rw [← hW1];exact (Below.refl _ w).alloc (Nat.le_refl _) _);have HQ1:=hid (show W1.heap[w.heap.size]? = some (.cells #[.string ⟨#[]⟩,.slice none 0 0,.int .i64 0,.slice none 0 0,.slice none 0 0,.int .i64 0,.int .i64 0] 92 (0,0)) by rw [← hW1];exact heap_alloc_new w _);have HQY:=hid (fun (Y:World) (hY:Below W1.heap.size W1 Y)=>(show Y.heap[w.heap.size]? = some (.cells #[.string ⟨#[]⟩,.slice none 0 0,.int .i64 0,.slice none 0 0,.slice none 0 0,.int .i64 0,.int .i64 0] 92 (0,0)) from (hY.block _ (Array.getElem?_eq_some_iff.1 HQ1.out).1).trans HQ1.out))
 have HTh:=hid (fun (Y:World) (hY:Below W1.heap.size W1 Y)=>(show Y.there w.heap.size 0 7 from fun t ht=>⟨by rw [Nat.zero_add,Lib.cell_of_heap (HQY.out Y hY)];simp;omega,Lib.frozen_of_heap (HQY.out Y hY) _⟩));have HZ1:=hid (all_oneCell_toArray (cs:=[.string ⟨#[]⟩,.slice none 0 0,.int .i64 0,.slice none 0 0,.slice none 0 0,.int .i64 0,.int .i64 0]) (by intro v hv;simp at hv;rcases hv with rfl | rfl | rfl | rfl | rfl | rfl | rfl<;>rfl));have HF0:=hid (fun w=>field_ct0 ns nc mx w);clear hrow hown hZ hden h1 h2 h3 h5 hG hA hz hct hnn
 cases ns with
 | true=>
   have HTn:=hid (show takeV C u.data.toList A=none by rw [HTV.out];rfl);have hf0:=HF0.out;clear HTV
   go_enter Tryz.func63,Tryz.ntmps63
   go_wp2_with fail
   refine (HP.out _ HB1.out).mono ?_;rintro e w2 ⟨rfl,hb2⟩
   have HB2:=hid hb2;clear hb2 hW1;have HThW:=hid (HTh.out w2 HB2.out);obtain ⟨WZ,hWZ⟩: ∃ X,X=w2.setCells w.heap.size 0 [.string ⟨#[]⟩,.slice none 0 0,.int .i64 0,.slice none 0 0,.slice none 0 0,.int .i64 0,.int .i64 0]:=⟨_,rfl⟩
   have HWZ:=hid hWZ;have HFin:=hid (show WZ.rangeAt w.heap.size 0 [.string ⟨#[]⟩,.slice none 0 0,.int .i64 0,.slice none 0 0,.slice none 0 0,.int .i64 0,.int .i64 0]∧Below w.heap.size w WZ by
    rw [hWZ];exact ⟨World.rangeAt_setCells_same _ _ _ _ HThW.out,below_setC17 (Nat.le_refl _) _ 0 _ (below2_Efc HB1.out HB2.out)⟩)
   clear hWZ
   go_wp2_with (refine wpList_store_mid rfl 92 (.tmp 6) (.tmp 16) rfl w.heap.size 0 #[.string ⟨#[]⟩,.slice none 0 0,.int .i64 0,.slice none 0 0,.slice none 0 0,.int .i64 0,.int .i64 0] rfl rfl HThW.out sizeRw HZ1.out ?_;refine wpList_world17 HWZ.out ?_)
   exact bodyPost_ret (results_z2 rfl _ _ w.heap.size [.string ⟨#[]⟩,.slice none 0 0,.int .i64 0,.slice none 0 0,.slice none 0 0,.int .i64 0,.int .i64 0] rfl rfl HFin.out.1) rfl (.inl ⟨HTn.out,rfl,HFin.out.2⟩)
 | false=>
   have hf0:=HF0.out
   go_enter Tryz.func63,Tryz.ntmps63
   go_wp2_with fail
   refine (HP.out _ HB1.out).mono ?_;rintro e w2 ⟨rfl,hb2⟩
   have HB2:=hid hb2;clear hb2 hW1
   go_wp2_with fail
   refine (meant_any u va A.length vc _).mono ?_;rintro e w3 ⟨rfl,hm3,hb3⟩
   have HB3:=hid (below2_Efc HB2.out hb3);have HBw3:=hid (below2_Efc HB1.out HB3.out);have HM3:=hid hm3;obtain ⟨pu,hpu⟩: ∃ x,x=w2.heap.size:=⟨_,rfl⟩
   rw [← hpu] at HM3 ⊢;obtain ⟨pa,hpa⟩: ∃ x,x=pu+1:=⟨_,rfl⟩
   rw [← hpa] at HM3 ⊢;have d3:w3.cell? ⟨p,0,none⟩=some (.slice a0 n c):=by rw [Lib.cell_of_heap (HRY.out w3 HBw3.out)];rfl
   clear hm3 hb3 hpu hpa hf0
   go_wp2_with fail
   clear d3
   go_loopw [9,10,11,25] (fun s9 _ _ s25 wr=> ∃ (k:Nat) (x:Int),s25 = .int .i64 k∧s9 = .int .i64 x∧k≤n∧Hid (AtIs (bestV (meantV u.data.toList A) C.rows k) x∧Below w3.heap.size w3 wr)) (fun _ _ _ s25 _=>n - (intOf s25).toNat)
   case atStart=>exact ⟨0,-1,rfl,rfl,Nat.zero_le _,.inl ⟨rfl,rfl⟩,Below.refl _ _⟩
   case round=>
    obtain ⟨k,x,rfl,rfl,hk,HR⟩:=hrel
    by_cases hlt:k<n
    ·have hin:(k:Int)<(n:Int):=by omega
     have hkZ:k<Z.length:=by have:=HN.out;omega
     have HBwr:=hid (below2_Efc HBw3.out HR.out.2);obtain ⟨g,hgb,hr⟩:=own_range17 (HOY.out wr HBwr.out) k hkZ
     obtain rfl:a0=some ⟨g,0,none⟩:=by
      rcases (HOY.out wr HBwr.out).2 with ⟨_,h0⟩ | ⟨g',cap',cur,hv,_⟩
      ·omega
      ·injection hv with e1 _ _
       subst e1;simp [Value.ownBlock] at hgb;rw [hgb]
     obtain ⟨z,hzk⟩: ∃ z,z=Z[k]:=⟨_,rfl⟩
     rw [← hzk] at hr;have hzm:z ∈ Z:=by rw [hzk];exact List.getElem_mem hkZ
     have hzC:C.rows[k]? = some z.r:=by rw [← HZ.out,List.getElem?_map,List.getElem?_eq_getElem hkZ,← hzk];rfl
     have HST:=hid (show bestV (meantV u.data.toList A) C.rows (k+1)=match bestV (meantV u.data.toList A) C.rows k with | none=>if meantV u.data.toList A z.r then some k else none | some a=>if meantV u.data.toList A z.r&&decide ((C.rows.getD a z.r).tn<z.r.tn) then some k else some a by
      rw [bestV,hzC]
      cases bestV (meantV u.data.toList A) C.rows k<;>rfl)
     have hdz:=HDen.out z hzm;obtain ⟨_,hg2,hg3,_⟩:=HRG.out z hzm
     have HF:=hid (fun (Y:World) (hY:Below wr.heap.size wr Y)=>meant1_any pa pu (.slice va A.length vc) A u z Y (p+1) M (HM3.out.kept (below2_Efc HR.out.2 hY)) (HHA.out.kept (below2_Efc HBwr.out hY)) HSz.out (hdz.kept ((below2_Efc HBwr.out hY).mono (HI.out.1.2.1))) hg2 hg3);obtain ⟨y,hy⟩: ∃ y,y=meantV u.data.toList A z.r:=⟨_,rfl⟩
     rw [← hy] at HF HST;obtain ⟨ca,cc,ha,hc,ba,bc,f1,f2,f3⟩:=hdz.form
     obtain ⟨R,zc,zh,zb⟩:=z
     dsimp only at f1 f2 f3;subst f1 f2 f3;obtain ⟨U,hU⟩: ∃ U:ByteArray,(⟨R.url.toArray⟩:ByteArray)=U:=⟨_,rfl⟩
     obtain ⟨cn,hcn⟩: ∃ n,n=R.ch.length:=⟨_,rfl⟩
     obtain ⟨hn',hhn⟩: ∃ n,n=R.rp.hd.length:=⟨_,rfl⟩
     obtain ⟨bn,hbn⟩: ∃ n,n=R.rp.bd.length:=⟨_,rfl⟩
     obtain ⟨s1,hs1⟩: ∃ n,n=R.rp.st:=⟨_,rfl⟩
     obtain ⟨s2,hs2⟩: ∃ n,n=R.sto:=⟨_,rfl⟩
     obtain ⟨s3,hs3⟩: ∃ n,n=R.tn:=⟨_,rfl⟩
     dsimp only at HST;rw [← hs3] at HST;rw [← hcn,← hhn,← hbn] at HF hr;have hcs:zCells ⟨R,.slice ca cn cc,.slice ha hn' hc,.slice ba bn bc⟩=[.string U,.slice ca cn cc,.int .i64 s1,.slice ha hn' hc,.slice ba bn bc,.int .i64 s2,.int .i64 s3]:=by unfold zCells;rw [← hU,← hs1,← hs2,← hs3]
     unfold zVal at HF;rw [hcs] at HF hr;have HRg:=hid hr;obtain ⟨W5,hW5⟩: ∃ X,wr.alloc (.cells #[.string U,.slice ca cn cc,.int .i64 s1,.slice ha hn' hc,.slice ba bn bc,.int .i64 s2,.int .i64 s3] 92)=X:=⟨_,rfl⟩
     have HB5:=hid (show Below wr.heap.size wr W5 by rw [← hW5];exact (Below.refl _ wr).alloc (Nat.le_refl _) _);have HX5:=hid (show W5.heap[wr.heap.size]? = some (.cells #[.string U,.slice ca cn cc,.int .i64 s1,.slice ha hn' hc,.slice ba bn bc,.int .i64 s2,.int .i64 s3] 92 (0,0)) by rw [← hW5];exact heap_alloc_new wr _)
     have HRn:=hid (fun (Y:World) (hY:Below W5.heap.size W5 Y)=>(show Y.rangeAt wr.heap.size 0 [.string U,.slice ca cn cc,.int .i64 s1,.slice ha hn' hc,.slice ba bn bc,.int .i64 s2,.int .i64 s3] from range_row_Cb (cs:=[.string U,.slice ca cn cc,.int .i64 s1,.slice ha hn' hc,.slice ba bn bc,.int .i64 s2,.int .i64 s3]) ((hY.block _ (Array.getElem?_eq_some_iff.1 HX5.out).1).trans HX5.out)));have HQ0:=hid ((Below.refl W5.heap.size W5).drew);clear hr hzk hzm hdz hg2 hg3 hy hU hcn hhn hbn hs1 hs2 hs3 hcs hgb
     cases y with
     | false=>
       have HSame:=hid (show bestV (meantV u.data.toList A) C.rows (k+1)=bestV (meantV u.data.toList A) C.rows k by
        rw [HST.out]
        cases bestV (meantV u.data.toList A) C.rows k<;>simp)
       clear HST
       go_upto_region 7 with (refine wpList_load_mid rfl 92 (.tmp 28) rfl g (k*7) rfl [.string U,.slice ca cn cc,.int .i64 s1,.slice ha hn' hc,.slice ba bn bc,.int .i64 s2,.int .i64 s3] _ HRg.out Tryz.underlying92 rfl sizeRw ?_)
       clear hW5;refine wp_region_held_drew (S:=(fun wx=>Below W5.heap.size W5 wx)) (by kernel_rfl) HQ0.out (fun hHeld=> ?_)
       refine wpAnyH_to (fuel':=20) (listed':= #[false,false,false,false,false,false,false,false,false,false,false,false,false,false,false,false,false,false,false,false]) rfl rfl ?_
       refine' wpAnyH_take (i:=0) (oi:=⟨some 30,_,_,_,_,_⟩) (v:=_) rfl (by kernel_rfl) (by kernel_rfl) (by kernel_rfl) (fun _ _ _ h=>h) (Or.inl ⟨by kernel_rfl,?hyta1⟩) (by assumption) ?restta1
       case hyta1=>(intro wx hSw;(try dsimp only at hSw);go_simp;first | done | with_reducible rfl)
       (try simp only [Act.put,List.setIfInBounds_toArray,List.set_cons_zero,List.set_cons_succ])
       refine wpAnyH_take (i:=1) (oi:=⟨some 31,_,_,_,_,_⟩) rfl (by kernel_rfl) (by kernel_rfl) (by kernel_rfl) (fun _ _ _ h=>h) (yieldsIf_load_mid (by kernel_rfl) 92 (.tmp 11) rfl (wr.heap.size) 0 rfl [.string U,.slice ca cn cc,.int .i64 s1,.slice ha hn' hc,.slice ba bn bc,.int .i64 s2,.int .i64 s3] _ HRn.out Tryz.underlying92 rfl sizeRw) (by assumption) ?_
       (try simp only [Act.put,List.setIfInBounds_toArray,List.set_cons_zero,List.set_cons_succ])
       refine wpAnyH_ready (rs:=[2]) (by kernel_rfl) (by simp) ?_
       refine AllReadyH.cons rfl (fun K9 hK=> ?_) AllReadyH.nil;rw [if_pos (by kernel_rfl)]
       go_simp
       go_wp2_with (go_at_call 105;refine (HF.out _ (below2_Efc HB5.out HQ0.out)).mono ?_;rintro e w6 ⟨rfl,hba⟩)
       have HQ6:=hid (below2_Efc HQ0.out hba);clear hba;refine hK.out _ _ HQ6.out (fun hHeld2=> ?_);clear hK K9 hHeld
       rename _=>hHeld
       refine' wpAnyH_take (i:=3) (oi:=⟨some 33,_,_,_,_,_⟩) (v:=_) rfl (by kernel_rfl) (by kernel_rfl) (by kernel_rfl) (fun _ _ _ h=>h) (Or.inl ⟨by kernel_rfl,?hyta2⟩) (by assumption) ?restta2
       case hyta2=>(intro wx hSw;(try dsimp only at hSw);go_simp;first | done | with_reducible rfl)
       (try simp only [Act.put,List.setIfInBounds_toArray,List.set_cons_zero,List.set_cons_succ])
       refine wpAnyH_take (i:=4) (oi:=⟨some 34,_,_,_,_,_⟩) (v:=undef) rfl (by kernel_rfl) (by kernel_rfl) (by kernel_rfl) (fun _ _ _ h=>h) (Or.inr ⟨by kernel_rfl,by kernel_rfl⟩) (by assumption) ?_
       (try simp only [Act.put,List.setIfInBounds_toArray,List.set_cons_zero,List.set_cons_succ])
       refine wpAnyH_take (i:=5) (oi:=⟨some 35,_,_,_,_,_⟩) (v:=undef) rfl (by kernel_rfl) (by kernel_rfl) (by kernel_rfl) (fun _ _ _ h=>h) (Or.inr ⟨by kernel_rfl,by kernel_rfl⟩) (by assumption) ?_
       (try simp only [Act.put,List.setIfInBounds_toArray,List.set_cons_zero,List.set_cons_succ])
       refine wpAnyH_take (i:=6) (oi:=⟨some 36,_,_,_,_,_⟩) (v:=undef) rfl (by kernel_rfl) (by kernel_rfl) (by kernel_rfl) (fun _ _ _ h=>h) (Or.inr ⟨by kernel_rfl,by kernel_rfl⟩) (by assumption) ?_
       (try simp only [Act.put,List.setIfInBounds_toArray,List.set_cons_zero,List.set_cons_succ])
       refine wpAnyH_take (i:=7) (oi:=⟨some 37,_,_,_,_,_⟩) (v:=undef) rfl (by kernel_rfl) (by kernel_rfl) (by kernel_rfl) (fun _ _ _ h=>h) (Or.inr ⟨by kernel_rfl,by kernel_rfl⟩) (by assumption) ?_
       (try simp only [Act.put,List.setIfInBounds_toArray,List.set_cons_zero,List.set_cons_succ])
       refine wpAnyH_take (i:=8) (oi:=⟨some 38,_,_,_,_,_⟩) (v:=undef) rfl (by kernel_rfl) (by kernel_rfl) (by kernel_rfl) (fun _ _ _ h=>h) (Or.inr ⟨by kernel_rfl,by kernel_rfl⟩) (by assumption) ?_
       (try simp only [Act.put,List.setIfInBounds_toArray,List.set_cons_zero,List.set_cons_succ])
       refine wpAnyH_take (i:=9) (oi:=⟨some 39,_,_,_,_,_⟩) (v:=undef) rfl (by kernel_rfl) (by kernel_rfl) (by kernel_rfl) (fun _ _ _ h=>h) (Or.inr ⟨by kernel_rfl,by kernel_rfl⟩) (by assumption) ?_
       (try simp only [Act.put,List.setIfInBounds_toArray,List.set_cons_zero,List.set_cons_succ])
       refine wpAnyH_take (i:=10) (oi:=⟨some 40,_,_,_,_,_⟩) (v:=undef) rfl (by kernel_rfl) (by kernel_rfl) (by kernel_rfl) (fun _ _ _ h=>h) (Or.inr ⟨by kernel_rfl,by kernel_rfl⟩) (by assumption) ?_
       (try simp only [Act.put,List.setIfInBounds_toArray,List.set_cons_zero,List.set_cons_succ])
       refine wpAnyH_take (i:=11) (oi:=⟨some 41,_,_,_,_,_⟩) (v:=undef) rfl (by kernel_rfl) (by kernel_rfl) (by kernel_rfl) (fun _ _ _ h=>h) (Or.inr ⟨by kernel_rfl,by kernel_rfl⟩) (by assumption) ?_
       (try simp only [Act.put,List.setIfInBounds_toArray,List.set_cons_zero,List.set_cons_succ])
       refine wpAnyH_take (i:=12) (oi:=⟨some 42,_,_,_,_,_⟩) (v:=undef) rfl (by kernel_rfl) (by kernel_rfl) (by kernel_rfl) (fun _ _ _ h=>h) (Or.inr ⟨by kernel_rfl,by kernel_rfl⟩) (by assumption) ?_
       (try simp only [Act.put,List.setIfInBounds_toArray,List.set_cons_zero,List.set_cons_succ])
       refine wpAnyH_take (i:=13) (oi:=⟨some 43,_,_,_,_,_⟩) (v:=undef) rfl (by kernel_rfl) (by kernel_rfl) (by kernel_rfl) (fun _ _ _ h=>h) (Or.inr ⟨by kernel_rfl,by kernel_rfl⟩) (by assumption) ?_
       (try simp only [Act.put,List.setIfInBounds_toArray,List.set_cons_zero,List.set_cons_succ])
       refine wpAnyH_take (i:=14) (oi:=⟨some 44,_,_,_,_,_⟩) (v:=undef) rfl (by kernel_rfl) (by kernel_rfl) (by kernel_rfl) (fun _ _ _ h=>h) (Or.inr ⟨by kernel_rfl,by kernel_rfl⟩) (by assumption) ?_
       (try simp only [Act.put,List.setIfInBounds_toArray,List.set_cons_zero,List.set_cons_succ])
       refine wpAnyH_take (i:=15) (oi:=⟨some 45,_,_,_,_,_⟩) (v:=undef) rfl (by kernel_rfl) (by kernel_rfl) (by kernel_rfl) (fun _ _ _ h=>h) (Or.inr ⟨by kernel_rfl,by kernel_rfl⟩) (by assumption) ?_
       (try simp only [Act.put,List.setIfInBounds_toArray,List.set_cons_zero,List.set_cons_succ])
       refine wpAnyH_take (i:=16) (oi:=⟨some 46,_,_,_,_,_⟩) (v:=undef) rfl (by kernel_rfl) (by kernel_rfl) (by kernel_rfl) (fun _ _ _ h=>h) (Or.inr ⟨by kernel_rfl,by kernel_rfl⟩) (by assumption) ?_
       (try simp only [Act.put,List.setIfInBounds_toArray,List.set_cons_zero,List.set_cons_succ])
       refine wpAnyH_take (i:=17) (oi:=⟨some 47,_,_,_,_,_⟩) (v:=undef) rfl (by kernel_rfl) (by kernel_rfl) (by kernel_rfl) (fun _ _ _ h=>h) (Or.inr ⟨by kernel_rfl,by kernel_rfl⟩) (by assumption) ?_
       (try simp only [Act.put,List.setIfInBounds_toArray,List.set_cons_zero,List.set_cons_succ])
       refine wpAnyH_take (i:=18) (oi:=⟨some 48,_,_,_,_,_⟩) (v:=undef) rfl (by kernel_rfl) (by kernel_rfl) (by kernel_rfl) (fun _ _ _ h=>h) (Or.inr ⟨by kernel_rfl,by kernel_rfl⟩) (by assumption) ?_
       (try simp only [Act.put,List.setIfInBounds_toArray,List.set_cons_zero,List.set_cons_succ])
       refine' wpAnyH_take (i:=19) (oi:=⟨some 49,_,_,_,_,_⟩) (v:=_) rfl (by kernel_rfl) (by kernel_rfl) (by kernel_rfl) (fun _ _ _ h=>h) (Or.inl ⟨by kernel_rfl,?hyta3⟩) (by assumption) ?restta3
       case hyta3=>(intro wx hSw;(try dsimp only at hSw);go_simp;first | done | with_reducible rfl)
       (try simp only [Act.put,List.setIfInBounds_toArray,List.set_cons_zero,List.set_cons_succ])
       refine wpAnyH_done (by kernel_rfl) ?_ _
       have HE:=hid (show AtIs (bestV (meantV u.data.toList A) C.rows (k+1)) x∧Below w3.heap.size w3 w6 from ⟨by rw [HSame.out];exact HR.out.1,below2_Efc HR.out.2 (below2_Efc HB5.out HQ6.out)⟩)
       go_wp2_with fail
       go_roundw
       case rel=>
        first
         | exact ⟨k+1,x,by go_num,rfl,by omega,HE.out⟩
         | ((repeat apply Exists.intro);exact ⟨⟨k+1,x,by go_num,rfl,by omega,HE.out⟩,rfl⟩)
       case measure=>simp [intOf];omega
     | true=>
       rcases HR.out.1 with ⟨hb0,rfl⟩ | ⟨a,hb0,rfl⟩
       ·have HNew:=hid (show bestV (meantV u.data.toList A) C.rows (k+1)=some k by rw [HST.out,hb0];rfl)
        clear HST hb0
        go_upto_region 7 with (refine wpList_load_mid rfl 92 (.tmp 28) rfl g (k*7) rfl [.string U,.slice ca cn cc,.int .i64 s1,.slice ha hn' hc,.slice ba bn bc,.int .i64 s2,.int .i64 s3] _ HRg.out Tryz.underlying92 rfl sizeRw ?_)
        clear hW5;refine wp_region_held_drew (S:=(fun wx=>Below W5.heap.size W5 wx)) (by kernel_rfl) HQ0.out (fun hHeld=> ?_)
        refine wpAnyH_to (fuel':=20) (listed':= #[false,false,false,false,false,false,false,false,false,false,false,false,false,false,false,false,false,false,false,false]) rfl rfl ?_
        refine' wpAnyH_take (i:=0) (oi:=⟨some 30,_,_,_,_,_⟩) (v:=_) rfl (by kernel_rfl) (by kernel_rfl) (by kernel_rfl) (fun _ _ _ h=>h) (Or.inl ⟨by kernel_rfl,?hytb1⟩) (by assumption) ?resttb1
        case hytb1=>(intro wx hSw;(try dsimp only at hSw);go_simp;first | done | with_reducible rfl)
        (try simp only [Act.put,List.setIfInBounds_toArray,List.set_cons_zero,List.set_cons_succ])
        refine wpAnyH_take (i:=1) (oi:=⟨some 31,_,_,_,_,_⟩) rfl (by kernel_rfl) (by kernel_rfl) (by kernel_rfl) (fun _ _ _ h=>h) (yieldsIf_load_mid (by kernel_rfl) 92 (.tmp 11) rfl (wr.heap.size) 0 rfl [.string U,.slice ca cn cc,.int .i64 s1,.slice ha hn' hc,.slice ba bn bc,.int .i64 s2,.int .i64 s3] _ HRn.out Tryz.underlying92 rfl sizeRw) (by assumption) ?_
        (try simp only [Act.put,List.setIfInBounds_toArray,List.set_cons_zero,List.set_cons_succ])
        refine wpAnyH_ready (rs:=[2]) (by kernel_rfl) (by simp) ?_
        refine AllReadyH.cons rfl (fun K9 hK=> ?_) AllReadyH.nil;rw [if_pos (by kernel_rfl)]
        go_simp
        go_wp2_with (go_at_call 105;refine (HF.out _ (below2_Efc HB5.out HQ0.out)).mono ?_;rintro e w6 ⟨rfl,hba⟩)
        have HQ6:=hid (below2_Efc HQ0.out hba);clear hba;refine hK.out _ _ HQ6.out (fun hHeld2=> ?_);clear hK K9 hHeld
        rename _=>hHeld
        refine' wpAnyH_take (i:=3) (oi:=⟨some 33,_,_,_,_,_⟩) (v:=_) rfl (by kernel_rfl) (by kernel_rfl) (by kernel_rfl) (fun _ _ _ h=>h) (Or.inl ⟨by kernel_rfl,?hytb2⟩) (by assumption) ?resttb2
        case hytb2=>(intro wx hSw;(try dsimp only at hSw);go_simp;first | done | with_reducible rfl)
        (try simp only [Act.put,List.setIfInBounds_toArray,List.set_cons_zero,List.set_cons_succ])
        refine' wpAnyH_take (i:=4) (oi:=⟨some 34,_,_,_,_,_⟩) (v:=_) rfl (by kernel_rfl) (by kernel_rfl) (by kernel_rfl) (fun _ _ _ h=>h) (Or.inl ⟨by kernel_rfl,?hytb3⟩) (by assumption) ?resttb3
        case hytb3=>(intro wx hSw;(try dsimp only at hSw);go_simp;first | done | with_reducible rfl)
        (try simp only [Act.put,List.setIfInBounds_toArray,List.set_cons_zero,List.set_cons_succ])
        refine' wpAnyH_take (i:=5) (oi:=⟨some 35,_,_,_,_,_⟩) (v:=_) rfl (by kernel_rfl) (by kernel_rfl) (by kernel_rfl) (fun _ _ _ h=>h) (Or.inl ⟨by kernel_rfl,?hytb4⟩) (by assumption) ?resttb4
        case hytb4=>(intro wx hSw;(try dsimp only at hSw);go_simp;first | done | with_reducible rfl)
        (try simp only [Act.put,List.setIfInBounds_toArray,List.set_cons_zero,List.set_cons_succ])
        refine' wpAnyH_take (i:=6) (oi:=⟨some 36,_,_,_,_,_⟩) (v:=_) rfl (by kernel_rfl) (by kernel_rfl) (by kernel_rfl) (fun _ _ _ h=>h) (Or.inl ⟨by kernel_rfl,?hytb5⟩) (by assumption) ?resttb5
        case hytb5=>(intro wx hSw;(try dsimp only at hSw);go_simp;first | done | with_reducible rfl)
        (try simp only [Act.put,List.setIfInBounds_toArray,List.set_cons_zero,List.set_cons_succ])
        refine wpAnyH_take (i:=7) (oi:=⟨some 37,_,_,_,_,_⟩) (v:=undef) rfl (by kernel_rfl) (by kernel_rfl) (by kernel_rfl) (fun _ _ _ h=>h) (Or.inr ⟨by kernel_rfl,by kernel_rfl⟩) (by assumption) ?_
        (try simp only [Act.put,List.setIfInBounds_toArray,List.set_cons_zero,List.set_cons_succ])
        refine wpAnyH_take (i:=8) (oi:=⟨some 38,_,_,_,_,_⟩) (v:=undef) rfl (by kernel_rfl) (by kernel_rfl) (by kernel_rfl) (fun _ _ _ h=>h) (Or.inr ⟨by kernel_rfl,by kernel_rfl⟩) (by assumption) ?_
        (try simp only [Act.put,List.setIfInBounds_toArray,List.set_cons_zero,List.set_cons_succ])
        refine wpAnyH_take (i:=9) (oi:=⟨some 39,_,_,_,_,_⟩) (v:=undef) rfl (by kernel_rfl) (by kernel_rfl) (by kernel_rfl) (fun _ _ _ h=>h) (Or.inr ⟨by kernel_rfl,by kernel_rfl⟩) (by assumption) ?_
        (try simp only [Act.put,List.setIfInBounds_toArray,List.set_cons_zero,List.set_cons_succ])
        refine wpAnyH_take (i:=10) (oi:=⟨some 40,_,_,_,_,_⟩) (v:=undef) rfl (by kernel_rfl) (by kernel_rfl) (by kernel_rfl) (fun _ _ _ h=>h) (Or.inr ⟨by kernel_rfl,by kernel_rfl⟩) (by assumption) ?_
        (try simp only [Act.put,List.setIfInBounds_toArray,List.set_cons_zero,List.set_cons_succ])
        refine wpAnyH_take (i:=11) (oi:=⟨some 41,_,_,_,_,_⟩) (v:=undef) rfl (by kernel_rfl) (by kernel_rfl) (by kernel_rfl) (fun _ _ _ h=>h) (Or.inr ⟨by kernel_rfl,by kernel_rfl⟩) (by assumption) ?_
        (try simp only [Act.put,List.setIfInBounds_toArray,List.set_cons_zero,List.set_cons_succ])
        refine wpAnyH_take (i:=12) (oi:=⟨some 42,_,_,_,_,_⟩) (v:=undef) rfl (by kernel_rfl) (by kernel_rfl) (by kernel_rfl) (fun _ _ _ h=>h) (Or.inr ⟨by kernel_rfl,by kernel_rfl⟩) (by assumption) ?_
        (try simp only [Act.put,List.setIfInBounds_toArray,List.set_cons_zero,List.set_cons_succ])
        refine wpAnyH_take (i:=13) (oi:=⟨some 43,_,_,_,_,_⟩) (v:=undef) rfl (by kernel_rfl) (by kernel_rfl) (by kernel_rfl) (fun _ _ _ h=>h) (Or.inr ⟨by kernel_rfl,by kernel_rfl⟩) (by assumption) ?_
        (try simp only [Act.put,List.setIfInBounds_toArray,List.set_cons_zero,List.set_cons_succ])
        refine wpAnyH_take (i:=14) (oi:=⟨some 44,_,_,_,_,_⟩) (v:=undef) rfl (by kernel_rfl) (by kernel_rfl) (by kernel_rfl) (fun _ _ _ h=>h) (Or.inr ⟨by kernel_rfl,by kernel_rfl⟩) (by assumption) ?_
        (try simp only [Act.put,List.setIfInBounds_toArray,List.set_cons_zero,List.set_cons_succ])
        refine wpAnyH_take (i:=15) (oi:=⟨some 45,_,_,_,_,_⟩) (v:=undef) rfl (by kernel_rfl) (by kernel_rfl) (by kernel_rfl) (fun _ _ _ h=>h) (Or.inr ⟨by kernel_rfl,by kernel_rfl⟩) (by assumption) ?_
        (try simp only [Act.put,List.setIfInBounds_toArray,List.set_cons_zero,List.set_cons_succ])
        refine wpAnyH_take (i:=16) (oi:=⟨some 46,_,_,_,_,_⟩) (v:=undef) rfl (by kernel_rfl) (by kernel_rfl) (by kernel_rfl) (fun _ _ _ h=>h) (Or.inr ⟨by kernel_rfl,by kernel_rfl⟩) (by assumption) ?_
        (try simp only [Act.put,List.setIfInBounds_toArray,List.set_cons_zero,List.set_cons_succ])
        refine wpAnyH_take (i:=17) (oi:=⟨some 47,_,_,_,_,_⟩) (v:=undef) rfl (by kernel_rfl) (by kernel_rfl) (by kernel_rfl) (fun _ _ _ h=>h) (Or.inr ⟨by kernel_rfl,by kernel_rfl⟩) (by assumption) ?_
        (try simp only [Act.put,List.setIfInBounds_toArray,List.set_cons_zero,List.set_cons_succ])
        refine' wpAnyH_take (i:=18) (oi:=⟨some 48,_,_,_,_,_⟩) (v:=_) rfl (by kernel_rfl) (by kernel_rfl) (by kernel_rfl) (fun _ _ _ h=>h) (Or.inl ⟨by kernel_rfl,?hytb6⟩) (by assumption) ?resttb6
        case hytb6=>(intro wx hSw;(try dsimp only at hSw);go_simp;first | done | with_reducible rfl)
        (try simp only [Act.put,List.setIfInBounds_toArray,List.set_cons_zero,List.set_cons_succ])
        refine' wpAnyH_take (i:=19) (oi:=⟨some 49,_,_,_,_,_⟩) (v:=_) rfl (by kernel_rfl) (by kernel_rfl) (by kernel_rfl) (fun _ _ _ h=>h) (Or.inl ⟨by kernel_rfl,?hytb7⟩) (by assumption) ?resttb7
        case hytb7=>(intro wx hSw;(try dsimp only at hSw);go_simp;first | done | with_reducible rfl)
        (try simp only [Act.put,List.setIfInBounds_toArray,List.set_cons_zero,List.set_cons_succ])
        refine wpAnyH_done (by kernel_rfl) ?_ _
        have HE:=hid (show AtIs (bestV (meantV u.data.toList A) C.rows (k+1)) (k:Int)∧Below w3.heap.size w3 w6 from ⟨.inr ⟨k,HNew.out,rfl⟩,below2_Efc HR.out.2 (below2_Efc HB5.out HQ6.out)⟩)
        go_wp2_with fail
        go_roundw
        case rel=>
         first
          | exact ⟨k+1,(k:Int),by go_num,rfl,by omega,HE.out⟩
          | ((repeat apply Exists.intro);exact ⟨⟨k+1,(k:Int),by go_num,rfl,by omega,HE.out⟩,rfl⟩)
        case measure=>simp [intOf];omega
       ·have hal:=bestV_lt _ _ _ _ hb0
        have hak:a<n:=by omega
        have haZ:a<Z.length:=by have:=HN.out;omega
        have haz:(a:Int)<(n:Int):=by omega
        have hat:C.rows.getD a R=Z[a].r:=by
         rw [← HZ.out,List.getD_eq_getElem?_getD,List.getElem?_map,List.getElem?_eq_getElem haZ];rfl
        obtain ⟨ta,hta⟩: ∃ t,t=Z[a].r.tn:=⟨_,rfl⟩
        have HNew:=hid (show bestV (meantV u.data.toList A) C.rows (k+1)=if decide (ta<s3) then some k else some a by
         rw [HST.out,hb0]
         dsimp only;rw [hat,← hta,Bool.true_and])
        have HKF:=hid (fun (Y:World) (hY:Below W5.heap.size W5 Y)=>(show Y.cell? ⟨wr.heap.size,6,none⟩=some (.int .i64 s3)∧Y.cell? ⟨p,0,none⟩=some (.slice (some ⟨g,0,none⟩) n c)∧Y.cell? ⟨g,a*7+6,none⟩=some (.int .i64 ta) from by
         have hw:=below2_Efc HBwr.out (below2_Efc HB5.out hY);refine ⟨?_,?_,?_⟩
         ·have:=HRn.out Y hY 6 _ rfl
          rw [Nat.zero_add] at this;exact this
         ·rw [Lib.cell_of_heap (HRY.out Y hw)];rfl
         ·obtain ⟨g2,e2,hr2⟩:=own_range17 (HOY.out Y hw) a haZ
          injection e2 with e2
          subst e2;have:=hr2 6 (.int .i64 Z[a].r.tn) rfl;rw [← hta] at this;exact this))
        clear HST hb0 hal hat hta;by_cases hcmp:ta<s3
        ·have HN2:=hid (show bestV (meantV u.data.toList A) C.rows (k+1)=some k by rw [HNew.out,decide_eq_true hcmp];rfl)
         clear HNew
         go_upto_region 7 with (refine wpList_load_mid rfl 92 (.tmp 28) rfl g (k*7) rfl [.string U,.slice ca cn cc,.int .i64 s1,.slice ha hn' hc,.slice ba bn bc,.int .i64 s2,.int .i64 s3] _ HRg.out Tryz.underlying92 rfl sizeRw ?_)
         clear hW5;refine wp_region_held_drew (S:=(fun wx=>Below W5.heap.size W5 wx)) (by kernel_rfl) HQ0.out (fun hHeld=> ?_)
         refine wpAnyH_to (fuel':=20) (listed':= #[false,false,false,false,false,false,false,false,false,false,false,false,false,false,false,false,false,false,false,false]) rfl rfl ?_
         refine' wpAnyH_take (i:=0) (oi:=⟨some 30,_,_,_,_,_⟩) (v:=_) rfl (by kernel_rfl) (by kernel_rfl) (by kernel_rfl) (fun _ _ _ h=>h) (Or.inl ⟨by kernel_rfl,?hytc1⟩) (by assumption) ?resttc1
         case hytc1=>(intro wx hSw;(try dsimp only at hSw);obtain ⟨f1,f2,f3⟩:=HKF.out _ hSw;go_simp;first | done | with_reducible rfl)
         (try simp only [Act.put,List.setIfInBounds_toArray,List.set_cons_zero,List.set_cons_succ])
         refine wpAnyH_take (i:=1) (oi:=⟨some 31,_,_,_,_,_⟩) rfl (by kernel_rfl) (by kernel_rfl) (by kernel_rfl) (fun _ _ _ h=>h) (yieldsIf_load_mid (by kernel_rfl) 92 (.tmp 11) rfl (wr.heap.size) 0 rfl [.string U,.slice ca cn cc,.int .i64 s1,.slice ha hn' hc,.slice ba bn bc,.int .i64 s2,.int .i64 s3] _ HRn.out Tryz.underlying92 rfl sizeRw) (by assumption) ?_
         (try simp only [Act.put,List.setIfInBounds_toArray,List.set_cons_zero,List.set_cons_succ])
         refine wpAnyH_ready (rs:=[2]) (by kernel_rfl) (by simp) ?_
         refine AllReadyH.cons rfl (fun K9 hK=> ?_) AllReadyH.nil;rw [if_pos (by kernel_rfl)]
         go_simp
         go_wp2_with (go_at_call 105;refine (HF.out _ (below2_Efc HB5.out HQ0.out)).mono ?_;rintro e w6 ⟨rfl,hba⟩)
         have HQ6:=hid (below2_Efc HQ0.out hba);clear hba;refine hK.out _ _ HQ6.out (fun hHeld2=> ?_);clear hK K9 hHeld
         rename _=>hHeld
         refine' wpAnyH_take (i:=3) (oi:=⟨some 33,_,_,_,_,_⟩) (v:=_) rfl (by kernel_rfl) (by kernel_rfl) (by kernel_rfl) (fun _ _ _ h=>h) (Or.inl ⟨by kernel_rfl,?hytc2⟩) (by assumption) ?resttc2
         case hytc2=>(intro wx hSw;(try dsimp only at hSw);obtain ⟨f1,f2,f3⟩:=HKF.out _ hSw;go_simp;first | done | with_reducible rfl)
         (try simp only [Act.put,List.setIfInBounds_toArray,List.set_cons_zero,List.set_cons_succ])
         refine' wpAnyH_take (i:=4) (oi:=⟨some 34,_,_,_,_,_⟩) (v:=_) rfl (by kernel_rfl) (by kernel_rfl) (by kernel_rfl) (fun _ _ _ h=>h) (Or.inl ⟨by kernel_rfl,?hytc3⟩) (by assumption) ?resttc3
         case hytc3=>(intro wx hSw;(try dsimp only at hSw);obtain ⟨f1,f2,f3⟩:=HKF.out _ hSw;go_simp;first | done | with_reducible rfl)
         (try simp only [Act.put,List.setIfInBounds_toArray,List.set_cons_zero,List.set_cons_succ])
         refine' wpAnyH_take (i:=5) (oi:=⟨some 35,_,_,_,_,_⟩) (v:=_) rfl (by kernel_rfl) (by kernel_rfl) (by kernel_rfl) (fun _ _ _ h=>h) (Or.inl ⟨by kernel_rfl,?hytc4⟩) (by assumption) ?resttc4
         case hytc4=>(intro wx hSw;(try dsimp only at hSw);obtain ⟨f1,f2,f3⟩:=HKF.out _ hSw;go_simp;first | done | with_reducible rfl)
         (try simp only [Act.put,List.setIfInBounds_toArray,List.set_cons_zero,List.set_cons_succ])
         refine' wpAnyH_take (i:=6) (oi:=⟨some 36,_,_,_,_,_⟩) (v:=_) rfl (by kernel_rfl) (by kernel_rfl) (by kernel_rfl) (fun _ _ _ h=>h) (Or.inl ⟨by kernel_rfl,?hytc5⟩) (by assumption) ?resttc5
         case hytc5=>(intro wx hSw;(try dsimp only at hSw);obtain ⟨f1,f2,f3⟩:=HKF.out _ hSw;go_simp;first | done | with_reducible rfl)
         (try simp only [Act.put,List.setIfInBounds_toArray,List.set_cons_zero,List.set_cons_succ])
         refine' wpAnyH_take (i:=7) (oi:=⟨some 37,_,_,_,_,_⟩) (v:=_) rfl (by kernel_rfl) (by kernel_rfl) (by kernel_rfl) (fun _ _ _ h=>h) (Or.inl ⟨by kernel_rfl,?hytc6⟩) (by assumption) ?resttc6
         case hytc6=>(intro wx hSw;(try dsimp only at hSw);obtain ⟨f1,f2,f3⟩:=HKF.out _ hSw;go_simp;first | done | with_reducible rfl)
         (try simp only [Act.put,List.setIfInBounds_toArray,List.set_cons_zero,List.set_cons_succ])
         refine' wpAnyH_take (i:=8) (oi:=⟨some 38,_,_,_,_,_⟩) (v:=_) rfl (by kernel_rfl) (by kernel_rfl) (by kernel_rfl) (fun _ _ _ h=>h) (Or.inl ⟨by kernel_rfl,?hytc7⟩) (by assumption) ?resttc7
         case hytc7=>(intro wx hSw;(try dsimp only at hSw);obtain ⟨f1,f2,f3⟩:=HKF.out _ hSw;go_simp;first | done | with_reducible rfl)
         (try simp only [Act.put,List.setIfInBounds_toArray,List.set_cons_zero,List.set_cons_succ])
         refine' wpAnyH_take (i:=9) (oi:=⟨some 39,_,_,_,_,_⟩) (v:=_) rfl (by kernel_rfl) (by kernel_rfl) (by kernel_rfl) (fun _ _ _ h=>h) (Or.inl ⟨by kernel_rfl,?hytc8⟩) (by assumption) ?resttc8
         case hytc8=>(intro wx hSw;(try dsimp only at hSw);obtain ⟨f1,f2,f3⟩:=HKF.out _ hSw;go_simp;first | done | with_reducible rfl)
         (try simp only [Act.put,List.setIfInBounds_toArray,List.set_cons_zero,List.set_cons_succ])
         refine' wpAnyH_take (i:=10) (oi:=⟨some 40,_,_,_,_,_⟩) (v:=_) rfl (by kernel_rfl) (by kernel_rfl) (by kernel_rfl) (fun _ _ _ h=>h) (Or.inl ⟨by kernel_rfl,?hytc9⟩) (by assumption) ?resttc9
         case hytc9=>(intro wx hSw;(try dsimp only at hSw);obtain ⟨f1,f2,f3⟩:=HKF.out _ hSw;go_simp;first | done | with_reducible rfl)
         (try simp only [Act.put,List.setIfInBounds_toArray,List.set_cons_zero,List.set_cons_succ])
         refine' wpAnyH_take (i:=11) (oi:=⟨some 41,_,_,_,_,_⟩) (v:=_) rfl (by kernel_rfl) (by kernel_rfl) (by kernel_rfl) (fun _ _ _ h=>h) (Or.inl ⟨by kernel_rfl,?hytc10⟩) (by assumption) ?resttc10
         case hytc10=>(intro wx hSw;(try dsimp only at hSw);obtain ⟨f1,f2,f3⟩:=HKF.out _ hSw;go_simp;first | done | with_reducible rfl)
         (try simp only [Act.put,List.setIfInBounds_toArray,List.set_cons_zero,List.set_cons_succ])
         refine' wpAnyH_take (i:=12) (oi:=⟨some 42,_,_,_,_,_⟩) (v:=_) rfl (by kernel_rfl) (by kernel_rfl) (by kernel_rfl) (fun _ _ _ h=>h) (Or.inl ⟨by kernel_rfl,?hytc11⟩) (by assumption) ?resttc11
         case hytc11=>(intro wx hSw;(try dsimp only at hSw);obtain ⟨f1,f2,f3⟩:=HKF.out _ hSw;go_simp;first | done | with_reducible rfl)
         (try simp only [Act.put,List.setIfInBounds_toArray,List.set_cons_zero,List.set_cons_succ])
         refine' wpAnyH_take (i:=13) (oi:=⟨some 43,_,_,_,_,_⟩) (v:=_) rfl (by kernel_rfl) (by kernel_rfl) (by kernel_rfl) (fun _ _ _ h=>h) (Or.inl ⟨by kernel_rfl,?hytc12⟩) (by assumption) ?resttc12
         case hytc12=>(intro wx hSw;(try dsimp only at hSw);obtain ⟨f1,f2,f3⟩:=HKF.out _ hSw;go_simp;first | done | with_reducible rfl)
         (try simp only [Act.put,List.setIfInBounds_toArray,List.set_cons_zero,List.set_cons_succ])
         refine' wpAnyH_take (i:=14) (oi:=⟨some 44,_,_,_,_,_⟩) (v:=_) rfl (by kernel_rfl) (by kernel_rfl) (by kernel_rfl) (fun _ _ _ h=>h) (Or.inl ⟨by kernel_rfl,?hytc13⟩) (by assumption) ?resttc13
         case hytc13=>(intro wx hSw;(try dsimp only at hSw);obtain ⟨f1,f2,f3⟩:=HKF.out _ hSw;go_simp;first | done | with_reducible rfl)
         (try simp only [Act.put,List.setIfInBounds_toArray,List.set_cons_zero,List.set_cons_succ])
         refine' wpAnyH_take (i:=15) (oi:=⟨some 45,_,_,_,_,_⟩) (v:=_) rfl (by kernel_rfl) (by kernel_rfl) (by kernel_rfl) (fun _ _ _ h=>h) (Or.inl ⟨by kernel_rfl,?hytc14⟩) (by assumption) ?resttc14
         case hytc14=>(intro wx hSw;(try dsimp only at hSw);obtain ⟨f1,f2,f3⟩:=HKF.out _ hSw;go_simp;first | done | with_reducible rfl)
         (try simp only [Act.put,List.setIfInBounds_toArray,List.set_cons_zero,List.set_cons_succ])
         refine' wpAnyH_take (i:=16) (oi:=⟨some 46,_,_,_,_,_⟩) (v:=_) rfl (by kernel_rfl) (by kernel_rfl) (by kernel_rfl) (fun _ _ _ h=>h) (Or.inl ⟨by kernel_rfl,?hytc15⟩) (by assumption) ?resttc15
         case hytc15=>(intro wx hSw;(try dsimp only at hSw);obtain ⟨f1,f2,f3⟩:=HKF.out _ hSw;go_simp;first | done | with_reducible rfl)
         (try simp only [Act.put,List.setIfInBounds_toArray,List.set_cons_zero,List.set_cons_succ])
         refine' wpAnyH_take (i:=17) (oi:=⟨some 47,_,_,_,_,_⟩) (v:=_) rfl (by kernel_rfl) (by kernel_rfl) (by kernel_rfl) (fun _ _ _ h=>h) (Or.inl ⟨by kernel_rfl,?hytc16⟩) (by assumption) ?resttc16
         case hytc16=>(intro wx hSw;(try dsimp only at hSw);obtain ⟨f1,f2,f3⟩:=HKF.out _ hSw;go_simp;first | done | with_reducible rfl)
         (try simp only [Act.put,List.setIfInBounds_toArray,List.set_cons_zero,List.set_cons_succ])
         refine' wpAnyH_take (i:=18) (oi:=⟨some 48,_,_,_,_,_⟩) (v:=_) rfl (by kernel_rfl) (by kernel_rfl) (by kernel_rfl) (fun _ _ _ h=>h) (Or.inl ⟨by kernel_rfl,?hytc17⟩) (by assumption) ?resttc17
         case hytc17=>(intro wx hSw;(try dsimp only at hSw);obtain ⟨f1,f2,f3⟩:=HKF.out _ hSw;go_simp;first | done | with_reducible rfl)
         (try simp only [Act.put,List.setIfInBounds_toArray,List.set_cons_zero,List.set_cons_succ])
         refine' wpAnyH_take (i:=19) (oi:=⟨some 49,_,_,_,_,_⟩) (v:=_) rfl (by kernel_rfl) (by kernel_rfl) (by kernel_rfl) (fun _ _ _ h=>h) (Or.inl ⟨by kernel_rfl,?hytc18⟩) (by assumption) ?resttc18
         case hytc18=>(intro wx hSw;(try dsimp only at hSw);obtain ⟨f1,f2,f3⟩:=HKF.out _ hSw;go_simp;first | done | with_reducible rfl)
         (try simp only [Act.put,List.setIfInBounds_toArray,List.set_cons_zero,List.set_cons_succ])
         refine wpAnyH_done (by kernel_rfl) ?_ _
         have HE:=hid (show AtIs (bestV (meantV u.data.toList A) C.rows (k+1)) (k:Int)∧Below w3.heap.size w3 w6 from ⟨.inr ⟨k,HN2.out,rfl⟩,below2_Efc HR.out.2 (below2_Efc HB5.out HQ6.out)⟩)
         go_wp2_with fail
         go_roundw
         case rel=>
          first
           | exact ⟨k+1,(k:Int),by go_num,rfl,by omega,HE.out⟩
           | ((repeat apply Exists.intro);exact ⟨⟨k+1,(k:Int),by go_num,rfl,by omega,HE.out⟩,rfl⟩)
         case measure=>simp [intOf];omega
        ·have HN2:=hid (show bestV (meantV u.data.toList A) C.rows (k+1)=some a by rw [HNew.out,decide_eq_false hcmp];rfl)
         have hcm:decide (ta<s3)=false:=decide_eq_false hcmp;clear HNew
         go_upto_region 7 with (refine wpList_load_mid rfl 92 (.tmp 28) rfl g (k*7) rfl [.string U,.slice ca cn cc,.int .i64 s1,.slice ha hn' hc,.slice ba bn bc,.int .i64 s2,.int .i64 s3] _ HRg.out Tryz.underlying92 rfl sizeRw ?_)
         clear hW5;refine wp_region_held_drew (S:=(fun wx=>Below W5.heap.size W5 wx)) (by kernel_rfl) HQ0.out (fun hHeld=> ?_)
         refine wpAnyH_to (fuel':=20) (listed':= #[false,false,false,false,false,false,false,false,false,false,false,false,false,false,false,false,false,false,false,false]) rfl rfl ?_
         refine' wpAnyH_take (i:=0) (oi:=⟨some 30,_,_,_,_,_⟩) (v:=_) rfl (by kernel_rfl) (by kernel_rfl) (by kernel_rfl) (fun _ _ _ h=>h) (Or.inl ⟨by kernel_rfl,?hytd1⟩) (by assumption) ?resttd1
         case hytd1=>(intro wx hSw;(try dsimp only at hSw);obtain ⟨f1,f2,f3⟩:=HKF.out _ hSw;go_simp;first | done | with_reducible rfl)
         (try simp only [Act.put,List.setIfInBounds_toArray,List.set_cons_zero,List.set_cons_succ])
         refine wpAnyH_take (i:=1) (oi:=⟨some 31,_,_,_,_,_⟩) rfl (by kernel_rfl) (by kernel_rfl) (by kernel_rfl) (fun _ _ _ h=>h) (yieldsIf_load_mid (by kernel_rfl) 92 (.tmp 11) rfl (wr.heap.size) 0 rfl [.string U,.slice ca cn cc,.int .i64 s1,.slice ha hn' hc,.slice ba bn bc,.int .i64 s2,.int .i64 s3] _ HRn.out Tryz.underlying92 rfl sizeRw) (by assumption) ?_
         (try simp only [Act.put,List.setIfInBounds_toArray,List.set_cons_zero,List.set_cons_succ])
         refine wpAnyH_ready (rs:=[2]) (by kernel_rfl) (by simp) ?_
         refine AllReadyH.cons rfl (fun K9 hK=> ?_) AllReadyH.nil;rw [if_pos (by kernel_rfl)]
         go_simp
         go_wp2_with (go_at_call 105;refine (HF.out _ (below2_Efc HB5.out HQ0.out)).mono ?_;rintro e w6 ⟨rfl,hba⟩)
         have HQ6:=hid (below2_Efc HQ0.out hba);clear hba;refine hK.out _ _ HQ6.out (fun hHeld2=> ?_);clear hK K9 hHeld
         rename _=>hHeld
         refine' wpAnyH_take (i:=3) (oi:=⟨some 33,_,_,_,_,_⟩) (v:=_) rfl (by kernel_rfl) (by kernel_rfl) (by kernel_rfl) (fun _ _ _ h=>h) (Or.inl ⟨by kernel_rfl,?hytd2⟩) (by assumption) ?resttd2
         case hytd2=>(intro wx hSw;(try dsimp only at hSw);obtain ⟨f1,f2,f3⟩:=HKF.out _ hSw;go_simp;first | done | with_reducible rfl)
         (try simp only [Act.put,List.setIfInBounds_toArray,List.set_cons_zero,List.set_cons_succ])
         refine' wpAnyH_take (i:=4) (oi:=⟨some 34,_,_,_,_,_⟩) (v:=_) rfl (by kernel_rfl) (by kernel_rfl) (by kernel_rfl) (fun _ _ _ h=>h) (Or.inl ⟨by kernel_rfl,?hytd3⟩) (by assumption) ?resttd3
         case hytd3=>(intro wx hSw;(try dsimp only at hSw);obtain ⟨f1,f2,f3⟩:=HKF.out _ hSw;go_simp;first | done | with_reducible rfl)
         (try simp only [Act.put,List.setIfInBounds_toArray,List.set_cons_zero,List.set_cons_succ])
         refine' wpAnyH_take (i:=5) (oi:=⟨some 35,_,_,_,_,_⟩) (v:=_) rfl (by kernel_rfl) (by kernel_rfl) (by kernel_rfl) (fun _ _ _ h=>h) (Or.inl ⟨by kernel_rfl,?hytd4⟩) (by assumption) ?resttd4
         case hytd4=>(intro wx hSw;(try dsimp only at hSw);obtain ⟨f1,f2,f3⟩:=HKF.out _ hSw;go_simp;first | done | with_reducible rfl)
         (try simp only [Act.put,List.setIfInBounds_toArray,List.set_cons_zero,List.set_cons_succ])
         refine' wpAnyH_take (i:=6) (oi:=⟨some 36,_,_,_,_,_⟩) (v:=_) rfl (by kernel_rfl) (by kernel_rfl) (by kernel_rfl) (fun _ _ _ h=>h) (Or.inl ⟨by kernel_rfl,?hytd5⟩) (by assumption) ?resttd5
         case hytd5=>(intro wx hSw;(try dsimp only at hSw);obtain ⟨f1,f2,f3⟩:=HKF.out _ hSw;go_simp;first | done | with_reducible rfl)
         (try simp only [Act.put,List.setIfInBounds_toArray,List.set_cons_zero,List.set_cons_succ])
         refine' wpAnyH_take (i:=7) (oi:=⟨some 37,_,_,_,_,_⟩) (v:=_) rfl (by kernel_rfl) (by kernel_rfl) (by kernel_rfl) (fun _ _ _ h=>h) (Or.inl ⟨by kernel_rfl,?hytd6⟩) (by assumption) ?resttd6
         case hytd6=>(intro wx hSw;(try dsimp only at hSw);obtain ⟨f1,f2,f3⟩:=HKF.out _ hSw;go_simp;first | done | with_reducible rfl)
         (try simp only [Act.put,List.setIfInBounds_toArray,List.set_cons_zero,List.set_cons_succ])
         refine' wpAnyH_take (i:=8) (oi:=⟨some 38,_,_,_,_,_⟩) (v:=_) rfl (by kernel_rfl) (by kernel_rfl) (by kernel_rfl) (fun _ _ _ h=>h) (Or.inl ⟨by kernel_rfl,?hytd7⟩) (by assumption) ?resttd7
         case hytd7=>(intro wx hSw;(try dsimp only at hSw);obtain ⟨f1,f2,f3⟩:=HKF.out _ hSw;go_simp;first | done | with_reducible rfl)
         (try simp only [Act.put,List.setIfInBounds_toArray,List.set_cons_zero,List.set_cons_succ])
         refine' wpAnyH_take (i:=9) (oi:=⟨some 39,_,_,_,_,_⟩) (v:=_) rfl (by kernel_rfl) (by kernel_rfl) (by kernel_rfl) (fun _ _ _ h=>h) (Or.inl ⟨by kernel_rfl,?hytd8⟩) (by assumption) ?resttd8
         case hytd8=>(intro wx hSw;(try dsimp only at hSw);obtain ⟨f1,f2,f3⟩:=HKF.out _ hSw;go_simp;first | done | with_reducible rfl)
         (try simp only [Act.put,List.setIfInBounds_toArray,List.set_cons_zero,List.set_cons_succ])
         refine' wpAnyH_take (i:=10) (oi:=⟨some 40,_,_,_,_,_⟩) (v:=_) rfl (by kernel_rfl) (by kernel_rfl) (by kernel_rfl) (fun _ _ _ h=>h) (Or.inl ⟨by kernel_rfl,?hytd9⟩) (by assumption) ?resttd9
         case hytd9=>(intro wx hSw;(try dsimp only at hSw);obtain ⟨f1,f2,f3⟩:=HKF.out _ hSw;go_simp;first | done | with_reducible rfl)
         (try simp only [Act.put,List.setIfInBounds_toArray,List.set_cons_zero,List.set_cons_succ])
         refine' wpAnyH_take (i:=11) (oi:=⟨some 41,_,_,_,_,_⟩) (v:=_) rfl (by kernel_rfl) (by kernel_rfl) (by kernel_rfl) (fun _ _ _ h=>h) (Or.inl ⟨by kernel_rfl,?hytd10⟩) (by assumption) ?resttd10
         case hytd10=>(intro wx hSw;(try dsimp only at hSw);obtain ⟨f1,f2,f3⟩:=HKF.out _ hSw;go_simp;first | done | with_reducible rfl)
         (try simp only [Act.put,List.setIfInBounds_toArray,List.set_cons_zero,List.set_cons_succ])
         refine' wpAnyH_take (i:=12) (oi:=⟨some 42,_,_,_,_,_⟩) (v:=_) rfl (by kernel_rfl) (by kernel_rfl) (by kernel_rfl) (fun _ _ _ h=>h) (Or.inl ⟨by kernel_rfl,?hytd11⟩) (by assumption) ?resttd11
         case hytd11=>(intro wx hSw;(try dsimp only at hSw);obtain ⟨f1,f2,f3⟩:=HKF.out _ hSw;go_simp;first | done | with_reducible rfl)
         (try simp only [Act.put,List.setIfInBounds_toArray,List.set_cons_zero,List.set_cons_succ])
         refine' wpAnyH_take (i:=13) (oi:=⟨some 43,_,_,_,_,_⟩) (v:=_) rfl (by kernel_rfl) (by kernel_rfl) (by kernel_rfl) (fun _ _ _ h=>h) (Or.inl ⟨by kernel_rfl,?hytd12⟩) (by assumption) ?resttd12
         case hytd12=>(intro wx hSw;(try dsimp only at hSw);obtain ⟨f1,f2,f3⟩:=HKF.out _ hSw;go_simp;first | done | with_reducible rfl)
         (try simp only [Act.put,List.setIfInBounds_toArray,List.set_cons_zero,List.set_cons_succ])
         refine' wpAnyH_take (i:=14) (oi:=⟨some 44,_,_,_,_,_⟩) (v:=_) rfl (by kernel_rfl) (by kernel_rfl) (by kernel_rfl) (fun _ _ _ h=>h) (Or.inl ⟨by kernel_rfl,?hytd13⟩) (by assumption) ?resttd13
         case hytd13=>(intro wx hSw;(try dsimp only at hSw);obtain ⟨f1,f2,f3⟩:=HKF.out _ hSw;go_simp;first | done | with_reducible rfl)
         (try simp only [Act.put,List.setIfInBounds_toArray,List.set_cons_zero,List.set_cons_succ])
         refine' wpAnyH_take (i:=15) (oi:=⟨some 45,_,_,_,_,_⟩) (v:=_) rfl (by kernel_rfl) (by kernel_rfl) (by kernel_rfl) (fun _ _ _ h=>h) (Or.inl ⟨by kernel_rfl,?hytd14⟩) (by assumption) ?resttd14
         case hytd14=>(intro wx hSw;(try dsimp only at hSw);obtain ⟨f1,f2,f3⟩:=HKF.out _ hSw;go_simp;first | done | with_reducible rfl)
         (try simp only [Act.put,List.setIfInBounds_toArray,List.set_cons_zero,List.set_cons_succ])
         refine' wpAnyH_take (i:=16) (oi:=⟨some 46,_,_,_,_,_⟩) (v:=_) rfl (by kernel_rfl) (by kernel_rfl) (by kernel_rfl) (fun _ _ _ h=>h) (Or.inl ⟨by kernel_rfl,?hytd15⟩) (by assumption) ?resttd15
         case hytd15=>(intro wx hSw;(try dsimp only at hSw);obtain ⟨f1,f2,f3⟩:=HKF.out _ hSw;go_simp;first | done | with_reducible rfl)
         (try simp only [Act.put,List.setIfInBounds_toArray,List.set_cons_zero,List.set_cons_succ])
         refine' wpAnyH_take (i:=17) (oi:=⟨some 47,_,_,_,_,_⟩) (v:=_) rfl (by kernel_rfl) (by kernel_rfl) (by kernel_rfl) (fun _ _ _ h=>h) (Or.inl ⟨by kernel_rfl,?hytd16⟩) (by assumption) ?resttd16
         case hytd16=>(intro wx hSw;(try dsimp only at hSw);obtain ⟨f1,f2,f3⟩:=HKF.out _ hSw;go_simp;first | done | with_reducible rfl)
         (try simp only [Act.put,List.setIfInBounds_toArray,List.set_cons_zero,List.set_cons_succ])
         refine' wpAnyH_take (i:=18) (oi:=⟨some 48,_,_,_,_,_⟩) (v:=_) rfl (by kernel_rfl) (by kernel_rfl) (by kernel_rfl) (fun _ _ _ h=>h) (Or.inl ⟨by kernel_rfl,?hytd17⟩) (by assumption) ?resttd17
         case hytd17=>(intro wx hSw;(try dsimp only at hSw);obtain ⟨f1,f2,f3⟩:=HKF.out _ hSw;go_simp;first | done | with_reducible rfl)
         (try simp only [Act.put,List.setIfInBounds_toArray,List.set_cons_zero,List.set_cons_succ])
         refine' wpAnyH_take (i:=19) (oi:=⟨some 49,_,_,_,_,_⟩) (v:=_) rfl (by kernel_rfl) (by kernel_rfl) (by kernel_rfl) (fun _ _ _ h=>h) (Or.inl ⟨by kernel_rfl,?hytd18⟩) (by assumption) ?resttd18
         case hytd18=>(intro wx hSw;(try dsimp only at hSw);obtain ⟨f1,f2,f3⟩:=HKF.out _ hSw;go_simp;first | done | with_reducible rfl)
         (try simp only [Act.put,List.setIfInBounds_toArray,List.set_cons_zero,List.set_cons_succ])
         refine wpAnyH_done (by kernel_rfl) ?_ _
         have HE:=hid (show AtIs (bestV (meantV u.data.toList A) C.rows (k+1)) (a:Int)∧Below w3.heap.size w3 w6 from ⟨.inr ⟨a,HN2.out,rfl⟩,below2_Efc HR.out.2 (below2_Efc HB5.out HQ6.out)⟩)
         go_wp2_with fail
         go_roundw
         case rel=>
          first
           | exact ⟨k+1,(a:Int),by go_num,rfl,by omega,HE.out⟩
           | ((repeat apply Exists.intro);exact ⟨⟨k+1,(a:Int),by go_num,rfl,by omega,HE.out⟩,rfl⟩)
         case measure=>simp [intOf];omega
    ·obtain rfl:k=n:=by omega
     have hin:decide ((k:Int)<(k:Int))=false:=by simp
     have HBwr:=hid (below2_Efc HBw3.out HR.out.2);have HB1r:=hid (below2_Efc HB3.out HR.out.2);rcases HR.out.1 with ⟨hb0,rfl⟩ | ⟨a,hb0,rfl⟩
     ·have HTn:=hid (show takeV C u.data.toList A=none by rw [HTV.out,hb0];rfl)
      clear HTV hb0 hlt;have HThW:=hid (HTh.out wr HB1r.out);obtain ⟨WZ,hWZ⟩: ∃ X,X=wr.setCells w.heap.size 0 [.string ⟨#[]⟩,.slice none 0 0,.int .i64 0,.slice none 0 0,.slice none 0 0,.int .i64 0,.int .i64 0]:=⟨_,rfl⟩
      have HWZ:=hid hWZ;have HFin:=hid (show WZ.rangeAt w.heap.size 0 [.string ⟨#[]⟩,.slice none 0 0,.int .i64 0,.slice none 0 0,.slice none 0 0,.int .i64 0,.int .i64 0]∧Below w.heap.size w WZ by
       rw [hWZ];exact ⟨World.rangeAt_setCells_same _ _ _ _ HThW.out,below_setC17 (Nat.le_refl _) _ 0 _ (below2_Efc HB1.out HB1r.out)⟩)
      clear hWZ
      go_wp2_with (refine wpList_store_mid rfl 92 (.tmp 6) (.tmp 54) rfl w.heap.size 0 #[.string ⟨#[]⟩,.slice none 0 0,.int .i64 0,.slice none 0 0,.slice none 0 0,.int .i64 0,.int .i64 0] rfl rfl HThW.out sizeRw HZ1.out ?_;refine wpList_world17 HWZ.out ?_)
      exact bodyPost_ret (results_z2 rfl _ _ w.heap.size [.string ⟨#[]⟩,.slice none 0 0,.int .i64 0,.slice none 0 0,.slice none 0 0,.int .i64 0,.int .i64 0] rfl rfl HFin.out.1) rfl (.inl ⟨HTn.out,rfl,HFin.out.2⟩)
     ·have hal:=bestV_lt _ _ _ _ hb0
      have hak:a<k:=hal.1;have haZ:a<Z.length:=by have:=HN.out;omega
      have haz:(a:Int)<(k:Int):=by omega
      have ha0: ¬ ((a:Int)<0):=by omega
      obtain ⟨g,hgb,hr⟩:=own_range17 (HOY.out wr HBwr.out) a haZ
      obtain rfl:a0=some ⟨g,0,none⟩:=by
       rcases (HOY.out wr HBwr.out).2 with ⟨_,h0⟩ | ⟨g',cap',cur,hv,_⟩
       ·omega
       ·injection hv with e1 _ _
        subst e1;simp [Value.ownBlock] at hgb;rw [hgb]
      obtain ⟨z,hzk⟩: ∃ z,z=Z[a]:=⟨_,rfl⟩
      rw [← hzk] at hr;have hzm:z ∈ Z:=by rw [hzk];exact List.getElem_mem haZ
      have hzC:C.rows[a]? = some z.r:=by rw [← HZ.out,List.getElem?_map,List.getElem?_eq_getElem haZ,← hzk];rfl
      have HTs:=hid (show takeV C u.data.toList A=some (z.r,C.rows.eraseIdx a) by rw [HTV.out,hb0];show (C.rows[a]?).map _=_;rw [hzC];rfl);have hdz:=HDen.out z hzm;have HZm:=hid hzm;obtain ⟨ca,cc,ha,hc,ba,bc,f1,f2,f3⟩:=hdz.form
      obtain ⟨R,zc,zh,zb⟩:=z
      dsimp only at f1 f2 f3;subst f1 f2 f3;obtain ⟨U,hU⟩: ∃ U:ByteArray,(⟨R.url.toArray⟩:ByteArray)=U:=⟨_,rfl⟩
      obtain ⟨cn,hcn⟩: ∃ n,n=R.ch.length:=⟨_,rfl⟩
      obtain ⟨hn',hhn⟩: ∃ n,n=R.rp.hd.length:=⟨_,rfl⟩
      obtain ⟨bn,hbn⟩: ∃ n,n=R.rp.bd.length:=⟨_,rfl⟩
      obtain ⟨s1,hs1⟩: ∃ n,n=R.rp.st:=⟨_,rfl⟩
      obtain ⟨s2,hs2⟩: ∃ n,n=R.sto:=⟨_,rfl⟩
      obtain ⟨s3,hs3⟩: ∃ n,n=R.tn:=⟨_,rfl⟩
      rw [← hcn,← hhn,← hbn] at hr HZm;dsimp only at HTs;have HCs:=hid (show zCells ⟨R,.slice ca cn cc,.slice ha hn' hc,.slice ba bn bc⟩=[.string U,.slice ca cn cc,.int .i64 s1,.slice ha hn' hc,.slice ba bn bc,.int .i64 s2,.int .i64 s3] by unfold zCells;rw [← hU,← hs1,← hs2,← hs3]);rw [HCs.out] at hr;have HRg:=hid hr;have HOne:=hid (all_oneCell_toArray (cs:=[.string U,.slice ca cn cc,.int .i64 s1,.slice ha hn' hc,.slice ba bn bc,.int .i64 s2,.int .i64 s3]) (by intro v hv;simp at hv;rcases hv with rfl | rfl | rfl | rfl | rfl | rfl | rfl<;>rfl))
      obtain ⟨W5,hW5⟩: ∃ X,wr.alloc (.cells #[.string U,.slice ca cn cc,.int .i64 s1,.slice ha hn' hc,.slice ba bn bc,.int .i64 s2,.int .i64 s3] 92)=X:=⟨_,rfl⟩
      have HB5:=hid (show Below wr.heap.size wr W5 by rw [← hW5];exact (Below.refl _ wr).alloc (Nat.le_refl _) _);have HX5:=hid (show W5.heap[wr.heap.size]? = some (.cells #[.string U,.slice ca cn cc,.int .i64 s1,.slice ha hn' hc,.slice ba bn bc,.int .i64 s2,.int .i64 s3] 92 (0,0)) by rw [← hW5];exact heap_alloc_new wr _);have HBw5:=hid (below2_Efc HBwr.out HB5.out);have HB15:=hid (below2_Efc HB1r.out HB5.out)
      have HDl:=hid (show Calls Tryz.prog 54 #[.slice (some ⟨g,0,none⟩) k c,.int .i64 (a:Int),.int .i64 ((a:Int)+1)] W5 fun e w'=>e = .returned (.slice (some ⟨g,0,none⟩) (k - 1) c)∧w'.ownsRow (p+1) 92 7 (.slice (some ⟨g,0,none⟩) (k - 1) c) (k - 1) (cellsZ (Z.eraseIdx a))∧W5.grownBy w' (some g) from by
       have h0:=HOY.out W5 HBw5.out;rw [HN.out] at h0 ⊢;have:=delete17_any g c a (a+1) rfl Z W5 (p+1) h0 haZ (by have:=HN.out;omega) (fun z hz=>by
        obtain ⟨ca,cc,ha,hc,ba,bc,f1,f2,f3⟩:=(HDen.out z hz).form
        exact ⟨_,_,_,_,_,_,_,_,_,f1,f2,f3⟩)
       rw [show ((a+1:Nat):Int)=(a:Int)+1 by omega] at this;exact this)
      have d0:wr.cell? ⟨p,0,none⟩=some (.slice (some ⟨g,0,none⟩) k c):=by rw [Lib.cell_of_heap (HRY.out wr HBwr.out)];rfl
      have HGq:=hid (HGb.out g rfl);clear hb0 hal hr hzk hzm hzC hdz hU hcn hhn hbn hs1 hs2 hs3 hgb HTV hlt;have d5:W5.cell? ⟨p,0,none⟩=some (.slice (some ⟨g,0,none⟩) k c):=by rw [Lib.cell_of_heap (HRY.out W5 HBw5.out)];rfl
      go_wp2_with (refine wpList_load_mid rfl 92 (.tmp 60) rfl g (a*7) rfl [.string U,.slice ca cn cc,.int .i64 s1,.slice ha hn' hc,.slice ba bn bc,.int .i64 s2,.int .i64 s3] _ HRg.out Tryz.underlying92 rfl sizeRw ?_)
      refine HDl.out.mono ?_;rintro e w5 ⟨rfl,ho5,hgr5⟩
      have hr5:w5.heap[p]? = some (.cells #[.slice (some ⟨g,0,none⟩) k c,.int .i64 C.tn] 81 (0,0)):=by
       have h0:=HRY.out W5 HBw5.out;have hgp:=(ho5.lt g rfl).1;rw [hgr5.block p (Array.getElem?_eq_some_iff.1 h0).1 (fun e=>by injection e with e;omega)];exact h0
      have e0:w5.cell? ⟨p,0,none⟩=some (.slice (some ⟨g,0,none⟩) k c):=by rw [Lib.cell_of_heap hr5];rfl
      have y0:w5.frozen? ⟨p,0,none⟩=false:=Lib.frozen_of_heap hr5 0
      obtain ⟨W6,hW6⟩: ∃ X,w5.setCell ⟨p,0,none⟩ (.slice (some ⟨g,0,none⟩) (k - 1) c)=X:=⟨_,rfl⟩
      have hpw:p<w.heap.size:=by have:=HI.out.1;omega
      have hx6:W6.heap[wr.heap.size]? = some (.cells #[.string U,.slice ca cn cc,.int .i64 s1,.slice ha hn' hc,.slice ba bn bc,.int .i64 s2,.int .i64 s3] 92 (0,0)):=by
       have h1:=HBwr.out.size;have h2:=HGq.out;rw [← hW6,heap_setCell_other _ _ _ _ (by show wr.heap.size≠p;omega),hgr5.block _ (Array.getElem?_eq_some_iff.1 HX5.out).1 (fun e=>by injection e with e;omega)];exact HX5.out
      have HR6:=hid (range_row_Cb (cs:=[.string U,.slice ca cn cc,.int .i64 s1,.slice ha hn' hc,.slice ba bn bc,.int .i64 s2,.int .i64 s3]) hx6);have hq6:W6.heap[w.heap.size]? = some (.cells #[.string ⟨#[]⟩,.slice none 0 0,.int .i64 0,.slice none 0 0,.slice none 0 0,.int .i64 0,.int .i64 0] 92 (0,0)):=by
       have h0:=HQY.out W5 HB15.out;have h2:=HGq.out;rw [← hW6,heap_setCell_other _ _ _ _ (by show w.heap.size≠p;omega),hgr5.block _ (Array.getElem?_eq_some_iff.1 h0).1 (fun e=>by injection e with e;omega)];exact h0
      have HT6:=hid (show W6.there w.heap.size 0 7 from fun t ht=>⟨by rw [Nat.zero_add,Lib.cell_of_heap hq6];simp;omega,Lib.frozen_of_heap hq6 _⟩);obtain ⟨W7,hW7⟩: ∃ X,X=W6.setCells w.heap.size 0 [.string U,.slice ca cn cc,.int .i64 s1,.slice ha hn' hc,.slice ba bn bc,.int .i64 s2,.int .i64 s3]:=⟨_,rfl⟩
      have HW7:=hid hW7;have HFin:=hid (show W7.rangeAt w.heap.size 0 [.string U,.slice ca cn cc,.int .i64 s1,.slice ha hn' hc,.slice ba bn bc,.int .i64 s2,.int .i64 s3]∧CaI G W7 p W7.heap.size ⟨C.rows.eraseIdx a,C.tn⟩∧TqC p w W7 ∧ ∀ z ∈ Z,DenZ G W7 (p+1) W7.heap.size z from by
       have h0:=HRY.out W5 HBw5.out;have h9:=HQY.out W5 HB15.out;have hd:=del17 (w:=w) (W:=W5) (w5:=w5) (W':=W7) (p:=p) (M:=M) (g:=g) (c:=c) (a:=a) (n:=k) (q0:=w.heap.size) HI.out HBw5.out HZ.out HNC.out hak HDen.out h0 (HOY.out W5 HBw5.out) ho5 hgr5 [.string U,.slice ca cn cc,.int .i64 s1,.slice ha hn' hc,.slice ba bn bc,.int .i64 s2,.int .i64 s3] (Nat.le_refl _) ⟨_,_,h9⟩ HGq.out (by rw [hW7,← hW6])
       exact ⟨by rw [hW7];exact World.rangeAt_setCells_same _ _ _ _ HT6.out,hd.1,hd.2.1,hd.2.2⟩)
      clear ho5 hgr5 hr5 hx6 hq6 hW7 hW5 d0 d5
      go_wp2_with (first | (refine wpList_load_mid rfl 92 (.tmp 12) rfl wr.heap.size 0 rfl [.string U,.slice ca cn cc,.int .i64 s1,.slice ha hn' hc,.slice ba bn bc,.int .i64 s2,.int .i64 s3] _ HR6.out Tryz.underlying92 rfl sizeRw ?_) | (refine wpList_store_mid rfl 92 (.tmp 6) (.tmp 73) rfl w.heap.size 0 #[.string U,.slice ca cn cc,.int .i64 s1,.slice ha hn' hc,.slice ba bn bc,.int .i64 s2,.int .i64 s3] rfl rfl HT6.out sizeRw HOne.out ?_;refine wpList_world17 HW7.out ?_))
      refine bodyPost_ret (results_z2 rfl _ _ w.heap.size [.string U,.slice ca cn cc,.int .i64 s1,.slice ha hn' hc,.slice ba bn bc,.int .i64 s2,.int .i64 s3] rfl rfl HFin.out.1) rfl (.inr ⟨⟨R,.slice ca cn cc,.slice ha hn' hc,.slice ba bn bc⟩,C.rows.eraseIdx a,HTs.out,?_,HFin.out.2.2.2 _ HZm.out,HFin.out.2.1,HFin.out.2.2.1⟩);unfold zVal;rw [HCs.out];rfl

end Go.Proofs.YtpopljcmkbchcaaGreatDoor
