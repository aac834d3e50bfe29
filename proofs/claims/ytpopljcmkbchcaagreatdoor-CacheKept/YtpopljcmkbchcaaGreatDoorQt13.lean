/-
  Walks and plain facts that this claim leans on, put together out of 1 texts: Ehk.
-/
import Derived.Test.YtpopljcmkbchcaaGreatDoorProg
import Derived.Test.YtpopljcmkbchcaaGreatDoorQt1
import Derived.Test.YtpopljcmkbchcaaGreatDoorQt2
import Derived.Test.YtpopljcmkbchcaaGreatDoorQt3
import Derived.Test.YtpopljcmkbchcaaGreatDoorQt4
import Derived.Test.YtpopljcmkbchcaaGreatDoorQt5
import Derived.Test.YtpopljcmkbchcaaGreatDoorQt6
import Derived.Test.YtpopljcmkbchcaaGreatDoorQt7
import Derived.Test.YtpopljcmkbchcaaGreatDoorQt8
import Derived.Test.YtpopljcmkbchcaaGreatDoorQt9
import Derived.Test.YtpopljcmkbchcaaGreatDoorQt10
import Derived.Test.YtpopljcmkbchcaaGreatDoorQt11
import Derived.Test.YtpopljcmkbchcaaGreatDoorQt12
import Derived.BigRegion
import Derived.Deep.RegionHeld
import Derived.Deep.RegionHeldLaw
import Derived.Lib.IndexAny
import Derived.WalkKit
import Derived.Lib.UnsafeStr
import Derived.Lib.BufferRead
import Derived.Lib.RuneBytes
import Derived.Laws.RangeAny
import Derived.Deep.LoopGhost
import Derived.Maps.OwnSet
import Derived.Maps.OwnOps
import Derived.Maps.AppendAt
import Derived.StringKeys
import Derived.BigQuiet
import Derived.Deep.QuietTactic
import Derived.LoopN
import Derived.RegionTactic
import Derived.Deep.RegionLaw
import Derived.Deep.RegionWith
import Derived.WalkSpells
import Derived.WalkLawsBesides
import Derived.Lib.FieldsP
import Derived.Lib.DecodeN
import Derived.Lib.IndexMore
import Derived.Lib.Join
import Derived.Lib.SmallJoins
import Derived.Laws.CopyOwn
import Derived.Laws.ResultCell
import Derived.Deep.MidRow
import Derived.Laws.OwnMore
import Derived.Below
import Derived.WalkSmall
import Derived.Lib.LaidTab
import Derived.Lib.AppendIntMem
import Derived.Laws.AppendOwn
import Derived.Laws.Runes
import Derived.Lib.OthersKept
import Derived.Lib.FrozenHead2
import Derived.Lib.Builder
import Derived.Lib.AppendStr
import Derived.Lib.Replace
import Derived.Shelf.GgClosure.GivesRunes
import Derived.Laws.BitsAll
import Derived.Laws.Shifts
import Derived.Deep.DeepAppendRoom
import Derived.Laws.IdiomStrings
import Derived.Laws.BytesString
import Derived.Laws.CopyRow
import Derived.Sort.OwnSorted
import Derived.Lib.SlicesCompact
import Derived.Shelf.Slices.In.SortNone
import Derived.Shelf.Slices.CompactS
import Derived.Lib.SliceRun
import Derived.Lib.Strings
import Derived.Laws.BitsAllLaws
import Derived.Lib.Bytealg
import Derived.Lib.BufferMore
import Derived.Shelf.Strings.Builder1
import Derived.Shelf.Strings.Builder2
import Derived.Shelf.Strings.OnBuilder
import Derived.Shelf.Strings.Trim
import Derived.Shelf.Small.Utf8
import Derived.Shelf.Small.Bits
import Derived.Shelf.Small.Strs
import Derived.Shelf.Small.Wraps
import Derived.Shelf.Strings.BuilderF
import Derived.Shelf.Strings.BuilderK
import Derived.Shelf.Strings.BuilderRune
import Derived.Shelf.Utf8.AppendRune
import Derived.Shelf.Utf8.AppendRunePlain
import Derived.Shelf.Strings.Builder2Cap
import Derived.Shelf.Strconv.Itoa0
import Derived.Shelf.Strconv.Itoa1
import Derived.Shelf.LaysM
import Derived.Shelf.Strconv.Itoa2
import Derived.Shelf.Strconv.Itoa3
import Derived.Shelf.Strings.Search1
import Derived.Shelf.Strings.Search2
import Derived.Shelf.Strings.Cut
import Derived.Shelf.Strings.Shaped
import Derived.Shelf.Sort.Plain
import Derived.Shelf.Strings.Prefix
import Derived.Shelf.Unicode.Latin
import Derived.Shelf.Strings.Runes
import Derived.Shelf.Strings.IndexAny
import Derived.Shelf.Strings.AsciiSet
import Derived.Shelf.Strings.IndexAnyAll
import Derived.Shelf.Unicode.DecodeSlow
import Derived.Shelf.Unicode.DecodeAny
import Derived.Shelf.Unicode.DecodeLast
import Derived.Shelf.Unicode.CaseLookup
import Derived.Shelf.Unicode.CaseConvert
import Derived.Shelf.Unicode.CaseTo
import Derived.Shelf.Unicode.CaseLaid
import Derived.Lib.SlTrimSet
import Derived.Shelf.Strings.SlTrimAscii
import Derived.Deep.CutRange
import Derived.Laws.Rows
import Derived.Laws.MakeOwn
import Derived.Deep.WholeRow
import Derived.Laws.AppendOwnNone
set_option linter.unusedSimpArgs false
set_option linter.unusedVariables false

namespace Go.Proofs.YtpopljcmkbchcaaGreatDoor
open Go.RowKit

variable {G : Nat → Prop}

theorem TxAt.same17 {w w':World} {v:Value} {L:List (List UInt8)} (h:TxAt w v L) (hk: ∀ g,v.ownBlock=some g→g<w.heap.size→w'.heap[g]? = w.heap[g]?):TxAt w' v L:=by
 obtain ⟨a,cap,rfl,h2,h3,h4⟩:=h
 refine ⟨a,cap,rfl,h2,h3,fun j hj=> ?_⟩
 obtain ⟨b,off,e,c1⟩:=h4 j hj
 have hb:=hk b (by rw [e];rfl) (World.block_lt_of_cell? w _ c1)
 exact ⟨b,off,e,(World.cell?_of_block (a:=⟨b,off+j,none⟩) hb).trans c1⟩

def BdT (p:Nat) (w:World) (v:Value) (l:List UInt8):Prop:=RwAt 1 w v l.length (cellsB l)∧(l=[] ∨ ∀ g,v.ownBlock=some g→g<p ∨ ∃ cur fz,w.heap[g]? = some (Obj.cells cur 5 fz))

theorem RwAt.same17 {k:Nat} {w w':World} {v:Value} {n:Nat} {xs:List Value} (h:RwAt k w v n xs) (hk: ∀ g,v.ownBlock=some g→w'.heap[g]? = w.heap[g]?):RwAt k w' v n xs:=by
 obtain ⟨h1,a,c,rfl,h2,h3,h4⟩:=h
 refine ⟨h1,a,c,rfl,h2,h3,?_⟩
 rcases h4 with h4 | ⟨ad,rfl,h4⟩
 ·exact .inl h4
 ·refine .inr ⟨ad,rfl,fun j u hu=> ?_⟩
  have hb:=hk ad.block rfl;have e:(ad.add j).block=ad.block:=by unfold Addr.add;split<;>rfl
  exact (World.cell?_of_block (a:=ad.add j) (by rw [e];exact hb)).trans (h4 j u hu)

theorem RwAt.nought17 {k:Nat} {w w':World} {v:Value} {n:Nat} {xs:List Value} (h:RwAt k w v n xs) (hx:xs=[]):RwAt k w' v n xs:=by
 obtain ⟨h1,a,c,rfl,h2,h3,h4⟩:=h
 refine ⟨h1,a,c,rfl,h2,h3,?_⟩
 rcases h4 with h4 | ⟨ad,rfl,h4⟩
 ·exact .inl h4
 ·exact .inr ⟨ad,rfl,fun j u hu=>by rw [hx] at hu;simp at hu⟩

theorem BdT.tq {p:Nat} {w w':World} {v:Value} {l:List UInt8} (h:BdT p w v l) (hq:TqC p w w'):BdT p w' v l:=by
 rcases h.2 with h0 | h2
 ·exact ⟨h.1.nought17 (by rw [h0];rfl),.inl h0⟩
 ·have hk: ∀ g,v.ownBlock=some g→w'.heap[g]? = w.heap[g]? :=fun g hg=>by
   rcases h2 g hg with hg | ⟨cur,fz,hc⟩
   ·exact hq.1.block g hg
   ·exact hq.2 g _ _ _ hc (by decide) (by decide)
  exact ⟨h.1.same17 hk,.inr fun g hg=>by rw [hk g hg];exact h2 g hg⟩

theorem BdT.kept {p:Nat} {w w':World} {v:Value} {l:List UInt8} (h:BdT p w v l) (hb:Below w.heap.size w w'):BdT p w' v l:=by
 refine ⟨h.1.kept hb,?_⟩;rcases h.2 with h0 | h2
 ·exact .inl h0
 ·refine .inr fun g hg=> ?_
  rcases h2 g hg with hg | ⟨cur,fz,hc⟩
  ·exact .inl hg
  ·exact .inr ⟨cur,fz,(hb.block g (Array.getElem?_eq_some_iff.1 hc).1).trans hc⟩

theorem slB_bdt {p:Nat} {w:World} {a:Option Addr} {len cap:Nat} {l:List UInt8} (hS:SlB_Cb w (.slice a len cap) l) (hl:l.length=len) (hc:len≤cap) (hm:cap≤maxLen) (hp:w.heap.size≤p):BdT p w (.slice a len cap) l:=by
 subst hl;rcases hS with ⟨c,hv,rfl⟩ | ⟨x,c,hv,hcell⟩
 ·refine ⟨⟨rfl,a,cap,rfl,hc,hm,?_⟩,.inl rfl⟩
  have:a=none:=by simp only [Value.slice.injEq] at hv;exact hv.1
  exact .inl ⟨this,rfl⟩
 ·obtain rfl:a=some x:=by simp only [Value.slice.injEq] at hv;exact hv.1
  refine ⟨⟨by simp [cellsB],some x,cap,rfl,hc,hm,.inr ⟨x,rfl,fun j u hu=> ?_⟩⟩,?_⟩
  ·obtain ⟨hj,rfl⟩:=List.getElem?_eq_some_iff.1 hu
   have hj2:j<l.length:=by simpa [cellsB] using hj
   rw [hcell j hj2];simp [cellsB]
  ·by_cases h0:l=[]
   ·exact .inl h0
   ·have hpos:0<l.length:=by cases l with | nil=>exact absurd rfl h0 | cons=>simp
    refine .inr fun g hg=> .inl ?_
    injection hg with hg
    subst hg;have h1:=World.block_lt_of_cell? w _ (hcell 0 hpos);have e:(x.add 0).block=x.block:=by unfold Addr.add;split<;>rfl
    rw [e] at h1;omega

theorem sizeRp:(Tryz.prog.info? 30).map (·.size)=some 3:=by kernel_rfl

theorem enters_m1: ∀ args w,(callFunc 105 args).run Tryz.prog w = .ok (.enter 105 args) w:=enters_of Tryz.func105 (by kernel_rfl) rfl

theorem varV_small {L:List Hd} (h:Hk L):(varV (pcsV L nVy)).length≤1000000 ∧ ∀ x ∈ varV (pcsV L nVy),x.length≤1000000:=by
 obtain ⟨h1,h2⟩:=pcsV_len16 L nVy
 have hb:bulkV L≤262272:=by
  have h2:=h.2.bulk;have h3:(4096+2)*L.length≤4098*64:=Nat.mul_le_mul_left _ h.1;omega
 unfold varV;split
 ·have hl:=srtN_len16 (vrS (pcsV L nVy))
  have hv:=vrS_len (pcsV L nVy);refine ⟨by omega,fun x hx=> ?_⟩
  have hm:=((srtN_facts (vrS (pcsV L nVy))).2.1 x).1 hx;have:=vrS_szd (pcsV L nVy) (bulkV L) h2 x hm;omega
 ·exact ⟨by simp,fun x hx=>by simp at hx⟩

def PutP (G:Nat→Prop) (p:Nat) (C:CaS) (u:List UInt8) (A:List Hd) (r:Rep) (now:Int) (w:World) (e:Ending) (w':World):Prop:=
 e = .returned (.bool (putOk A r))∧CaI G w' p w'.heap.size (putV C u A r now)∧TqC p w w'

theorem put_no {p M:Nat} {C:CaS} {u:List UInt8} {A:List Hd} {r:Rep} {now:Int} {w w':World} (hI:CaI G w p M C) (hb:Below w.heap.size w w') (h:putOk A r=false):PutP G p C u A r now w (.returned (.bool false)) w':=by
 have hp:=hI.1.1;have hm:=hI.1.2.1;refine ⟨by rw [h],?_,Tq.below hb (by omega)⟩
 unfold putV;rw [h];exact (hI.kept (hb.mono hm)).size

set_option maxHeartbeats 4000000 in
set_option maxRecDepth 100000 in
theorem put17_any (p M:Nat) (C:CaS) (u:ByteArray) (vA:Value) (A:List Hd) (st:Int) (vh vb:Value) (L:List Hd) (l:List UInt8) (now:Int) (w:World) (hI:CaI Tr17 w p M C) (hG:CaG C) (hA:HdT w vA A) (hz:Szo A) (hh:HdT w vh L) (hk:Hk L) (hb:BdT p w vb l) (hl:l.length≤1000000):
 Calls Tryz.prog 15 #[.pointer (some ⟨p,0,none⟩),.string u,vA,.agg #[.int .i64 st,vh,vb],.int .i64 now] w (PutP Tr17 p C u.data.toList A ⟨st,L,l⟩ now w):=by
 have HI:=hid hI;have HA:=hid hA;have HH:=hid hh;have HBd:=hid hb;have HK:=hid hk;have HSz:=hid hz;have HG:=hid hG;have hg5:=hI.1.2.2.2;have HV:=hid (fun (Y:World) (hY:Below w.heap.size w Y)=>vary17_any vh L Y (hh.1.kept hY) hk.szd.1 hk.szd.2.1 hk.szd.2.2);have HP1:=hid (fun (Y:World) (hY:Below w.heap.size w Y)=>parse16_any vh L Y (hg5.kept hY) (hh.1.kept hY) hk.szd.1 hk.szd.2.1 (by have:=hk.szd.2.2;omega));have HP2:=hid (fun (Y:World) (hY:Below w.heap.size w Y)=>parse16_any vA A Y (hg5.kept hY) (hA.1.kept hY) hz.1 hz.2.1 (by have:=hz.2.2;omega))
 obtain ⟨ns1,nc1,mx1,hct1⟩: ∃ a b m,ctlV L=⟨a,b,m⟩:=⟨_,_,_,rfl⟩
 obtain ⟨ns2,nc2,mx2,hct2⟩: ∃ a b m,ctlV A=⟨a,b,m⟩:=⟨_,_,_,rfl⟩
 rw [hct1] at HP1;rw [hct2] at HP2;unfold CtPost at HP1 HP2;unfold VyPostF at HV;dsimp only at HP1 HP2;obtain ⟨va,vac,rfl,_,_,_⟩:=hA.1.view
 obtain ⟨ha,hac,rfl,_,_,_⟩:=hh.1.view
 obtain ⟨_,ba,bac,rfl,_,_,_⟩:=hb.1
 obtain ⟨ok,hok⟩: ∃ b,vrOk (pcsV L nVy)=b:=⟨_,rfl⟩
 rw [hok] at HV;have HOk:=hid (show putOk A ⟨st,L,l⟩=(ok&&decide (st=200) && !ns1 && !ns2) by unfold putOk;rw [hok,hct1,hct2]);obtain ⟨W1,hW1⟩: ∃ X,w.alloc (.cells #[.int .i64 st,.slice ha L.length hac,.slice ba l.length bac] 30)=X:=⟨_,rfl⟩
 have HB1:=hid (show Below w.heap.size w W1 by rw [← hW1];exact (Below.refl _ w).alloc (Nat.le_refl _) _);have HX1:=hid (show Rp3 W1 w.heap.size st (.slice ha L.length hac) (.slice ba l.length bac) by rw [← hW1];exact heap_alloc_new w _);have HXY:=hid (fun (Y:World) (hY:Below W1.heap.size W1 Y)=>(show Rp3 Y w.heap.size st (.slice ha L.length hac) (.slice ba l.length bac) from (hY.block _ (Array.getElem?_eq_some_iff.1 HX1.out).1).trans HX1.out));obtain ⟨nL,hnL⟩: ∃ n,n=L.length:=⟨_,rfl⟩
 obtain ⟨nA,hnA⟩: ∃ n,n=A.length:=⟨_,rfl⟩
 obtain ⟨nl,hnl⟩: ∃ n,n=l.length:=⟨_,rfl⟩
 rw [← hnL,← hnl] at HXY hW1;rw [← hnL,← hnl,← hnA];rw [← hnL] at HV HP1 HH;rw [← hnA] at HP2 HA;rw [← hnl] at HBd;obtain ⟨x0,x1,_,_,_,_⟩:=(HXY.out W1 (Below.refl _ _)).cells
 have hf1: ∀ w,(Instr.field 87 (.agg #[.bool ns1,.bool nc1,.int .i64 mx1]) 0).run Tryz.prog w = .ok (.bool ns1) w:=fun w=>field_ct0 ns1 nc1 mx1 w
 have hf2: ∀ w,(Instr.field 87 (.agg #[.bool ns2,.bool nc2,.int .i64 mx2]) 0).run Tryz.prog w = .ok (.bool ns2) w:=fun w=>field_ct0 ns2 nc2 mx2 w
 have HLl:=hid hl;have HCt2:=hid hct2;clear hI hG hA hz hh hk hb hl hg5 hct1 hct2 hok hnL hnA hnl HX1
 cases ok with
 | false=>
   have HNo:=hid (show putOk A ⟨st,L,l⟩=false by rw [HOk.out];rfl)
   go_enter Tryz.func15,Tryz.ntmps15
   go_wp2_with fail
   refine (HV.out _ HB1.out).mono ?_;rintro e w2 ⟨vn,rfl,htx,hb2,hfr⟩
   obtain ⟨na,nc',rfl,_,_,_⟩:=htx.view
   have HB2:=hid (below2_Efc HB1.out hb2);have HB12:=hid hb2;obtain ⟨x0',x1',_,_,_,_⟩:=(HXY.out w2 hb2).cells
   clear htx hb2 hfr
   go_wp2_with fail
   go_ret
   exact put_no HI.out HB2.out HNo.out
 | true=>
   by_cases hst:st=200
   ·subst hst
    cases ns1 with
    | true=>
      have HNo:=hid (show putOk A ⟨200,L,l⟩=false by rw [HOk.out];rfl)
      go_enter Tryz.func15,Tryz.ntmps15
      go_wp2_with fail
      refine (HV.out _ HB1.out).mono ?_;rintro e w2 ⟨vn,rfl,htx,hb2,hfr⟩
      obtain ⟨na,nc',rfl,_,_,_⟩:=htx.view
      have HB2:=hid (below2_Efc HB1.out hb2);have HB12:=hid hb2;obtain ⟨x0',x1',_,_,_,_⟩:=(HXY.out w2 hb2).cells
      clear htx hb2 hfr
      go_wp2_with fail
      refine (HP1.out _ HB2.out).mono ?_;rintro e w3 ⟨rfl,hb3⟩
      have HB3:=hid (below2_Efc HB2.out hb3);clear hb3
      go_wp2_with fail
      go_ret
      exact put_no HI.out HB3.out HNo.out
    | false=>
      cases ns2 with
      | true=>
        have HNo:=hid (show putOk A ⟨200,L,l⟩=false by rw [HOk.out];rfl)
        go_enter Tryz.func15,Tryz.ntmps15
        go_wp2_with fail
        refine (HV.out _ HB1.out).mono ?_;rintro e w2 ⟨vn,rfl,htx,hb2,hfr⟩
        obtain ⟨na,nc',rfl,_,_,_⟩:=htx.view
        have HB2:=hid (below2_Efc HB1.out hb2);have HB12:=hid hb2;obtain ⟨x0',x1',_,_,_,_⟩:=(HXY.out w2 hb2).cells
        clear htx hb2 hfr
        go_wp2_with fail
        refine (HP1.out _ HB2.out).mono ?_;rintro e w3 ⟨rfl,hb3⟩
        have HB3:=hid (below2_Efc HB2.out hb3);clear hb3
        go_wp2_with fail
        refine (HP2.out _ HB3.out).mono ?_;rintro e w4 ⟨rfl,hb4⟩
        have HB4:=hid (below2_Efc HB3.out hb4);clear hb4
        go_wp2_with fail
        go_ret
        exact put_no HI.out HB4.out HNo.out
      | false=>
        have HYes:=hid (show putOk A ⟨200,L,l⟩=true by rw [HOk.out];rfl)
        go_enter Tryz.func15,Tryz.ntmps15
        go_wp2_with fail
        refine (HV.out _ HB1.out).mono ?_;rintro e w2 ⟨vn,rfl,htx,hb2,hfr⟩
        obtain ⟨na,nc',rfl,_,_,_⟩:=htx.view
        have HB2:=hid (below2_Efc HB1.out hb2);have HB12:=hid hb2;obtain ⟨x0',x1',_,_,_,_⟩:=(HXY.out w2 hb2).cells
        have HTx:=hid htx;have HFr:=hid hfr;clear htx hb2 hfr
        go_wp2_with fail
        refine (HP1.out _ HB2.out).mono ?_;rintro e w3 ⟨rfl,hb3⟩
        have HB3:=hid (below2_Efc HB2.out hb3);have HB23:=hid hb3;clear hb3
        go_wp2_with fail
        refine (HP2.out _ HB3.out).mono ?_;rintro e w4 ⟨rfl,hb4⟩
        have HB4:=hid (below2_Efc HB3.out hb4);have HB24:=hid (below2_Efc HB23.out hb4);have HB14:=hid (below2_Efc HB12.out HB24.out);clear hb4;obtain ⟨⟨h1,h2,h3,h5⟩,a,c,Z,hrow,hown,hZ,hden⟩:=HI.out
        have hpw:p<w.heap.size:=by omega
        obtain ⟨n,hnn⟩: ∃ n,n=C.rows.length:=⟨_,rfl⟩
        have HN:=hid (show n=Z.length by rw [hnn,← hZ];simp);rw [← hnn] at hrow hown;have hn9:n≤1000:=by rw [hnn];exact HG.out.1
        have hr4:w4.heap[p]? = some (.cells #[.slice a n c,.int .i64 C.tn] 81 (0,0)):=(HB4.out.block p hpw).trans hrow;have ho4:=own_same hown.1 HB4.out;have HGb:=hid (fun g (hg:(Value.slice a n c).ownBlock=some g)=>(show p+1≤g∧g<w.heap.size from ⟨(hown.1.lt g hg).1,by have:=hown.2 g hg;omega⟩));have ht4:TqC p w w4:=Tq.below HB4.out (by omega)
        have HR4:=hid hr4;have HO4:=hid ho4;have HT4:=hid ht4;have HPw:=hid hpw;have HZ:=hid hZ;have HDen:=hid (fun z hz=>(hden z hz).mono h2);have HRG:=hid (show ∀ z ∈ Z,RowG z.r from fun z hz'=>HG.out.2.2 z.r (by rw [← hZ];exact List.mem_map.2 ⟨z,hz',rfl⟩));have HS:=hid (show (fun wx:World=>wx.cell? ⟨p,0,none⟩=some (.slice a n c)) w4.drew from by show w4.cell? _=_;rw [Lib.cell_of_heap hr4];rfl);have hd4:Below w4.heap.size w4 w4.drew:=(Below.refl _ _).drew;have HD4:=hid hd4;clear h1 h2 h3 h5 hrow hown hZ hden hpw hr4 ho4 ht4 hd4 hnn
        go_upto_region 4 with fail
        clear x0 x1 x0' x1' hf1 hf2 hW1;refine AnyBut.start (n:=11) (S:=(fun wx:World=>wx.cell? ⟨p,0,none⟩=some (.slice a n c))) (by kernel_rfl) ?_
        refine' AnyBut.take (i:=0) (oi:=⟨some 37,_,_,_,_,_⟩) (v:=_) rfl (by kernel_rfl) (by kernel_rfl) (fun _ _ _ h=>h) _ _ _ _ (by kernel_rfl) (by kernel_rfl) (Or.inl ⟨by kernel_rfl,?hyp0⟩) HS.out ?restp0
        case hyp0=>(intro wx hSw;(try dsimp only at hSw);go_simp;first | done | with_reducible rfl)
        (try simp only [Act.put,List.setIfInBounds_toArray,List.set_cons_zero,List.set_cons_succ])
        refine' AnyBut.take (i:=1) (oi:=⟨some 38,_,_,_,_,_⟩) (v:=_) rfl (by kernel_rfl) (by kernel_rfl) (fun _ _ _ h=>h) _ _ _ _ (by kernel_rfl) (by kernel_rfl) (Or.inl ⟨by kernel_rfl,?hyp1⟩) HS.out ?restp1
        case hyp1=>(intro wx hSw;(try dsimp only at hSw);go_simp;first | done | with_reducible rfl)
        (try simp only [Act.put,List.setIfInBounds_toArray,List.set_cons_zero,List.set_cons_succ])
        refine' AnyBut.take (i:=2) (oi:=⟨some 39,_,_,_,_,_⟩) (v:=_) rfl (by kernel_rfl) (by kernel_rfl) (fun _ _ _ h=>h) _ _ _ _ (by kernel_rfl) (by kernel_rfl) (Or.inl ⟨by kernel_rfl,?hyp2⟩) HS.out ?restp2
        case hyp2=>(intro wx hSw;(try dsimp only at hSw);go_simp;first | done | with_reducible rfl)
        (try simp only [Act.put,List.setIfInBounds_toArray,List.set_cons_zero,List.set_cons_succ])
        refine' AnyBut.take (i:=3) (oi:=⟨some 40,_,_,_,_,_⟩) (v:=_) rfl (by kernel_rfl) (by kernel_rfl) (fun _ _ _ h=>h) _ _ _ _ (by kernel_rfl) (by kernel_rfl) (Or.inl ⟨by kernel_rfl,?hyp3⟩) HS.out ?restp3
        case hyp3=>(intro wx hSw;(try dsimp only at hSw);go_simp;first | done | with_reducible rfl)
        (try simp only [Act.put,List.setIfInBounds_toArray,List.set_cons_zero,List.set_cons_succ])
        refine' AnyBut.take (i:=4) (oi:=⟨some 41,_,_,_,_,_⟩) (v:=_) rfl (by kernel_rfl) (by kernel_rfl) (fun _ _ _ h=>h) _ _ _ _ (by kernel_rfl) (by kernel_rfl) (Or.inl ⟨by kernel_rfl,?hyp4⟩) HS.out ?restp4
        case hyp4=>(intro wx hSw;(try dsimp only at hSw);go_simp;first | done | with_reducible rfl)
        (try simp only [Act.put,List.setIfInBounds_toArray,List.set_cons_zero,List.set_cons_succ])
        refine' AnyBut.take (i:=5) (oi:=⟨some 42,_,_,_,_,_⟩) (v:=_) rfl (by kernel_rfl) (by kernel_rfl) (fun _ _ _ h=>h) _ _ _ _ (by kernel_rfl) (by kernel_rfl) (Or.inl ⟨by kernel_rfl,?hyp5⟩) HS.out ?restp5
        case hyp5=>(intro wx hSw;(try dsimp only at hSw);go_simp;first | done | with_reducible rfl)
        (try simp only [Act.put,List.setIfInBounds_toArray,List.set_cons_zero,List.set_cons_succ])
        refine' AnyBut.take (i:=6) (oi:=⟨some 43,_,_,_,_,_⟩) (v:=_) rfl (by kernel_rfl) (by kernel_rfl) (fun _ _ _ h=>h) _ _ _ _ (by kernel_rfl) (by kernel_rfl) (Or.inl ⟨by kernel_rfl,?hyp6⟩) HS.out ?restp6
        case hyp6=>(intro wx hSw;(try dsimp only at hSw);go_simp;first | done | with_reducible rfl)
        (try simp only [Act.put,List.setIfInBounds_toArray,List.set_cons_zero,List.set_cons_succ])
        refine AnyBut.one (i:=7) (by kernel_rfl) rfl (fun K' hK=> ?_)
        rw [if_pos (by kernel_rfl)]
        go_simp
        go_wp2_with (go_at_call 53;refine (meant_any u va nA vac _).mono ?_;rintro e w5 ⟨rfl,hm5,hb5⟩)
        have HB5:=hid (below2_Efc HD4.out hb5);have HM5:=hid hm5;obtain ⟨pu,hpu⟩: ∃ x,x=w4.drew.heap.size:=⟨_,rfl⟩
        have HT5:=hid (HT4.out.more HB5.out (by have:=HB4.out.size;have:=HPw.out;omega));have HS5:=hid (show w5.cell? ⟨p,0,none⟩=some (.slice a n c) from (hb5.cell (p:=⟨p,0,none⟩) (by have:=HB4.out.size;have:=HPw.out;show p<w4.heap.size;omega)).trans HS.out);have HO5:=hid (own_same HO4.out HB5.out);have HR5:=hid (show w5.heap[p]? = some (.cells #[.slice a n c,.int .i64 C.tn] 81 (0,0)) from (HB5.out.block p (Array.getElem?_eq_some_iff.1 HR4.out).1).trans HR4.out);clear hm5 hb5;refine hK.out _ _ HS5.out ?_;clear hK K'
        have HDF:=hid (deleteF17_any 105 #[.pointer (some ⟨w4.heap.size+1,0,none⟩),.pointer (some ⟨w4.heap.size,0,none⟩)] enters_m1 (meantV u.data.toList A) (.slice a n c) Z w5 (p+1) (by rw [← HN.out];exact HO5.out) (by have:=HN.out;omega) (fun z hz=>by
         obtain ⟨ca,cc,ha,hc,ba,bc,f1,f2,f3⟩:=(HDen.out z hz).form
         exact ⟨_,_,_,_,_,_,_,_,_,f1,f2,f3⟩) (fun X z hz hX=>by
         have hq:TqC p w5 X:=Tq.grown hX (fun g hg=>by
          obtain ⟨cur,hc⟩:=ownsRow_kind HO5.out g hg
          have:=(HGb.out g hg).1;exact ⟨by omega,cur,_,hc⟩) (by have:=(Array.getElem?_eq_some_iff.1 HR5.out).1;omega)
         have hwX:=HT5.out.trans hq;obtain ⟨_,hg2,hg3,_⟩:=HRG.out z hz
         exact meant1_any (w4.heap.size+1) w4.heap.size (.slice va nA vac) A u z X (p+1) w.heap.size (MfAt.tq HM5.out hq) (HA.out.tq hwX).1 HSz.out ((HDen.out z hz).tq hwX) hg2 hg3))
        refine AnyBut.one (i:=8) (by kernel_rfl) rfl (fun K' hK=> ?_)
        rw [if_pos (by kernel_rfl)]
        go_simp
        go_wp2_with (go_at_call 52;refine HDF.out.mono ?_;rintro e w6 ⟨a6,c6,rfl,ho6,hg6,hb6⟩)
        obtain ⟨Z1,hZ1⟩: ∃ X,X=Z.filter fun z=> !meantV u.data.toList A z.r:=⟨_,rfl⟩
        rw [← hZ1] at ho6 hb6 ⊢;obtain ⟨n6,hn6⟩: ∃ n,n=Z1.length:=⟨_,rfl⟩
        rw [← hn6] at ho6 hb6 ⊢;have hr6:w6.heap[p]? = some (.cells #[.slice a n c,.int .i64 C.tn] 81 (0,0)):=by
         rw [hg6.block p (Array.getElem?_eq_some_iff.1 HR5.out).1 (fun e=>by have:=(HGb.out p e.symm).1;omega)];exact HR5.out
        have hs6:w6.cell? ⟨p,0,none⟩=some (.slice a n c):=by rw [Lib.cell_of_heap hr6];rfl
        have HR6:=hid hr6;have HO6:=hid ho6;have HG6:=hid hg6;have HS6:=hid hs6;have HOb6:=hid hb6;have HN6:=hid hn6;have HZ1:=hid hZ1;have HT6:=hid (show TqC p w w6 from HT5.out.trans (Tq.grown hg6 (fun g hg=>by
         obtain ⟨cur,hc⟩:=ownsRow_kind HO5.out g hg
         have:=(HGb.out g hg).1;exact ⟨by omega,cur,_,hc⟩) (by have:=(Array.getElem?_eq_some_iff.1 HR5.out).1;omega)))
        clear ho6 hg6 hb6 hr6 hs6 hZ1 hn6;refine hK.out _ _ HS6.out ?_;clear hK K' HS;have HS:=hid HS6.out;refine AnyBut.one (i:=9) (by kernel_rfl) rfl (fun K' hK=> ?_)
        rw [if_pos (by kernel_rfl)]
        go_simp
        refine hK.out _ _ HS.out ?_;clear hK K';refine AnyBut.one (i:=10) (by kernel_rfl) rfl (fun K' hK=> ?_)
        rw [if_pos (by kernel_rfl)]
        go_simp
        refine hK.out _ _ HS.out ?_;clear hK K';have d0:=HS6.out;have z0:w6.frozen? ⟨p,0,none⟩=false:=Lib.frozen_of_heap HR6.out 0
        refine AnyBut.last (by kernel_rfl) (by kernel_rfl) rfl (fun K' hK=> ?_)
        rw [if_pos (by kernel_rfl)]
        go_simp
        go_wp2_with fail
        refine hK.out _ _ ?_;clear hK K' d0 z0 HS;obtain ⟨W7,hW7⟩: ∃ X,X=w6.setCell ⟨p,0,none⟩ (.slice a6 n6 c6):=⟨_,rfl⟩
        have HR7:=hid (show W7.heap[p]? = some (.cells #[.slice a6 n6 c6,.int .i64 C.tn] 81 (0,0)) by rw [hW7];exact Lib.heap_setCell_same HR6.out (i:=0) _);have HO7:=hid (show W7.ownsRow (p+1) 92 7 (.slice a6 n6 c6) n6 (cellsZ Z1) by
         rw [hW7];refine ownsRow_same HO6.out fun g hg=>heap_setCell_other _ _ _ _ (fun e=> ?_)
         have:=(HO6.out.lt g hg).1;have e:g=p:=e
         omega)
        have HT7:=hid (show TqC p w W7 by rw [hW7];exact HT6.out.trans (Tq.set HR6.out (.inr rfl) (Nat.le_refl _) 0 _));have HTx7:=hid (show TxAt W7 (.slice na (varV (pcsV L nVy)).length nc') (varV (pcsV L nVy)) by
         refine HTx.out.same17 fun g hg hlt=> ?_
         have hge:=HFr.out g hg;have hs1:=HB1.out.size;have hpw:=HPw.out;rw [hW7,heap_setCell_other _ _ _ _ (by show g≠p;omega)]
         rw [HG6.out.block g (by have:=HB24.out.size;have:=HB5.out.size;omega) (fun e=>by have:=(HGb.out g e.symm).2;omega)];exact (below2_Efc HB24.out HB5.out).block g hlt)
        have HBX7:=hid (show W7.heap[w.heap.size]? = some (.cells #[.int .i64 200,.slice ha nL hac,.slice ba nl bac] 30 (0,0)) by
         have h0:w5.heap[w.heap.size]? = some (.cells #[.int .i64 200,.slice ha nL hac,.slice ba nl bac] 30 (0,0)):=HXY.out w5 (below2_Efc HB14.out HB5.out);rw [hW7,heap_setCell_other _ _ _ _ (by show w.heap.size≠p;have:=HPw.out;omega),HG6.out.block _ (Array.getElem?_eq_some_iff.1 h0).1 (fun e=>by have:=(HGb.out _ e.symm).2;omega)]
         exact h0)
        rw [← hW7];have HN69:=hid (show n6≤1000 by rw [HN6.out,HZ1.out];have:=List.length_filter_le (fun z=> !meantV u.data.toList A z.r) Z;have:=HN.out;omega);have HMem1:=hid (show ∀ z ∈ Z1,z ∈ Z from fun z hz=>by rw [HZ1.out] at hz;exact (List.mem_filter.1 hz).1);have HMap:=hid (show Z1.map (·.r)=C.rows.filter fun x=> !meantV u.data.toList A x by rw [HZ1.out,← HZ.out,List.filter_map];rfl);clear hW7;have d7:W7.cell? ⟨p,0,none⟩=some (.slice a6 n6 c6):=by rw [Lib.cell_of_heap HR7.out];rfl
        by_cases h16:16≤n6
        ·have h16':(16:Int)≤(n6:Int):=by omega
         obtain ⟨g,rfl⟩: ∃ g,a6=some ⟨g,0,none⟩:=by
          rcases HO7.out.2 with ⟨_,h0⟩ | ⟨g,cap,cur,hv,_⟩
          ·omega
          ·injection hv with e1 _ _
           exact ⟨g,e1⟩
         have HDl:=hid (show Calls Tryz.prog 54 #[.slice (some ⟨g,0,none⟩) n6 c6,.int .i64 0,.int .i64 1] W7 fun e w'=>e = .returned (.slice (some ⟨g,0,none⟩) (n6 - 1) c6)∧w'.ownsRow (p+1) 92 7 (.slice (some ⟨g,0,none⟩) (n6 - 1) c6) (n6 - 1) (cellsZ (Z1.eraseIdx 0))∧W7.grownBy w' (some g) from by
          have h0:=HO7.out;rw [HN6.out] at h0 ⊢;exact delete17_any g c6 0 1 rfl Z1 W7 (p+1) h0 (by rw [← HN6.out];omega) (by rw [← HN6.out];exact Nat.le_trans HN69.out (by decide)) (fun z hz=>by
           obtain ⟨ca,cc,ha,hc,ba,bc,f1,f2,f3⟩:=(HDen.out z (HMem1.out z hz)).form
           exact ⟨_,_,_,_,_,_,_,_,_,f1,f2,f3⟩))
         go_wp2_with fail
         refine HDl.out.mono ?_;rintro e w8 ⟨rfl,ho8,hg8⟩
         have hgp:p+1≤g:=(ho8.lt g rfl).1;have hgw:g<w.heap.size:=(HGb.out g (HOb6.out g rfl)).2;have hr8:w8.heap[p]? = some (.cells #[.slice (some ⟨g,0,none⟩) n6 c6,.int .i64 C.tn] 81 (0,0)):=by
          rw [hg8.block p (Array.getElem?_eq_some_iff.1 HR7.out).1 (fun e=>by injection e with e;omega)];exact HR7.out
         have e0:w8.cell? ⟨p,0,none⟩=some (.slice (some ⟨g,0,none⟩) n6 c6):=by rw [Lib.cell_of_heap hr8];rfl
         have y0:w8.frozen? ⟨p,0,none⟩=false:=Lib.frozen_of_heap hr8 0
         obtain ⟨W9,hW9⟩: ∃ X,w8.setCell ⟨p,0,none⟩ (.slice (some ⟨g,0,none⟩) (n6 - 1) c6)=X:=⟨_,rfl⟩
         have HRF:=hid (show W9.heap[p]? = some (.cells #[.slice (some ⟨g,0,none⟩) (n6 - 1) c6,.int .i64 C.tn] 81 (0,0)) by rw [← hW9];exact Lib.heap_setCell_same hr8 (i:=0) _);have HOF:=hid (show W9.ownsRow (p+1) 92 7 (.slice (some ⟨g,0,none⟩) (n6 - 1) c6) (n6 - 1) (cellsZ (Z1.eraseIdx 0)) by
          rw [← hW9];refine ownsRow_same ho8 fun k hk=>heap_setCell_other _ _ _ _ (fun e=> ?_)
          have:=(ho8.lt k hk).1;have e:k=p:=e
          omega)
         have HTF:=hid (show TqC p w W9 by
          rw [← hW9];refine (HT7.out.trans (Tq.grown hg8 (fun k hk=>by
           injection hk with hk
           subst hk;obtain ⟨cur,hc⟩:=ownsRow_kind HO7.out g rfl
           exact ⟨by omega,cur,_,hc⟩) (by have:=(Array.getElem?_eq_some_iff.1 HR7.out).1;omega))).trans (Tq.set hr8 (.inr rfl) (Nat.le_refl _) 0 _))
         have HTxF:=hid (show TxAt W9 (.slice na (varV (pcsV L nVy)).length nc') (varV (pcsV L nVy)) by
          refine HTx7.out.same17 fun k hk hlt=> ?_
          have hge:=HFr.out k hk;have hs1:=HB1.out.size;have hpw:=HPw.out;rw [← hW9,heap_setCell_other _ _ _ _ (by show k≠p;omega)];exact hg8.block k hlt (fun e=>by injection e with e;omega))
         have HBXF:=hid (show W9.heap[w.heap.size]? = some (.cells #[.int .i64 200,.slice ha nL hac,.slice ba nl bac] 30 (0,0)) by
          rw [← hW9,heap_setCell_other _ _ _ _ (by show w.heap.size≠p;have:=HPw.out;omega),hg8.block _ (Array.getElem?_eq_some_iff.1 HBX7.out).1 (fun e=>by injection e with e;omega)];exact HBX7.out)
         have HZ2:=hid (show (Z1.eraseIdx 0).map (·.r)=roomV (C.rows.filter fun x=> !meantV u.data.toList A x) by
          rw [eraseIdx_map17,HMap.out]
          unfold roomV;rw [if_pos (by rw [← HMap.out,List.length_map,← HN6.out];exact h16)]
          cases C.rows.filter fun x=> !meantV u.data.toList A x<;>rfl)
         have HMem:=hid (show ∀ z ∈ Z1.eraseIdx 0,z ∈ Z from fun z hz=>HMem1.out z (mem_erase17 hz));have HNF:=hid (show n6 - 1=(Z1.eraseIdx 0).length by rw [List.length_eraseIdx,if_pos (by have:=HN6.out;omega),← HN6.out]);have HNl9:=hid (show n6 - 1≤1000 by have:=HN69.out;omega);clear ho8 hg8 hr8;have HQ0:=hid (show W9.drew.heap[w.heap.size]? = some (.cells #[.int .i64 200,.slice ha nL hac,.slice ba nl bac] 30 (0,0)) from HBXF.out);have HD0:=hid (show Below W9.heap.size W9 W9.drew from (Below.refl _ _).drew)
         have HRn:=hid (fun (Y:World) (hY:Y.heap[w.heap.size]? = some (.cells #[.int .i64 200,.slice ha nL hac,.slice ba nl bac] 30 (0,0)))=>(show Y.rangeAt w.heap.size 0 [.int .i64 200,.slice ha nL hac,.slice ba nl bac] from range_row_Cb (cs:=[.int .i64 200,.slice ha nL hac,.slice ba nl bac]) hY))
         have HCh:=hid (fun (Y:World) (hY:Below W9.heap.size W9 Y)=>choices_any (.slice va nA vac) (.slice na (varV (pcsV L nVy)).length nc') A (varV (pcsV L nVy)) Y ((HA.out.tq HTF.out).kept hY).1 HSz.out (HTxF.out.kept hY) (varV_small HK.out).1 (fun x hx=>Nat.le_trans ((varV_small HK.out).2 x hx) (by decide)));have HCo:=hid (fun (Y:World) (hY:Below W9.heap.size W9 Y)=>copied_any 200 (.slice ha nL hac) (.slice ba nl bac) L l Y (hd_rw ((HH.out.tq HTF.out).kept hY).1) ((HBd.out.tq HTF.out).kept hY).1 (by have:=HK.out.1;omega) HLl.out)
         have HCI:=hid (CaI.mk17 (C:=⟨roomV (C.rows.filter fun x=> !meantV u.data.toList A x),C.tn⟩) HI.out.1.2.2.1 (HI.out.1.2.2.2.low17 HI.out.1.2.2.1 HTF.out.1) (some ⟨g,0,none⟩) (n6 - 1) c6 (Z1.eraseIdx 0) (by rw [← HZ2.out,List.length_map];exact HNF.out) HRF.out HOF.out HZ2.out (fun z hz=>((HDen.out z (HMem.out z hz)).tq HTF.out).mono HTF.out.1.size))
         go_upto_region 7 with fail
         clear hW9 e0 y0 d7;refine wp_region_held_drew (S:=(fun wx:World=>wx.heap[w.heap.size]? = some (.cells #[.int .i64 200,.slice ha nL hac,.slice ba nl bac] 30 (0,0)))) (by kernel_rfl) HQ0.out (fun hHeld=> ?_)
         refine wpAnyH_to (fuel':=10) (listed':= #[false,false,false,false,false,false,false,false,false,false]) rfl rfl ?_
         refine' wpAnyH_take (i:=0) (oi:=⟨some 62,_,_,_,_,_⟩) (v:=_) rfl (by kernel_rfl) (by kernel_rfl) (by kernel_rfl) (fun _ _ _ h=>h) (Or.inl ⟨by kernel_rfl,?hypa1⟩) (by assumption) ?restpa1
         case hypa1=>(intro wx hSw;(try dsimp only at hSw);go_simp;first | done | with_reducible rfl)
         (try simp only [Act.put,List.setIfInBounds_toArray,List.set_cons_zero,List.set_cons_succ])
         refine' wpAnyH_take (i:=1) (oi:=⟨some 63,_,_,_,_,_⟩) (v:=_) rfl (by kernel_rfl) (by kernel_rfl) (by kernel_rfl) (fun _ _ _ h=>h) (Or.inl ⟨by kernel_rfl,?hypa2⟩) (by assumption) ?restpa2
         case hypa2=>(intro wx hSw;(try dsimp only at hSw);go_simp;first | done | with_reducible rfl)
         (try simp only [Act.put,List.setIfInBounds_toArray,List.set_cons_zero,List.set_cons_succ])
         refine' wpAnyH_take (i:=2) (oi:=⟨some 64,_,_,_,_,_⟩) (v:=_) rfl (by kernel_rfl) (by kernel_rfl) (by kernel_rfl) (fun _ _ _ h=>h) (Or.inl ⟨by kernel_rfl,?hypa3⟩) (by assumption) ?restpa3
         case hypa3=>(intro wx hSw;(try dsimp only at hSw);go_simp;first | done | with_reducible rfl)
         (try simp only [Act.put,List.setIfInBounds_toArray,List.set_cons_zero,List.set_cons_succ])
         refine' wpAnyH_take (i:=3) (oi:=⟨some 65,_,_,_,_,_⟩) (v:=_) rfl (by kernel_rfl) (by kernel_rfl) (by kernel_rfl) (fun _ _ _ h=>h) (Or.inl ⟨by kernel_rfl,?hypa4⟩) (by assumption) ?restpa4
         case hypa4=>(intro wx hSw;(try dsimp only at hSw);go_simp;first | done | with_reducible rfl)
         (try simp only [Act.put,List.setIfInBounds_toArray,List.set_cons_zero,List.set_cons_succ])
         refine' wpAnyH_take (i:=8) (oi:=⟨some 70,_,_,_,_,_⟩) (v:=_) rfl (by kernel_rfl) (by kernel_rfl) (by kernel_rfl) (fun _ _ _ h=>h) (Or.inl ⟨by kernel_rfl,?hypa5⟩) (by assumption) ?restpa5
         case hypa5=>(intro wx hSw;(try dsimp only at hSw);go_simp;first | done | with_reducible rfl)
         (try simp only [Act.put,List.setIfInBounds_toArray,List.set_cons_zero,List.set_cons_succ])
         refine wpAnyH_take (i:=5) (oi:=⟨some 67,_,_,_,_,_⟩) rfl (by kernel_rfl) (by kernel_rfl) (by kernel_rfl) (fun _ _ _ h=>h) (yieldsIf_load_mid (by kernel_rfl) 30 (.tmp 8) rfl w.heap.size 0 rfl [.int .i64 200,.slice ha nL hac,.slice ba nl bac] _ HRn.out Tryz.underlying30 rfl sizeRp) (by assumption) ?_
         (try simp only [Act.put,List.setIfInBounds_toArray,List.set_cons_zero,List.set_cons_succ])
         refine wpAnyH_ready (rs:=[4]) (by kernel_rfl) (by simp) ?_
         refine AllReadyH.cons rfl (fun K9 hK=> ?_) AllReadyH.nil;rw [if_pos (by kernel_rfl)]
         go_simp
         go_wp2_with (go_at_call 56;refine (HCh.out _ HD0.out).mono ?_;rintro e w10 ⟨u10,rfl,ho10,hba⟩)
         have HO10:=hid ho10;have HD10:=hid (below2_Efc HD0.out hba);have HQ10:=hid (show w10.heap[w.heap.size]? = some (.cells #[.int .i64 200,.slice ha nL hac,.slice ba nl bac] 30 (0,0)) from (hba.block _ (Array.getElem?_eq_some_iff.1 HQ0.out).1).trans HQ0.out);clear hba ho10;refine hK.out _ _ HQ10.out (fun hHeld2=> ?_);clear hK K9 hHeld
         rename _=>hHeld
         refine wpAnyH_ready (rs:=[6]) (by kernel_rfl) (by simp) ?_
         refine AllReadyH.cons rfl (fun K9 hK=> ?_) AllReadyH.nil;rw [if_pos (by kernel_rfl)]
         go_simp
         go_wp2_with (go_at_call 57;refine (HCo.out _ HD10.out).mono ?_;rintro e w11 ⟨u11,b11,rfl,ho11,hob11,hba⟩)
         have HO11:=hid ho11;have HP11:=hid hob11;have HO10b:=hid (own_same HO10.out hba);have HD11:=hid (below2_Efc HD10.out hba);have HQ11:=hid (show w11.heap[w.heap.size]? = some (.cells #[.int .i64 200,.slice ha nL hac,.slice ba nl bac] 30 (0,0)) from (hba.block _ (Array.getElem?_eq_some_iff.1 HQ10.out).1).trans HQ10.out);obtain ⟨a10,c10,rfl⟩:=own_sl16 HO10.out
         obtain ⟨a11,c11,rfl⟩:=own_sl16 ho11
         obtain ⟨a12,c12,rfl⟩:=own_sl16 hob11
         clear hba ho11 hob11;refine hK.out _ _ HQ11.out (fun hHeld2=> ?_);clear hK K9 hHeld
         rename _=>hHeld
         refine' wpAnyH_take (i:=7) (oi:=⟨some 69,_,_,_,_,_⟩) (v:=_) rfl (by kernel_rfl) (by kernel_rfl) (by kernel_rfl) (fun _ _ _ h=>h) (Or.inl ⟨by kernel_rfl,?hypa6⟩) (by assumption) ?restpa6
         case hypa6=>(intro wx hSw;(try dsimp only at hSw);go_simp;first | done | with_reducible rfl)
         (try simp only [Act.put,List.setIfInBounds_toArray,List.set_cons_zero,List.set_cons_succ])
         have HStore:=hid (show Calls Tryz.prog 55 #[.pointer (some ⟨p,0,none⟩),.agg #[.string u,.slice a10 (varV (pcsV L nVy)).length c10,.int .i64 200,.slice a11 L.length c11,.slice a12 l.length c12,.int .i64 0,.int .i64 0],.int .i64 now] w11 fun e w'=>e = .returned (.tuple #[])∧CaI Tr17 w' p w'.heap.size (putV C u.data.toList A ⟨200,L,l⟩ now)∧TqC p w11 w' from by
          have hpp:p+1≤w10.heap.size:=by have:=(Array.getElem?_eq_some_iff.1 HRF.out).1;have:=HD10.out.size;omega
          have h:=store17_any p w11.heap.size ⟨roomV (C.rows.filter fun x=> !meantV u.data.toList A x),C.tn⟩ ⟨⟨u.data.toList,(varV (pcsV L nVy)).map (choV A),⟨200,L,l⟩,0,0⟩,.slice a10 (varV (pcsV L nVy)).length c10,.slice a11 L.length c11,.slice a12 l.length c12⟩ now w11 (HCI.out.kept HD11.out).size (by
           show (roomV (C.rows.filter fun x=> !meantV u.data.toList A x)).length≤1000;rw [← HZ2.out,List.length_map,← HNF.out];exact HNl9.out) HG.out.2.1 ⟨OwM.of (by
            show w11.ownsRow (p+1) 145 3 _ ((varV (pcsV L nVy)).map (choV A)).length _;rw [List.length_map];exact own_low17 HO10b.out (by have:=(Array.getElem?_eq_some_iff.1 HRF.out).1;have:=HD0.out.size;show p+1≤W9.drew.heap.size;omega)),OwM.ofH (own_low17 HO11.out hpp) (fun _ _=>trivial),OwM.of (own_low17 HP11.out hpp)⟩
          unfold zVal zCells at h;dsimp only at h;rw [Lib.mk_data] at h;unfold putV;rw [HYes.out];exact h)
         refine wpAnyH_ready (rs:=[9]) (by kernel_rfl) (by simp) ?_
         refine AllReadyH.cons rfl (fun K9 hK=> ?_) AllReadyH.nil;rw [if_pos (by kernel_rfl)]
         go_simp
         go_wp2_with (go_at_call 55;refine HStore.out.mono ?_;rintro e w12 ⟨rfl,hc12,ht12⟩)
         have HQ12:=hid (show w12.heap[w.heap.size]? = some (.cells #[.int .i64 200,.slice ha nL hac,.slice ba nl bac] 30 (0,0)) from (ht12.2 _ _ _ _ HQ11.out (by decide) (by decide)).trans HQ11.out);have HFin:=hid (show CaI Tr17 w12 p w12.heap.size (putV C u.data.toList A ⟨200,L,l⟩ now)∧TqC p w w12 from ⟨hc12,(HTF.out.more HD11.out (by have:=(Array.getElem?_eq_some_iff.1 HRF.out).1;omega)).trans ht12⟩);clear hc12 ht12;refine hK.out _ _ HQ12.out (fun hHeld2=> ?_);clear hK K9 hHeld
         rename _=>hHeld
         refine wpAnyH_done (by kernel_rfl) ?_ _
         go_wp2_with fail
         go_ret
         exact ⟨by rw [HYes.out];rfl,HFin.out.1,HFin.out.2⟩
        ·have h16': ¬ (16:Int)≤(n6:Int):=by omega
         have HRF:=hid HR7.out;have HOF:=hid HO7.out;have HTF:=hid HT7.out;have HTxF:=hid HTx7.out;have HBXF:=hid HBX7.out;have HZ2:=hid (show Z1.map (·.r)=roomV (C.rows.filter fun x=> !meantV u.data.toList A x) by
          rw [HMap.out];unfold roomV;rw [if_neg (by rw [← HMap.out,List.length_map,← HN6.out];exact h16)])
         have HMem:=hid HMem1.out;have HNF:=hid HN6.out;have HNl9:=hid HN69.out;have HQ0:=hid (show W7.drew.heap[w.heap.size]? = some (.cells #[.int .i64 200,.slice ha nL hac,.slice ba nl bac] 30 (0,0)) from HBXF.out);have HD0:=hid (show Below W7.heap.size W7 W7.drew from (Below.refl _ _).drew);have HRn:=hid (fun (Y:World) (hY:Y.heap[w.heap.size]? = some (.cells #[.int .i64 200,.slice ha nL hac,.slice ba nl bac] 30 (0,0)))=>(show Y.rangeAt w.heap.size 0 [.int .i64 200,.slice ha nL hac,.slice ba nl bac] from range_row_Cb (cs:=[.int .i64 200,.slice ha nL hac,.slice ba nl bac]) hY))
         have HCh:=hid (fun (Y:World) (hY:Below W7.heap.size W7 Y)=>choices_any (.slice va nA vac) (.slice na (varV (pcsV L nVy)).length nc') A (varV (pcsV L nVy)) Y ((HA.out.tq HTF.out).kept hY).1 HSz.out (HTxF.out.kept hY) (varV_small HK.out).1 (fun x hx=>Nat.le_trans ((varV_small HK.out).2 x hx) (by decide)));have HCo:=hid (fun (Y:World) (hY:Below W7.heap.size W7 Y)=>copied_any 200 (.slice ha nL hac) (.slice ba nl bac) L l Y (hd_rw ((HH.out.tq HTF.out).kept hY).1) ((HBd.out.tq HTF.out).kept hY).1 (by have:=HK.out.1;omega) HLl.out)
         have HCI:=hid (CaI.mk17 (C:=⟨roomV (C.rows.filter fun x=> !meantV u.data.toList A x),C.tn⟩) HI.out.1.2.2.1 (HI.out.1.2.2.2.low17 HI.out.1.2.2.1 HTF.out.1) a6 n6 c6 Z1 (by rw [← HZ2.out,List.length_map];exact HNF.out) HRF.out HOF.out HZ2.out (fun z hz=>((HDen.out z (HMem.out z hz)).tq HTF.out).mono HTF.out.1.size))
         go_upto_region 7 with fail
         clear d7;refine wp_region_held_drew (S:=(fun wx:World=>wx.heap[w.heap.size]? = some (.cells #[.int .i64 200,.slice ha nL hac,.slice ba nl bac] 30 (0,0)))) (by kernel_rfl) HQ0.out (fun hHeld=> ?_)
         refine wpAnyH_to (fuel':=10) (listed':= #[false,false,false,false,false,false,false,false,false,false]) rfl rfl ?_
         refine' wpAnyH_take (i:=0) (oi:=⟨some 62,_,_,_,_,_⟩) (v:=_) rfl (by kernel_rfl) (by kernel_rfl) (by kernel_rfl) (fun _ _ _ h=>h) (Or.inl ⟨by kernel_rfl,?hypb1⟩) (by assumption) ?restpb1
         case hypb1=>(intro wx hSw;(try dsimp only at hSw);go_simp;first | done | with_reducible rfl)
         (try simp only [Act.put,List.setIfInBounds_toArray,List.set_cons_zero,List.set_cons_succ])
         refine' wpAnyH_take (i:=1) (oi:=⟨some 63,_,_,_,_,_⟩) (v:=_) rfl (by kernel_rfl) (by kernel_rfl) (by kernel_rfl) (fun _ _ _ h=>h) (Or.inl ⟨by kernel_rfl,?hypb2⟩) (by assumption) ?restpb2
         case hypb2=>(intro wx hSw;(try dsimp only at hSw);go_simp;first | done | with_reducible rfl)
         (try simp only [Act.put,List.setIfInBounds_toArray,List.set_cons_zero,List.set_cons_succ])
         refine' wpAnyH_take (i:=2) (oi:=⟨some 64,_,_,_,_,_⟩) (v:=_) rfl (by kernel_rfl) (by kernel_rfl) (by kernel_rfl) (fun _ _ _ h=>h) (Or.inl ⟨by kernel_rfl,?hypb3⟩) (by assumption) ?restpb3
         case hypb3=>(intro wx hSw;(try dsimp only at hSw);go_simp;first | done | with_reducible rfl)
         (try simp only [Act.put,List.setIfInBounds_toArray,List.set_cons_zero,List.set_cons_succ])
         refine' wpAnyH_take (i:=3) (oi:=⟨some 65,_,_,_,_,_⟩) (v:=_) rfl (by kernel_rfl) (by kernel_rfl) (by kernel_rfl) (fun _ _ _ h=>h) (Or.inl ⟨by kernel_rfl,?hypb4⟩) (by assumption) ?restpb4
         case hypb4=>(intro wx hSw;(try dsimp only at hSw);go_simp;first | done | with_reducible rfl)
         (try simp only [Act.put,List.setIfInBounds_toArray,List.set_cons_zero,List.set_cons_succ])
         refine' wpAnyH_take (i:=8) (oi:=⟨some 70,_,_,_,_,_⟩) (v:=_) rfl (by kernel_rfl) (by kernel_rfl) (by kernel_rfl) (fun _ _ _ h=>h) (Or.inl ⟨by kernel_rfl,?hypb5⟩) (by assumption) ?restpb5
         case hypb5=>(intro wx hSw;(try dsimp only at hSw);go_simp;first | done | with_reducible rfl)
         (try simp only [Act.put,List.setIfInBounds_toArray,List.set_cons_zero,List.set_cons_succ])
         refine wpAnyH_take (i:=5) (oi:=⟨some 67,_,_,_,_,_⟩) rfl (by kernel_rfl) (by kernel_rfl) (by kernel_rfl) (fun _ _ _ h=>h) (yieldsIf_load_mid (by kernel_rfl) 30 (.tmp 8) rfl w.heap.size 0 rfl [.int .i64 200,.slice ha nL hac,.slice ba nl bac] _ HRn.out Tryz.underlying30 rfl sizeRp) (by assumption) ?_
         (try simp only [Act.put,List.setIfInBounds_toArray,List.set_cons_zero,List.set_cons_succ])
         refine wpAnyH_ready (rs:=[4]) (by kernel_rfl) (by simp) ?_
         refine AllReadyH.cons rfl (fun K9 hK=> ?_) AllReadyH.nil;rw [if_pos (by kernel_rfl)]
         go_simp
         go_wp2_with (go_at_call 56;refine (HCh.out _ HD0.out).mono ?_;rintro e w10 ⟨u10,rfl,ho10,hba⟩)
         have HO10:=hid ho10;have HD10:=hid (below2_Efc HD0.out hba);have HQ10:=hid (show w10.heap[w.heap.size]? = some (.cells #[.int .i64 200,.slice ha nL hac,.slice ba nl bac] 30 (0,0)) from (hba.block _ (Array.getElem?_eq_some_iff.1 HQ0.out).1).trans HQ0.out);clear hba ho10;refine hK.out _ _ HQ10.out (fun hHeld2=> ?_);clear hK K9 hHeld
         rename _=>hHeld
         refine wpAnyH_ready (rs:=[6]) (by kernel_rfl) (by simp) ?_
         refine AllReadyH.cons rfl (fun K9 hK=> ?_) AllReadyH.nil;rw [if_pos (by kernel_rfl)]
         go_simp
         go_wp2_with (go_at_call 57;refine (HCo.out _ HD10.out).mono ?_;rintro e w11 ⟨u11,b11,rfl,ho11,hob11,hba⟩)
         have HO11:=hid ho11;have HP11:=hid hob11;have HO10b:=hid (own_same HO10.out hba);have HD11:=hid (below2_Efc HD10.out hba);have HQ11:=hid (show w11.heap[w.heap.size]? = some (.cells #[.int .i64 200,.slice ha nL hac,.slice ba nl bac] 30 (0,0)) from (hba.block _ (Array.getElem?_eq_some_iff.1 HQ10.out).1).trans HQ10.out);obtain ⟨a10,c10,rfl⟩:=own_sl16 HO10.out
         obtain ⟨a11,c11,rfl⟩:=own_sl16 ho11
         obtain ⟨a12,c12,rfl⟩:=own_sl16 hob11
         clear hba ho11 hob11;refine hK.out _ _ HQ11.out (fun hHeld2=> ?_);clear hK K9 hHeld
         rename _=>hHeld
         refine' wpAnyH_take (i:=7) (oi:=⟨some 69,_,_,_,_,_⟩) (v:=_) rfl (by kernel_rfl) (by kernel_rfl) (by kernel_rfl) (fun _ _ _ h=>h) (Or.inl ⟨by kernel_rfl,?hypb6⟩) (by assumption) ?restpb6
         case hypb6=>(intro wx hSw;(try dsimp only at hSw);go_simp;first | done | with_reducible rfl)
         (try simp only [Act.put,List.setIfInBounds_toArray,List.set_cons_zero,List.set_cons_succ])
         have HStore:=hid (show Calls Tryz.prog 55 #[.pointer (some ⟨p,0,none⟩),.agg #[.string u,.slice a10 (varV (pcsV L nVy)).length c10,.int .i64 200,.slice a11 L.length c11,.slice a12 l.length c12,.int .i64 0,.int .i64 0],.int .i64 now] w11 fun e w'=>e = .returned (.tuple #[])∧CaI Tr17 w' p w'.heap.size (putV C u.data.toList A ⟨200,L,l⟩ now)∧TqC p w11 w' from by
          have hpp:p+1≤w10.heap.size:=by have:=(Array.getElem?_eq_some_iff.1 HRF.out).1;have:=HD10.out.size;omega
          have h:=store17_any p w11.heap.size ⟨roomV (C.rows.filter fun x=> !meantV u.data.toList A x),C.tn⟩ ⟨⟨u.data.toList,(varV (pcsV L nVy)).map (choV A),⟨200,L,l⟩,0,0⟩,.slice a10 (varV (pcsV L nVy)).length c10,.slice a11 L.length c11,.slice a12 l.length c12⟩ now w11 (HCI.out.kept HD11.out).size (by
           show (roomV (C.rows.filter fun x=> !meantV u.data.toList A x)).length≤1000;rw [← HZ2.out,List.length_map,← HNF.out];exact HNl9.out) HG.out.2.1 ⟨OwM.of (by
            show w11.ownsRow (p+1) 145 3 _ ((varV (pcsV L nVy)).map (choV A)).length _;rw [List.length_map];exact own_low17 HO10b.out (by have:=(Array.getElem?_eq_some_iff.1 HRF.out).1;have:=HD0.out.size;show p+1≤W7.drew.heap.size;omega)),OwM.ofH (own_low17 HO11.out hpp) (fun _ _=>trivial),OwM.of (own_low17 HP11.out hpp)⟩
          unfold zVal zCells at h;dsimp only at h;rw [Lib.mk_data] at h;unfold putV;rw [HYes.out];exact h)
         refine wpAnyH_ready (rs:=[9]) (by kernel_rfl) (by simp) ?_
         refine AllReadyH.cons rfl (fun K9 hK=> ?_) AllReadyH.nil;rw [if_pos (by kernel_rfl)]
         go_simp
         go_wp2_with (go_at_call 55;refine HStore.out.mono ?_;rintro e w12 ⟨rfl,hc12,ht12⟩)
         have HQ12:=hid (show w12.heap[w.heap.size]? = some (.cells #[.int .i64 200,.slice ha nL hac,.slice ba nl bac] 30 (0,0)) from (ht12.2 _ _ _ _ HQ11.out (by decide) (by decide)).trans HQ11.out);have HFin:=hid (show CaI Tr17 w12 p w12.heap.size (putV C u.data.toList A ⟨200,L,l⟩ now)∧TqC p w w12 from ⟨hc12,(HTF.out.more HD11.out (by have:=(Array.getElem?_eq_some_iff.1 HRF.out).1;omega)).trans ht12⟩);clear hc12 ht12;refine hK.out _ _ HQ12.out (fun hHeld2=> ?_);clear hK K9 hHeld
         rename _=>hHeld
         refine wpAnyH_done (by kernel_rfl) ?_ _
         go_wp2_with fail
         go_ret
         exact ⟨by rw [HYes.out];rfl,HFin.out.1,HFin.out.2⟩
   ·have hne:(st != 200)=true:=bne_iff_ne.2 hst
    have HNo:=hid (show putOk A ⟨st,L,l⟩=false by rw [HOk.out,decide_eq_false hst];rfl);clear hst
    go_enter Tryz.func15,Tryz.ntmps15
    go_wp2_with fail
    refine (HV.out _ HB1.out).mono ?_;rintro e w2 ⟨vn,rfl,htx,hb2,hfr⟩
    obtain ⟨na,nc',rfl,_,_,_⟩:=htx.view
    have HB2:=hid (below2_Efc HB1.out hb2);have HB12:=hid hb2;obtain ⟨x0',x1',_,_,_,_⟩:=(HXY.out w2 hb2).cells
    clear htx hb2 hfr
    go_wp2_with fail
    go_ret
    exact put_no HI.out HB2.out HNo.out

end Go.Proofs.YtpopljcmkbchcaaGreatDoor
