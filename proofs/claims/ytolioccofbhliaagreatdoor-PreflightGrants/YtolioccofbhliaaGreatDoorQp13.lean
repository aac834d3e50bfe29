/-
  Walks and plain facts that this claim leans on, put together out of 13 texts: Tl, Ux, Uy, Yf, Vq, Djk, Yh, Yi, Yt, Yo, Ytx, Pg, Xa.
-/
import Derived.Test.YtolioccofbhliaaGreatDoorProg
import Derived.Test.YtolioccofbhliaaGreatDoorQp1
import Derived.Test.YtolioccofbhliaaGreatDoorQp2
import Derived.Test.YtolioccofbhliaaGreatDoorQp3
import Derived.Test.YtolioccofbhliaaGreatDoorQp4
import Derived.Test.YtolioccofbhliaaGreatDoorQp5
import Derived.Test.YtolioccofbhliaaGreatDoorQp6
import Derived.Test.YtolioccofbhliaaGreatDoorQp8
import Derived.Test.YtolioccofbhliaaGreatDoorQp11
import Derived.Test.YtolioccofbhliaaGreatDoorQp12
import Derived.Lib.IndexMore
import Derived.Lib.Join
import Derived.Lib.LastIndexByte
import Derived.WalkKit
import Derived.Lib.Strings
import Derived.Lib.UnsafeStr
import Derived.Laws.IdiomStrings
import Derived.Laws.AppendOwn
import Derived.Laws.BitsAllLaws
import Derived.Lib.Bytealg
import Derived.Lib.BufferMore
import Derived.Lib.BufferRead
import Derived.Lib.RuneBytes
import Derived.Laws.RangeAny
import Derived.LoopN
import Derived.RegionTactic
import Derived.Deep.RegionWith
import Derived.Deep.QuietTactic
import Derived.BigQuiet
import Derived.OwnWalk
import Derived.Deep.RegionLaw
import Derived.Laws.OwnMore
import Derived.Deep.LoopGhost
import Derived.Shelf.Strings.Builder1
import Derived.Shelf.Strings.Builder2
import Derived.Shelf.Strings.OnBuilder
import Derived.Shelf.Strings.Trim
import Derived.Shelf.Small.Utf8
import Derived.Shelf.Small.Bits
import Derived.Shelf.Small.Strs
import Derived.Shelf.Small.Wraps
import Derived.Shelf.Strings.BuilderF
import Derived.Shelf.Strings.BuilderK
import Derived.Shelf.Strings.Builder2Cap
import Derived.Shelf.Strconv.Itoa0
import Derived.Shelf.Strconv.Itoa1
import Derived.Shelf.LaysM
import Derived.Shelf.Strconv.Itoa2
import Derived.Shelf.Strconv.Itoa3
import Derived.Shelf.Strings.Search1
import Derived.Shelf.Strings.Search2
import Derived.Shelf.Strings.Cut
import Derived.Shelf.Strings.Shaped
import Derived.Shelf.Sort.Plain
import Derived.Shelf.Strings.Prefix
import Derived.Shelf.Strings.Runes
import Derived.Shelf.Strings.IndexAny
import Derived.Shelf.Strings.AsciiSet
import Derived.Shelf.Strings.IndexAnyAll
import Derived.Shelf.Unicode.DecodeSlow
import Derived.Shelf.Unicode.DecodeAny
import Derived.Shelf.Unicode.DecodeLast
import Derived.Shelf.Slices.CompactS
import Derived.Shelf.Slices.In.SortNone
import Derived.Ground.SlgnProg
import Derived.Shelf.SlicesE.Compact
import Derived.Ground.SlgfProg
import Derived.Shelf.SlicesE.IndexFunc
import Derived.Shelf.SlicesE.DeleteFunc
import Derived.BigRegion
import Derived.Laws.AppendOwnNone
import Derived.Deep.Cut
import Derived.Scope
import Derived.ScopeJumps
import Derived.WalkMore
import Derived.Lib.IndexAny
import Derived.Lib.Replace
import Derived.Lib.TrimByte
import Derived.Lib.ItoaNum
import Derived.Lib.DecodeN
import Derived.Lib.OthersKept
import Derived.Laws.BytesString
import Derived.Deep.WholeRow
import Derived.WalkSpells
import Derived.WalkLawsBesides
import Derived.Lib.AppendIntMem
import Derived.Lib.SmallJoins
import Derived.WalkSmall
import Derived.Laws.CopyOwn
import Derived.Laws.ResultCell
import Derived.Deep.MidRow
import Derived.Lib.FrozenHead2
import Derived.Lib.Builder
import Derived.Lib.AppendStr
import Derived.Deep.RegionHeld
import Derived.Laws.Runes
import Derived.Lib.SlTrimSet
set_option linter.unusedSimpArgs false
set_option linter.unusedVariables false

namespace Go.Proofs.YtolioccofbhliaaGreatDoor
open Go.RowKit

theorem withAuth_err {u:Adr} {r:List UInt8} {e:Int} (h:withAuth u r = .error e):e=10∨e=11:=by
 unfold withAuth at h;split at h
 ·rename_i e' he
  injection h with h
  subst h;exact authV_err he
 ·cases h

theorem startV_err {u:Adr} {r:List UInt8} {e:Int} (h:startV u r = .error e):e=10∨e=11:=by
 unfold startV at h;split at h
 ·exact withAuth_err h
 ·split at h
  ·exact withAuth_err h
  ·split at h
   ·cases h
   ·cases h

theorem low_nil {l:List UInt8} (h:low l=[]):l=[]:=by
 cases l with
 | nil=>rfl
 | cons a l=>cases h

theorem schemeV_ne {l n b:List UInt8} (h:schemeV l=some (n,b)):n≠[]∧n.length≤l.length∧b.length≤l.length:=by
 unfold schemeV at h;split at h
 ·rename_i hh
  injection h with h
  simp only [Prod.mk.injEq] at h;obtain ⟨rfl,rfl⟩:=h
  have hp:=part_le 58 l;refine ⟨?_,by rw [show low (part 58 l).1=(part 58 l).1.map lowC from rfl,List.length_map];exact hp.1,hp.2⟩
  intro e;have:=low_nil e;rw [this] at hh;simp [schOk] at hh
 ·cases h

theorem begin_some {s n b:List UInt8} (h:schemeV (part 35 (cleanV s)).1=some (n,b)):beginU s=(⟨n,[],[],[],false,-1,false,[],[],pct 2 (part 35 (cleanV s)).2.1,false,(part 35 (cleanV s)).2.2⟩,b):=by
 unfold beginU;simp only [h,Option.getD_some]

theorem begin_none {s:List UInt8} (h:schemeV (part 35 (cleanV s)).1=none):(beginU s).1.scheme=[]:=by
 unfold beginU;simp only [h,Option.getD_none]

set_option maxHeartbeats 4000000 in
set_option maxRecDepth 100000 in
theorem rparse3_any (s:ByteArray) (w:World) (hs:s.size≤100000):
 Calls Tryz.prog 128 #[.string s] w (ReadPost (readV s.data.toList none) w):=by
 have h0:AdrIn (w.alloc (.cells (adrCells Adr.zero (.slice none 0 0)).toArray 130)) w.heap.size Adr.zero (.slice none 0 0):=heap_alloc_new w _;have hb0:Below w.heap.size w (w.alloc (.cells (adrCells Adr.zero (.slice none 0 0)).toArray 130)):=(Below.refl _ w).alloc (Nat.le_refl _) _;have hz0:(w.alloc (.cells (adrCells Adr.zero (.slice none 0 0)).toArray 130)).heap.size=w.heap.size+1:=by simp
 have H0:=hid h0;have HB0:=hid hb0;have HZ0:=hid hz0;clear h0 hb0 hz0;by_cases hlong:4096<s.size
 ·have HN:=hid (readV_long (s:=s.data.toList) (b:=none) (by simpa using hlong))
  have hl':(4096:Int)<(s.size:Int):=by omega
  go_enter Tryz.func128,Tryz.ntmps128
  go_wp2_with (refine wpList_store_mid rfl 130 (.tmp 2) (.tmp 13) rfl w.heap.size 0 (adrCells Adr.zero (.slice none 0 0)).toArray rfl rfl H0.out.there (sizeUa _ _) (all_oneCell_toArray (adrCells_one _ _ ⟨_,_,_,rfl⟩)) ?_)
  refine bodyPost_ret (results_u2 rfl _ _ w.heap.size Adr.zero (.slice none 0 0) rfl (range_row H0.out.store)) rfl ⟨.slice none 0 0,?_,?_,below_setCells (Nat.le_refl _) _ _ _ HB0.out⟩
  ·rw [HN.out];rfl
  ·rw [HN.out];exact own_nil _ _ _
 ·have hl': ¬ (4096:Int)<(s.size:Int):=by omega
  have hnl: ¬ 4096<s.data.toList.length:=by simpa using hlong
  obtain ⟨C,hC⟩: ∃ X:ByteArray,X=⟨(cleanV s.data.toList).toArray⟩:=⟨_,rfl⟩
  have hCl:C.data.toList=cleanV s.data.toList:=by rw [hC]
  have hCs:C.size≤100000:=by rw [hC];exact size_le (clean_le _) hs
  have hpl:=part_le 35 C.data.toList;obtain ⟨X,hX⟩: ∃ X:ByteArray,X=⟨(part 35 C.data.toList).1.toArray⟩:=⟨_,rfl⟩
  have hXl:X.data.toList=(part 35 C.data.toList).1:=by rw [hX]
  have hXs:X.size≤100000:=by rw [hX];exact size_le hpl.1 hCs
  obtain ⟨F,hF⟩: ∃ F,F=pct 2 (part 35 C.data.toList).2.1:=⟨_,rfl⟩
  obtain ⟨hf,hhf⟩: ∃ F,F=(part 35 C.data.toList).2.2:=⟨_,rfl⟩
  have HCl:Hid (∀ w:World,Calls Tryz.prog 172 #[.string s] w fun e w'=>e = .returned (.string C)∧w=w'):=fun w=>by rw [hC];exact rclean_any s w (by omega)
  have HSp:Hid (∀ (w:World) (b:Nat),AdrIn w b Adr.zero (.slice none 0 0)→Calls Tryz.prog 171 #[.pointer (some ⟨b,0,none⟩),.string C] w fun e w'=>e = .returned (.string X)∧Only b w w'∧AdrIn w' b { Adr.zero with fragment:=F,hasFragment:=hf } (.slice none 0 0)):=fun w b h=>by
   have:=rsplit_any C b Adr.zero (.slice none 0 0) w hCs h ⟨rfl,rfl⟩
   rw [← hX,← hF,← hhf] at this;exact this
  obtain ⟨o,ho⟩: ∃ o,o=schemeV X.data.toList:=⟨_,rfl⟩
  have HSc:Hid (∀ w:World,Calls Tryz.prog 173 #[.string X] w fun e w'=>e = .returned (schP o)∧Below w.heap.size w w'):=fun w=>by rw [ho];exact rscheme_any X w (by omega)
  have ho2:schemeV (part 35 (cleanV s.data.toList)).1=o:=by rw [ho,hXl,hCl]
  have HNo:=hid (show o=none→readV s.data.toList none = .error 12 by
   intro h;exact readV_bare hnl (begin_none (by rw [ho2,h])))
  have HSo:=hid (show ∀ n b,o=some (n,b)→readV s.data.toList none=startV { ({ ({ Adr.zero with fragment:=F,hasFragment:=hf }:Adr) with scheme:=n }:Adr) with port:= -1 } b∧b.length≤100000 by
   intro n b h;have h1:=begin_some (s:=s.data.toList) (by rw [ho2,h])
   have h2:=schemeV_ne (ho2.trans h);rw [readV_full hnl (by rw [h1];exact h2.1),h1,hF,hhf,hCl];refine ⟨rfl,?_⟩
   rw [← hCl,← hXl] at h2;have:=h2.2.2;rw [← Lib.size_eq] at this
   omega)
  clear hC hCl hpl hX hXl hF hhf ho ho2 hnl hlong;have hN1:AdrIn ((w.alloc (.cells (adrCells Adr.zero (.slice none 0 0)).toArray 130)).alloc (.cells (adrCells Adr.zero (.slice none 0 0)).toArray 130)) (w.heap.size+1) Adr.zero (.slice none 0 0):=by
   have:=heap_alloc_new (w.alloc (.cells (adrCells Adr.zero (.slice none 0 0)).toArray 130)) (.cells (adrCells Adr.zero (.slice none 0 0)).toArray 130);rw [HZ0.out] at this;exact this
  have hR1:AdrIn ((w.alloc (.cells (adrCells Adr.zero (.slice none 0 0)).toArray 130)).alloc (.cells (adrCells Adr.zero (.slice none 0 0)).toArray 130)) w.heap.size Adr.zero (.slice none 0 0):=H0.out.kept ((Below.refl _ _).alloc (Nat.le_refl _) _);have hB1:Below w.heap.size w ((w.alloc (.cells (adrCells Adr.zero (.slice none 0 0)).toArray 130)).alloc (.cells (adrCells Adr.zero (.slice none 0 0)).toArray 130)):=below2 HB0.out ((Below.refl _ _).alloc (Nat.le_refl _) _);have HN1:=hid hN1;have HR1:=hid hR1;have HB1:=hid hB1;clear hN1 hR1 hB1
  go_enter Tryz.func128,Tryz.ntmps128
  go_wp2_with fail
  refine (HCl.out _).mono ?_;rintro e w' ⟨rfl,rfl⟩
  go_wp2_with fail
  refine (HSp.out _ _ HN1.out).mono ?_;rintro e w2 ⟨rfl,ho2,h2⟩
  have HR2:=hid (show AdrIn w2 w.heap.size Adr.zero (.slice none 0 0) by
   have:=HR1.out;unfold AdrIn at this ⊢;rw [ho2.1.block _ (by omega)];exact this)
  have HB2:=hid (HB1.out.trans (ho2.1.mono (by omega)));have H2:=hid h2;clear ho2 h2
  go_wp2_with fail
  refine (HSc.out _).mono ?_;rintro e w3 ⟨rfl,hb3⟩
  have H3:=hid (H2.out.kept hb3);have HR3:=hid (HR2.out.kept hb3);have HB3:=hid (below2 HB2.out hb3);clear hb3
  cases o with
  | none=>
    have HN:=hid (HNo.out rfl);rw [show schP none = .tuple #[.string ⟨#[]⟩,.string ⟨#[]⟩,.bool false] from rfl]
    go_wp2_with (refine wpList_store_mid rfl 130 (.tmp 2) (.tmp 25) rfl w.heap.size 0 (adrCells Adr.zero (.slice none 0 0)).toArray rfl rfl HR3.out.there (sizeUa _ _) (all_oneCell_toArray (adrCells_one _ _ ⟨_,_,_,rfl⟩)) ?_)
    refine bodyPost_ret (results_u2 rfl _ _ w.heap.size Adr.zero (.slice none 0 0) rfl (range_row HR3.out.store)) rfl ⟨.slice none 0 0,?_,?_,below_setCells (Nat.le_refl _) _ _ _ HB3.out⟩
    ·rw [HN.out];rfl
    ·rw [HN.out];exact own_nil _ _ _
  | some nb=>
    obtain ⟨n,bh⟩:=nb
    obtain ⟨hread,hbl⟩:=HSo.out n bh rfl
    obtain ⟨NB,hNB⟩: ∃ X:ByteArray,X=⟨n.toArray⟩:=⟨_,rfl⟩
    obtain ⟨BB,hBB⟩: ∃ X:ByteArray,X=⟨bh.toArray⟩:=⟨_,rfl⟩
    have hBs:BB.size≤100000:=by rw [hBB];exact hbl
    rw [show schP (some (n,bh)) = .tuple #[.string NB,.string BB,.bool true] by rw [hNB,hBB];rfl];have hc0:=H3.out.cell 0 _ rfl;have hf0:=H3.out.frozen 0;obtain ⟨U,hU⟩: ∃ U:Adr,U={ ({ Adr.zero with fragment:=F,hasFragment:=hf }:Adr) with scheme:=n }:=⟨_,rfl⟩
    have h4:AdrIn (w3.setCell ⟨w.heap.size+1,0,none⟩ (.string NB)) (w.heap.size+1) U (.slice none 0 0):=by rw [hU,hNB];exact H3.out.set 0 _ rfl
    have hr4:AdrIn (w3.setCell ⟨w.heap.size+1,0,none⟩ (.string NB)) w.heap.size Adr.zero (.slice none 0 0):=HR3.out.set_other (by omega) 0 _
    have hb4:Below w.heap.size w (w3.setCell ⟨w.heap.size+1,0,none⟩ (.string NB)):=HB3.out.setCell (p:=⟨w.heap.size+1,0,none⟩) (by show w.heap.size≤w.heap.size+1;omega) _
    have hread2:readV s.data.toList none=startV { U with port:= -1 } BB.data.toList:=by rw [hread,hU,hBB]
    obtain ⟨r,hr⟩: ∃ r,r=startV { U with port:= -1 } BB.data.toList:=⟨_,rfl⟩
    have HFu:=hid (fun (w':World) (h:AdrIn w' (w.heap.size+1) U (.slice none 0 0))=>rfull_any BB (w.heap.size+1) U (.slice none 0 0) w' hBs h (by rw [hU];exact ⟨rfl,rfl⟩));rw [← hr] at HFu;have HN:=hid (show readV s.data.toList none=r by rw [hread2,hr]);have HEr:=hid (show ∀ e,r = .error e→e=10∨e=11 by intro e he;exact startV_err (hr.symm.trans he));have H4:=hid h4;have HR4:=hid hr4;have HB4:=hid hb4;clear hread hbl hNB hBB hU h4 hr4 hb4 hread2 hr HSo HNo
    go_wp2_with fail
    generalize (w3.setCell ⟨w.heap.size+1,0,none⟩ (.string NB))=w4 at *
    refine (HFu.out _ H4.out).mono ?_;rintro e w5 ⟨rfl,hb5,h5⟩
    have HR5:=hid (show AdrIn w5 w.heap.size Adr.zero (.slice none 0 0) by
     have:=HR4.out;unfold AdrIn at this ⊢;rw [hb5.block _ (by omega)];exact this)
    have HB5:=hid (HB4.out.trans (hb5.mono (by omega)));have hsz4:w.heap.size≤w4.heap.size:=HB4.out.size;have H5:=hid h5;clear hb5 h5
    cases r with
    | error ee=>
      have hne:((numOf (.error ee):Int) != 0)=true:=by
       rcases HEr.out ee rfl with h | h<;>rw [h]<;>rfl
      have HV:=hid (show numOf (.error ee)=ee from rfl)
      go_wp2_with (refine wpList_store_mid rfl 130 (.tmp 2) (.tmp 32) rfl w.heap.size 0 (adrCells Adr.zero (.slice none 0 0)).toArray rfl rfl HR5.out.there (sizeUa _ _) (all_oneCell_toArray (adrCells_one _ _ ⟨_,_,_,rfl⟩)) ?_)
      refine bodyPost_ret (results_u2 rfl _ _ w.heap.size Adr.zero (.slice none 0 0) rfl (range_row HR5.out.store)) rfl ⟨.slice none 0 0,?_,?_,below_setCells (Nat.le_refl _) _ _ _ HB5.out⟩
      ·rw [HN.out];rfl
      ·rw [HN.out];exact own_nil _ _ _
    | ok v=>
      obtain ⟨pv,h6,hown⟩:=H5.out v rfl
      have HU6:=hid h6;have HO6:=hid (own_weak hown hsz4);have hsl:=own_sl hown;rw [show numOf (.ok v)=0 from rfl];clear h6 hown
      go_wp2_with (first | refine wpList_load_mid rfl 130 (.tmp 4) rfl (w.heap.size+1) 0 rfl (adrCells v pv) _ (range_row HU6.out) Tryz.underlying130 rfl (sizeUl _ pv) ?_ | refine wpList_store_mid rfl 130 (.tmp 2) (.tmp 34) rfl w.heap.size 0 (adrCells v pv).toArray rfl rfl HR5.out.there (sizeUa _ pv) (all_oneCell_toArray (adrCells_one _ pv hsl)) ?_)
      refine bodyPost_ret (results_u2 rfl _ _ w.heap.size v pv rfl (range_row HR5.out.store)) rfl ⟨pv,?_,?_,below_setCells (Nat.le_refl _) _ _ _ HB5.out⟩
      ·rw [HN.out];rfl
      ·rw [HN.out];exact own_cells HO6.out HR5.out _ _

end Go.Proofs.YtolioccofbhliaaGreatDoor

namespace Go.Proofs.YtolioccofbhliaaGreatDoor
open Go.RowKit

def slL (L:List (List UInt8)):List UInt8:=L.flatMap (fun p=>47::p)

theorem slL_snoc (L:List (List UInt8)) (p:List UInt8):slL (L++[p])=slL L++47::p:=by simp [slL]

theorem slL_take (L:List (List UInt8)) (k:Nat):(slL (L.take k)).length≤(slL L).length:=by
 have:slL L=slL (L.take k)++slL (L.drop k):=by rw [slL,slL,slL,← List.flatMap_append,List.take_append_drop]
 rw [this,List.length_append];omega

end Go.Proofs.YtolioccofbhliaaGreatDoor

namespace Go.Proofs.YtolioccofbhliaaGreatDoor
open Go.RowKit

def Twelve (W:World) (b:Nat) (y0 y1 y2 y3 y4 y5 y6 y7 y8 y9 y10 y11:Value) (X:World):Prop:=Below W.heap.size W X∧X.cell? ⟨b,0,none⟩=some y0∧X.cell? ⟨b,1,none⟩=some y1∧X.cell? ⟨b,2,none⟩=some y2∧X.cell? ⟨b,3,none⟩=some y3∧X.cell? ⟨b,4,none⟩=some y4∧X.cell? ⟨b,5,none⟩=some y5∧X.cell? ⟨b,6,none⟩=some y6∧X.cell? ⟨b,7,none⟩=some y7∧X.cell? ⟨b,8,none⟩=some y8∧X.cell? ⟨b,9,none⟩=some y9∧X.cell? ⟨b,10,none⟩=some y10∧X.cell? ⟨b,11,none⟩=some y11

theorem Twelve.kept {W X Y:World} {b:Nat} {y0 y1 y2 y3 y4 y5 y6 y7 y8 y9 y10 y11:Value} (h:Twelve W b y0 y1 y2 y3 y4 y5 y6 y7 y8 y9 y10 y11 X) (hb:Below X.heap.size X Y):Twelve W b y0 y1 y2 y3 y4 y5 y6 y7 y8 y9 y10 y11 Y:=by
 obtain ⟨h0,c0,c1,c2,c3,c4,c5,c6,c7,c8,c9,c10,c11⟩:=h
 have key: ∀ (j:Nat) (y:Value),X.cell? ⟨b,j,none⟩=some y→Y.cell? ⟨b,j,none⟩=some y:=fun j y h=>(hb.cell (World.block_lt_of_cell? X _ h)).trans h
 exact ⟨below2 h0 hb,key _ _ c0,key _ _ c1,key _ _ c2,key _ _ c3,key _ _ c4,key _ _ c5,key _ _ c6,key _ _ c7,key _ _ c8,key _ _ c9,key _ _ c10,key _ _ c11⟩

end Go.Proofs.YtolioccofbhliaaGreatDoor

namespace Go.Proofs.YtolioccofbhliaaGreatDoor
open Go.RowKit

theorem hostV_len (l:List UInt8) (b:Bool) (a:List UInt8) (h:parseV l b=some a):a.length≤3*l.length+1000:=by
 unfold parseV at h;split at h
 ·unfold bracketV at h
  split at h
  ·cases hs:sixV (Lib.trimSuffix (l.drop 1) [93]) with
   | none=>rw [hs] at h;cases h
   | some x=>
     rw [hs] at h;simp only [Option.map_some,Option.some.injEq] at h
     have:=text6_le x (sixV_ok hs).1;rw [← h];simp;omega
  ·cases h
 ·split at h
  ·unfold nameV at h
   split at h
   ·cases h
   ·split at h
    ·cases hf:fourV (low (unpct l)) with
     | none=>rw [hf] at h;cases h
     | some n=>
       rw [hf] at h;simp only [Option.map_some,Option.some.injEq] at h
       rw [← h];have:=text4_le n;omega
    ·simp only [Option.some.injEq] at h
     have h1:=unpct_le l;rw [← h,show low (unpct l)=(unpct l).map lowC from rfl,List.length_map];omega
  ·unfold otherV at h
   split at h
   ·cases h
   ·simp only [Option.some.injEq] at h
    have:=pct_le 1 l;rw [← h];omega

theorem slL_nil:slL []=[]:=rfl

theorem slL_drop (L:List (List UInt8)):(slL L.dropLast).length≤(slL L).length:=by
 rw [List.dropLast_eq_take];exact slL_take L _

theorem slL_len (L:List (List UInt8)):L.length≤(slL L).length:=by
 induction L with
 | nil=>simp
 | cons p L ih=>simp only [slL,List.flatMap_cons,List.length_append,List.length_cons] at ih ⊢;omega

theorem slL_flat (L:List (List UInt8)):L.flatten.length≤(slL L).length:=by
 induction L with
 | nil=>simp
 | cons p L ih=>simp only [slL,List.flatMap_cons,List.length_append,List.length_cons,List.flatten_cons] at ih ⊢;omega

theorem stepP_sl (out:List (List UInt8)) (p:List UInt8) (mo:Bool):(slL (stepP out p mo)).length≤(slL out).length+1+3*p.length:=by
 have h1:=slL_drop out;have h2:=pct_le 5 p;rcases dotsV_cases p with h | h | h
 ·rw [stepP0 h,slL_snoc,List.length_append,List.length_cons];omega
 ·cases mo
  ·rw [stepP1' h,slL_snoc,List.length_append,List.length_cons,List.length_nil];omega
  ·rw [stepP1 h];omega
 ·cases mo
  ·rw [stepP2' h,slL_snoc,List.length_append,List.length_cons,List.length_nil];omega
  ·rw [stepP2 h];omega

theorem pathL_sl (L:List (List UInt8)): ∀ out,(slL (pathL out L)).length≤(slL out).length+3*(slL L).length:=by
 induction L with
 | nil=>intro out;rw [pathL];omega
 | cons p L ih=>
   intro out;have h3:(slL (p::L)).length=1+p.length+(slL L).length:=by simp [slL];omega
   by_cases h:L=[]
   ·subst h
    rw [pathL_last];have:=stepP_sl out p false;omega
   ·rw [pathL_more out p L h]
    have h1:=stepP_sl out p true;have h2:=ih (stepP out p true);omega

theorem cutL_sl (c:UInt8) (l:List UInt8):(slL (cutL c l)).length=l.length+1:=by
 induction l with
 | nil=>rfl
 | cons x l ih=>
   rw [cutL];split
   ·have:slL ([]::cutL c l)=47::slL (cutL c l):=rfl
    rw [this,List.length_cons,ih];rfl
   ·cases hc:cutL c l with
    | nil=>exact absurd hc (cutL_ne c l)
    | cons h t=>
      rw [hc] at ih;simp only [slL,List.flatMap_cons,List.length_append,List.length_cons] at ih ⊢
      omega

theorem pathV_sl (sp:Bool) (hv:List (List UInt8)) (s:List UInt8):(slL (pathV sp hv s)).length≤(slL hv).length+3*(s.length+1):=by
 unfold pathV;split
 ·simp [slL_nil]
 ·have h1:=pathL_sl (cutL 47 (over1 s)) hv
  rw [cutL_sl] at h1;have:=over1_le s;omega

def Slim (n:Nat) (u:Adr):Prop:=
 (u.port = -1∨(0≤u.port∧u.port≤65535))∧u.scheme.length≤n∧u.user.length≤n∧u.pass.length≤n∧u.host.length≤n∧(slL u.path).length≤n∧u.query.length≤n∧u.fragment.length≤n

theorem Slim.mono {n m:Nat} {u:Adr} (h:Slim n u) (hn:n≤m):Slim m u:=by
 obtain ⟨h1,h2,h3,h4,h5,h6,h7,h8⟩:=h
 exact ⟨h1,by omega,by omega,by omega,by omega,by omega,by omega,by omega⟩

theorem ahead_len (ends l:List UInt8):(aheadV ends l).1.length≤l.length∧(aheadV ends l).2.length≤l.length:=
 ⟨(List.takeWhile_prefix _).length_le,(List.dropWhile_suffix _).length_le⟩

theorem withQuery_slim {n:Nat} {u:Adr} {q:List UInt8} (h:Slim n u) (hq:3*q.length≤n):Slim n (withQuery u q):=by
 unfold withQuery;split
 ·exact h
 ·obtain ⟨h1,h2,h3,h4,h5,h6,h7,h8⟩:=h
  refine ⟨h1,h2,h3,h4,h5,h6,?_,h8⟩
  show (querV _ (q.drop 1)).length≤n;unfold querV;have:=pct_le (if specV u.scheme then 4 else 3) (q.drop 1);rw [List.length_drop] at this;omega

theorem withPath_slim {n:Nat} {u:Adr} {hv:List (List UInt8)} {r:List UInt8} (h:Slim n u) (hr:(slL hv).length+3*(r.length+1)≤n):Slim n (withPath u hv r):=by
 have ha:=ahead_len [63] r;unfold withPath;refine withQuery_slim ?_ (by omega)
 obtain ⟨h1,h2,h3,h4,h5,h6,h7,h8⟩:=h
 refine ⟨h1,h2,h3,h4,h5,?_,h7,h8⟩
 have:=pathV_sl (specV u.scheme) hv (aheadV [63] r).1;show (slL (pathV _ hv _)).length≤n;omega

theorem portV_ok {own:Int} {t:List UInt8} {p:Int} (h:portV own t=some p):p = -1∨(0≤p∧p≤65535):=by
 unfold portV at h;split at h
 ·cases h;exact .inl rfl
 ·split at h
  ·rename_i h2
   simp only [Bool.and_eq_true,decide_eq_true_eq] at h2
   have h3:0≤intV t:=(intV_range t).1;split at h
   ·cases h;exact .inl rfl
   ·cases h;exact .inr ⟨h3,h2.2⟩
  ·cases h

theorem authV_slim {sc s a b h:List UInt8} {p:Int} (e:authV sc s = .ok (a,b,h,p)):(p = -1∨(0≤p∧p≤65535))∧a.length≤3*s.length∧b.length≤3*s.length∧h.length≤3*s.length+1000:=by
 unfold authV at e;split at e
 ·cases e
 ·rename_i q hq
  split at e
  ·cases e
  ·rename_i g hgp
   split at e
   ·cases e
   ·injection e with e
    simp only [Prod.mk.injEq] at e;obtain ⟨rfl,rfl,rfl,rfl⟩:=e
    have h1:=at_le s;have h2:=part_le 58 (atV s).1;have h3:=pct_le 6 (part 58 (atV s).1).1;have h4:=pct_le 6 (part 58 (atV s).1).2.1;have h5:=hostV_len _ _ _ hgp;rw [List.length_take] at h5;refine ⟨portV_ok hq,by omega,by omega,by omega⟩

theorem withAuth_slim {n:Nat} {u v:Adr} {r:List UInt8} (h:Slim n u) (hr:3*r.length+1003≤n) (e:withAuth u r = .ok v):Slim n v:=by
 unfold withAuth at e;split at e
 ·cases e
 ·rename_i a b hh p ha
  injection e with e
  subst e;have hl:=ahead_len [47,63] r
  obtain ⟨k1,k2,k3,k4⟩:=authV_slim ha
  obtain ⟨h1,h2,h3,h4,h5,h6,h7,h8⟩:=h
  refine withPath_slim ⟨k1,h2,?_,?_,?_,h6,h7,h8⟩ ?_
  ·show a.length≤n;omega
  ·show b.length≤n;omega
  ·show hh.length≤n;omega
  ·simp only [slL_nil,List.length_nil];omega

theorem startV_slim {n:Nat} {u v:Adr} {r:List UInt8} (h:Slim n u) (hr:3*r.length+1003≤n) (e:startV u r = .ok v):Slim n v:=by
 unfold startV at e;split at e
 ·refine withAuth_slim h ?_ e
  have:=skip_le (slashV r);rw [slash_len] at this;omega
 ·split at e
  ·refine withAuth_slim h ?_ e
   rw [List.length_drop];omega
  ·split at e
   ·injection e with e
    subst e;refine withPath_slim h ?_;simp only [slL_nil,List.length_nil];omega
   ·injection e with e
    subst e;have ha:=ahead_len [63] r;have hp:=pct_le 1 (aheadV [63] r).1;refine withQuery_slim ?_ (by omega)
    obtain ⟨h1,h2,h3,h4,h5,h6,h7,h8⟩:=h
    refine ⟨h1,h2,h3,h4,h5,?_,h7,h8⟩
    show (slL [pct 1 _]).length≤n;simp only [slL,List.flatMap_cons,List.flatMap_nil,List.append_nil,List.length_cons]
    omega

theorem begin_slim (s:List UInt8) (n:Nat) (h:3*s.length≤n):Slim n (beginU s).1:=by
 have h1:=clean_le s;have h2:=part_le 35 (cleanV s);have h3:=pct_le 2 (part 35 (cleanV s)).2.1;have h4:(((schemeV (part 35 (cleanV s)).1).getD ([],(part 35 (cleanV s)).1)).1).length≤s.length:=by
  unfold schemeV;split
  ·have:=part_le 58 (part 35 (cleanV s)).1
   rw [Option.getD_some,show (low (part 58 (part 35 (cleanV s)).1).1)=(part 58 (part 35 (cleanV s)).1).1.map lowC from rfl,List.length_map]
   omega
  ·simp
 refine ⟨.inl rfl,?_,Nat.zero_le _,Nat.zero_le _,Nat.zero_le _,Nat.zero_le _,Nat.zero_le _,?_⟩
 ·show _≤n
  exact Nat.le_trans h4 (by omega)
 ·show (pct 2 (part 35 (cleanV s)).2.1).length≤n
  omega

theorem parse_slim {s:List UInt8} {u:Adr} (e:readV s none = .ok u):Slim 20000 u:=by
 unfold readV at e;split at e
 ·cases e
 ·simp only at e
  split at e
  ·cases e
  ·have hl:=begin_le s
   exact startV_slim (begin_slim s _ (by omega)) (by omega) e

end Go.Proofs.YtolioccofbhliaaGreatDoor

namespace Go.Proofs.YtolioccofbhliaaGreatDoor
open Go.RowKit

set_option maxHeartbeats 400000 in
theorem few_any (s:ByteArray) (n:Nat) (w:World) (hn:n≤1000000) (hs:s.size≤9223372036854775807):
 Calls Tryz.prog 39 #[.string s,.int .i64 n] w fun e w'=>e = .returned (.string ⟨(s.data.toList.take n).toArray⟩)∧w=w':=by
 by_cases h:n<s.size
 ·have h':(n:Int)<(s.size:Int):=by omega
  have HE:=hid (show s.extract 0 n=⟨(s.data.toList.take n).toArray⟩ from ba_ext (by rw [Lib.extract_data];simp))
  go_enter Tryz.func39,Tryz.ntmps39
  go_wp2
  go_ret
  rw [← HE.out];exact ⟨rfl,rfl⟩
 ·have h': ¬ ((n:Int)<(s.size:Int)):=by omega
  have HE:=hid (show s=⟨(s.data.toList.take n).toArray⟩ from ba_ext (by rw [List.take_of_length_le (by simp;omega)]))
  go_enter Tryz.func39,Tryz.ntmps39
  go_wp2
  go_ret
  rw [← HE.out];exact ⟨rfl,rfl⟩

end Go.Proofs.YtolioccofbhliaaGreatDoor

namespace Go.Proofs.YtolioccofbhliaaGreatDoor
open Go.RowKit

def urlV (s:List UInt8):Except Int Adr:=readV (s.take 300) none

def isOk (r:Except Int Adr):Bool:=match r with | .ok _=>true | .error _=>false

def UPost (r:Except Int Adr) (w:World) (e:Ending) (w':World):Prop:=
 ∃ pv,e = .returned (.tuple #[adrVal (adrOf r) pv,.bool (isOk r)])∧w'.ownsRow w.heap.size 9 1 pv (adrOf r).path.length (cellsS (adrOf r).path)∧Below w.heap.size w w'

theorem numOf_isOk {s:List UInt8}:decide (numOf (readV s none)=0)=isOk (readV s none):=by
 cases h:readV s none with
 | ok u=>rfl
 | error e=>
   have:e=3∨e=10∨e=11∨e=12:=by
    unfold readV at h;split at h
    ·injection h with h;exact .inl h.symm
    ·simp only at h
     split at h
     ·injection h with h;exact .inr (.inr (.inr h.symm))
     ·rcases startV_err h with h | h
      ·exact .inr (.inl h)
      ·exact .inr (.inr (.inl h))
   rcases this with rfl | rfl | rfl | rfl<;>rfl

set_option maxHeartbeats 1000000 in
set_option maxRecDepth 100000 in
theorem url_k (s:ByteArray) (w:World) (hs:s.size≤9223372036854775807):
 Calls Tryz.prog 78 #[.string s] w (UPost (urlV s.data.toList) w):=by
 have h0:AdrIn (w.alloc (.cells (adrCells Adr.zero (.slice none 0 0)).toArray 130)) w.heap.size Adr.zero (.slice none 0 0):=heap_alloc_new w _;have hb0:Below w.heap.size w (w.alloc (.cells (adrCells Adr.zero (.slice none 0 0)).toArray 130)):=(Below.refl _ w).alloc (Nat.le_refl _) _;have H0:=hid h0;have HB0:=hid hb0;clear h0 hb0;obtain ⟨F,hF⟩: ∃ F:ByteArray,⟨(s.data.toList.take 300).toArray⟩=F:=⟨_,rfl⟩
 have hFl:F.data.toList=s.data.toList.take 300:=by rw [← hF]
 have hFs:F.size≤100000:=by rw [Lib.size_eq,hFl,List.length_take];omega
 have HFw:=hid (fun w=>few_any s 300 w (by omega) hs);rw [hF] at HFw;have HRd:=hid (fun w=>rparse3_any F w hFs);have HN:=hid (numOf_isOk (s:=F.data.toList));have HU:=hid (show urlV s.data.toList=readV F.data.toList none by unfold urlV;rw [hFl]);obtain ⟨r,hr⟩: ∃ r,readV F.data.toList none=r:=⟨_,rfl⟩
 rw [hr] at HRd HN HU;clear hF hFl hFs hr
 go_enter Tryz.func78,Tryz.ntmps78
 go_wp2_with fail
 refine (HFw.out _).mono ?_;rintro e w' ⟨rfl,rfl⟩
 go_wp2_with fail
 refine (HRd.out _).mono ?_;rintro e w1 ⟨pv,rfl,hown,hb1⟩
 have h1:=H0.out.kept hb1;have HB1:=hid (below2 HB0.out hb1);have HO1:=hid (ownsRow_lower hown HB0.out.size);have hsl:=own_sl hown;obtain ⟨a0,n0,c0,rfl⟩:=hsl
 obtain ⟨s0,s1,s2,s3,b4,i5,b6,s8,s9,b10,b11,hx⟩: ∃ s0 s1 s2 s3 b4 i5 b6 s8 s9 b10 b11,adrCells (adrOf r) (.slice a0 n0 c0)=[.string s0,.string s1,.string s2,.string s3,.bool b4,.int .i64 i5,.bool b6,.slice a0 n0 c0,.string s8,.string s9,.bool b10,.bool b11]:=⟨_,_,_,_,_,_,_,_,_,_,_,rfl⟩
 have hva:adrVal (adrOf r) (.slice a0 n0 c0) = .agg #[.string s0,.string s1,.string s2,.string s3,.bool b4,.int .i64 i5,.bool b6,.slice a0 n0 c0,.string s8,.string s9,.bool b10,.bool b11]:=by unfold adrVal;rw [hx]
 have h4:AdrIn (w1.alloc (.cells #[.string s0,.string s1,.string s2,.string s3,.bool b4,.int .i64 i5,.bool b6,.slice a0 n0 c0,.string s8,.string s9,.bool b10,.bool b11] 130)) w1.heap.size (adrOf r) (.slice a0 n0 c0):=by
  have:=heap_alloc_new w1 (.cells #[.string s0,.string s1,.string s2,.string s3,.bool b4,.int .i64 i5,.bool b6,.slice a0 n0 c0,.string s8,.string s9,.bool b10,.bool b11] 130);unfold AdrIn;rw [hx];exact this
 have hb4:Below w1.heap.size w1 (w1.alloc (.cells #[.string s0,.string s1,.string s2,.string s3,.bool b4,.int .i64 i5,.bool b6,.slice a0 n0 c0,.string s8,.string s9,.bool b10,.bool b11] 130)):=(Below.refl _ w1).alloc (Nat.le_refl _) _;have h6:=h1.kept hb4;have HO4:=hid (ownsRow_same HO1.out fun g hg=>hb4.block g (HO1.out.lt g hg).2);have HB4:=hid (below2 HB1.out hb4);have y0:=h6.cell 0 _ rfl;have f0:=h6.frozen 0;have y1:=h6.cell 1 _ rfl;have f1:=h6.frozen 1;have y2:=h6.cell 2 _ rfl;have f2:=h6.frozen 2;have y3:=h6.cell 3 _ rfl;have f3:=h6.frozen 3;have y4:=h6.cell 4 _ rfl;have f4:=h6.frozen 4
 have y5:=h6.cell 5 _ rfl;have f5:=h6.frozen 5;have y6:=h6.cell 6 _ rfl;have f6:=h6.frozen 6;have y7:=h6.cell 7 _ rfl;have f7:=h6.frozen 7;have y8:=h6.cell 8 _ rfl;have f8:=h6.frozen 8;have y9:=h6.cell 9 _ rfl;have f9:=h6.frozen 9;have y10:=h6.cell 10 _ rfl;have f10:=h6.frozen 10;have y11:=h6.cell 11 _ rfl;have f11:=h6.frozen 11;have H6:=hid h6;have HX:=hid hx;have HV:=hid hva;clear h4 hb4 h6 h1 hb1 hown hx;rw [hva];clear hva
 go_wp2_with fail
 have hn:(numOf r==0)=isOk r:=HN.out;rw [hn,HU.out]
 have hrg:=range_row (H6.out.store (v:=adrOf r) (qv:= .slice a0 n0 c0));have hbl:=below_setCells (Nat.le_refl w.heap.size) (adrCells (adrOf r) (.slice a0 n0 c0)) 0 _ HB4.out;have how:=own_cells HO4.out H6.out (adrCells (adrOf r) (.slice a0 n0 c0)) 0;refine bodyPost_ret (results_u2 rfl _ _ w.heap.size (adrOf r) (.slice a0 n0 c0) rfl ?_) rfl ⟨.slice a0 n0 c0,?_,?_,?_⟩
 ·rw [HX.out] at hrg ⊢;exact hrg
 ·rfl
 ·rw [HX.out] at how;exact how
 ·rw [HX.out] at hbl;exact hbl

end Go.Proofs.YtolioccofbhliaaGreatDoor

namespace Go.Proofs.YtolioccofbhliaaGreatDoor
open Go.RowKit

theorem adr_named (u:Adr) (a:Option Addr) (n c:Nat): ∃ s0 s1 s2 s3 b4 i5 b6 s8 s9 b10 b11,adrCells u (.slice a n c)=[.string s0,.string s1,.string s2,.string s3,.bool b4,.int .i64 i5,.bool b6,.slice a n c,.string s8,.string s9,.bool b10,.bool b11]∧s0.data.toList=u.scheme∧s3.data.toList=u.host∧i5=u.port∧b6=u.opq:=⟨_,_,_,_,_,_,_,_,_,_,_,rfl,rfl,rfl,rfl,rfl⟩

end Go.Proofs.YtolioccofbhliaaGreatDoor

namespace Go.Proofs.YtolioccofbhliaaGreatDoor
open Go.RowKit

def orgCells (o:Org):List Value:=[.string ⟨o.scheme.toArray⟩,.string ⟨o.host.toArray⟩,.int .i64 o.port,.bool o.opq]

def orgVal (o:Org):Value:= .agg (orgCells o).toArray

def OrgIn (w:World) (b:Nat) (o:Org):Prop:=w.heap[b]? = some (.cells (orgCells o).toArray 56 (0,0))

def Org.nil:Org:=⟨[],[],0,false⟩

theorem OrgIn.lt {w:World} {b:Nat} {o:Org} (h:OrgIn w b o):b<w.heap.size:=(Array.getElem?_eq_some_iff.1 h).1

theorem OrgIn.kept {w w':World} {b:Nat} {o:Org} (h:OrgIn w b o) (hb:Below w.heap.size w w'):OrgIn w' b o:=by
 unfold OrgIn;rw [hb.block b h.lt];exact h

theorem OrgIn.cell {w:World} {b:Nat} {o:Org} (h:OrgIn w b o) (j:Nat) (v:Value) (hv:(orgCells o)[j]? = some v):w.cell? ⟨b,j,none⟩=some v:=by
 rw [Lib.cell_of_heap h];simpa using hv

theorem OrgIn.frozen {w:World} {b:Nat} {o:Org} (h:OrgIn w b o) (j:Nat):w.frozen? ⟨b,j,none⟩=false:=by
 simp [World.frozen?,show w.heap[b]? = _ from h]

theorem OrgIn.store {w:World} {b:Nat} {o p:Org} (h:OrgIn w b o):OrgIn (w.setCells b 0 (orgCells p)) b p:=by
 obtain ⟨C',e1,e2,_,e4⟩:=setCells_heap b 56 (0,0) (orgCells p) 0 w _ h
 unfold OrgIn;rw [e1];have:C'=(orgCells p).toArray:=by
  apply Array.ext_getElem?;intro j;by_cases hj:j<4
  ·have:=e4 j hj (by rw [Nat.zero_add];exact hj)
   rw [Nat.zero_add] at this;rw [this];simp
  ·have h2:C'.size=4:=by rw [e2];rfl
   rw [Array.getElem?_eq_none (by omega),Array.getElem?_eq_none (by simp [orgCells];omega)]
 rw [this]

theorem OrgIn.far {w:World} {b c j:Nat} {o:Org} {v:Value} (h:OrgIn w b o) (hne:b≠c):OrgIn (w.setCell ⟨c,j,none⟩ v) b o:=by
 unfold OrgIn;rw [heap_setCell_other _ _ _ _ (fun e=>hne (by simpa using e))];exact h

theorem OrgIn.fars {b c:Nat} {o:Org} (hne:b≠c): ∀ (vs:List Value) (j:Nat) (w:World),OrgIn w b o→OrgIn (w.setCells c j vs) b o
 | [],_,_,h=>h
 | v::r,j,w,h=>by rw [World.setCells];exact OrgIn.fars hne r (j+1) _ (h.far hne)

theorem AdrIn.fars {b c:Nat} {u:Adr} {pv:Value} (hne:b≠c): ∀ (vs:List Value) (j:Nat) (w:World),AdrIn w b u pv→AdrIn (w.setCells c j vs) b u pv
 | [],_,_,h=>h
 | v::r,j,w,h=>by
   rw [World.setCells];refine AdrIn.fars hne r (j+1) _ ?_;unfold AdrIn;rw [heap_setCell_other _ _ _ _ (fun e=>hne (by simpa using e))];exact h

theorem OrgIn.port {w:World} {b:Nat} {sc h:List UInt8} {n m:Int} {q:Bool} (H:OrgIn w b ⟨sc,h,n,q⟩):OrgIn (w.setCell ⟨b,2,none⟩ (.int .i64 m)) b ⟨sc,h,m,q⟩:=Lib.heap_setCell_same H (i:=2) (.int .i64 m)

theorem sizeO:(Tryz.prog.info? 56).map (·.size)=some 4:=by kernel_rfl

theorem results_o1 {fn:Func} {p:Tmp} (h:fn.results = #[.cell p 56]) (tmps:Array Value) (w:World) (b:Nat) (o:Org) (hp:tmps.getD p undef = .pointer (some ⟨b,0,none⟩)) (hc:w.rangeAt b 0 (orgCells o)):(results fn tmps).run Tryz.prog w = .ok (orgVal o) w:=by
 rw [Array.getD_eq_getD_getElem?] at hp;simp only [results,h]
 simp [Sem.run_bind,Result.andThen,hp,asAddr,run_loadVar_mid w b 0 56 (orgCells o) _ hc Tryz.underlying56 rfl sizeO,orgVal]

theorem orgV_no {u:Adr} (h:specV (orgA u).scheme=false):orgV u=Org.none:=by unfold orgV;rw [h];rfl

theorem orgV_yes {u:Adr} (h:specV (orgA u).scheme=true):orgV u=⟨(orgA u).scheme,(orgA u).host,hasP (orgA u),false⟩:=by unfold orgV;rw [h];rfl

theorem orgA_in {u:Adr} (h:webV (innV u).scheme=true):orgA u=innV u:=by unfold orgA;rw [h];rfl

theorem orgA_out {u:Adr} (h:webV (innV u).scheme=false):orgA u=u:=by unfold orgA;rw [h];rfl

def OfPost (o:Org) (w:World) (e:Ending) (w':World):Prop:=e = .returned (orgVal o)∧Below w.heap.size w w'

end Go.Proofs.YtolioccofbhliaaGreatDoor

namespace Go.Proofs.YtolioccofbhliaaGreatDoor
open Go.RowKit

def UrlAt (w:World) (u:Adr) (pv:Value):Prop:=PathAt w pv u.path∧u.path.length≤1000000∧u.path.flatten.length≤100000

theorem UrlAt.kept {w w':World} {u:Adr} {pv:Value} (h:UrlAt w u pv) (hb:Below w.heap.size w w'):UrlAt w' u pv:=⟨h.1.kept hb,h.2⟩

end Go.Proofs.YtolioccofbhliaaGreatDoor

namespace Go.Proofs.YtolioccofbhliaaGreatDoor
open Go.RowKit

def Rdr11 (w:World) (v:Value) (q:List UInt8→Bool):Prop:=
 ∃ (f:Nat) (lb:Array Value),v = .func (.func f) #[] lb∧(∀ args w,(callFunc f args).run Tryz.prog w = .ok (.enter f args) w) ∧ ∀ (X:World) (s:ByteArray),Below w.heap.size w X→s.size≤4000000000→Calls Tryz.prog f (#[.string s]++lb) X fun e w'=>e = .returned (.bool (q s.data.toList))∧Below X.heap.size X w'

theorem Rdr11.kept {w w':World} {v:Value} {q:List UInt8→Bool} (h:Rdr11 w v q) (hb:Below w.heap.size w w'):Rdr11 w' v q:=by
 obtain ⟨f,lb,h1,h2,h3⟩:=h
 exact ⟨f,lb,h1,h2,fun X s hX hs=>h3 X s (below2 hb hX) hs⟩

theorem keptC {w w':World} {a:Addr} {v:Value} (h:w.cell? a=some v) (hb:Below w.heap.size w w'):w'.cell? a=some v:=(hb.cell (World.block_lt_of_cell? w _ h)).trans h

end Go.Proofs.YtolioccofbhliaaGreatDoor

namespace Go.Proofs.YtolioccofbhliaaGreatDoor
open Go.RowKit

def textO (o:Org):List UInt8:=if o.opq then [110,117,108,108] else o.scheme++[58,47,47]++o.host++(if o.port=ownV o.scheme then [] else [58]++portT o.port)

set_option maxHeartbeats 8000000 in
set_option maxRecDepth 100000 in
theorem textO_any (o:Org) (w:World) (hg:Gd w) (hs:o.scheme.length≤1000000) (hh:o.host.length≤1000000) (hp:o.opq=false→0≤o.port∧o.port≤65535):
 Calls Tryz.prog 88 #[orgVal o] w fun e w'=>e = .returned (.string ⟨(textO o).toArray⟩)∧Below w.heap.size w w':=by
 obtain ⟨sa,ah,ap,ao⟩:=o
 obtain ⟨AS,rfl⟩: ∃ X:ByteArray,sa=X.data.toList:=⟨⟨sa.toArray⟩,rfl⟩
 obtain ⟨AH,rfl⟩: ∃ X:ByteArray,ah=X.data.toList:=⟨⟨ah.toArray⟩,rfl⟩
 rw [show orgVal ⟨AS.data.toList,AH.data.toList,ap,ao⟩ = .agg #[.string AS,.string AH,.int .i64 ap,.bool ao] from rfl];have hss:AS.size≤1000000:=by rw [Lib.size_eq];exact hs
 have hhs:AH.size≤1000000:=by rw [Lib.size_eq];exact hh
 obtain ⟨T1,hT1⟩: ∃ Z:ByteArray,AS++(⟨#[58,47,47]⟩:ByteArray)=Z:=⟨_,rfl⟩
 have hT1l:T1.data.toList=AS.data.toList++[58,47,47]:=by rw [← hT1,ByteArray.data_append,Array.toList_append]
 have hT1s:T1.size≤1000003:=by rw [Lib.size_eq,hT1l,List.length_append,← Lib.size_eq];simp;omega
 obtain ⟨T2,hT2⟩: ∃ Z:ByteArray,T1++AH=Z:=⟨_,rfl⟩
 have hT2l:T2.data.toList=AS.data.toList++[58,47,47]++AH.data.toList:=by rw [← hT2,ByteArray.data_append,Array.toList_append,hT1l]
 have hT2s:T2.size≤2000003:=by rw [Lib.size_eq,← hT2,ByteArray.data_append,Array.toList_append,List.length_append,← Lib.size_eq,← Lib.size_eq];omega
 obtain ⟨PT,hPT⟩: ∃ X:ByteArray,X=⟨(portT ap).toArray⟩:=⟨_,rfl⟩
 have hPl:PT.data.toList=portT ap:=by rw [hPT]
 have hPs:PT.size≤100:=by rw [hPT];exact portT_le ap
 obtain ⟨T3,hT3⟩: ∃ Z:ByteArray,(⟨#[58]⟩:ByteArray)++PT=Z:=⟨_,rfl⟩
 have hT3l:T3.data.toList=[58]++portT ap:=by rw [← hT3,ByteArray.data_append,Array.toList_append,hPl]
 have hT3s:T3.size≤101:=by rw [Lib.size_eq,hT3l,← hPl,List.length_append,← Lib.size_eq];simp;omega
 obtain ⟨T4,hT4⟩: ∃ Z:ByteArray,T2++T3=Z:=⟨_,rfl⟩
 have HT4:=hid (show T4.data.toList=AS.data.toList++[58,47,47]++AH.data.toList++([58]++portT ap) by rw [← hT4,ByteArray.data_append,Array.toList_append,hT2l,hT3l]);have HT2:=hid hT2l;obtain ⟨W,hW⟩: ∃ W,(w.alloc (.cells #[.string AS,.string AH,.int .i64 ap,.bool ao] 56))=W:=⟨_,rfl⟩
 have hbW:Below w.heap.size w W:=by rw [← hW];exact (Below.refl _ w).alloc (Nat.le_refl _) _
 have hrow:W.heap[w.heap.size]? = some (.cells #[.string AS,.string AH,.int .i64 ap,.bool ao] 56 (0,0)):=by rw [← hW];exact heap_alloc_new w _
 have h0:W.cell? ⟨w.heap.size,0,none⟩=some (.string AS):=by rw [Lib.cell_of_heap hrow];rfl
 have h1:W.cell? ⟨w.heap.size,1,none⟩=some (.string AH):=by rw [Lib.cell_of_heap hrow];rfl
 have h2:W.cell? ⟨w.heap.size,2,none⟩=some (.int .i64 ap):=by rw [Lib.cell_of_heap hrow];rfl
 have h3:W.cell? ⟨w.heap.size,3,none⟩=some (.bool ao):=by rw [Lib.cell_of_heap hrow];rfl
 have HKF:=hid (show ∀ Z,Below W.heap.size W Z→Z.cell? ⟨w.heap.size,0,none⟩=some (.string AS)∧Z.cell? ⟨w.heap.size,1,none⟩=some (.string AH)∧Z.cell? ⟨w.heap.size,2,none⟩=some (.int .i64 ap)∧Z.cell? ⟨w.heap.size,3,none⟩=some (.bool ao) from fun Z hZ=>⟨keptC h0 hZ,keptC h1 hZ,keptC h2 hZ,keptC h3 hZ⟩);have HGW:=hid (fun (X:World) (hX:Below W.heap.size W X)=>(hg.kept hbW).kept hX);have HBW:=hid hbW;have HOw:=hid (fun w=>own_any AS w);obtain ⟨ow,how⟩: ∃ z,ownV AS.data.toList=z:=⟨_,rfl⟩
 rw [how] at HOw;have HOwE:=hid how;have HPT:=hid hPT;clear hg hs hh hT1l hT2l hPT hPl hT3l hbW hrow how
 cases ao with
 | true=>
   clear hp
   go_enter Tryz.func88,Tryz.ntmps88
   go_wp2
   go_ret
   exact ⟨rfl,HBW.out⟩
 | false=>
   have HP:=hid (hp rfl);have HIt:Hid (∀ (X:World),Below W.heap.size W X→Calls Tryz.prog 141 #[.int .i64 ap] X fun e w'=>e = .returned (.string PT)∧Below X.heap.size X w'):=fun X hX=>by rw [HPT.out];exact itoaP_any ap X (HGW.out _ hX) HP.out.1 HP.out.2
   clear hp
   go_enter Tryz.func88,Tryz.ntmps88
   go_wp2_with fail
   have HQ0:=hid ((Below.refl W.heap.size W).drew);refine wp_region_held_drew (S:=(fun wx=>Below W.heap.size W wx)) (by kernel_rfl) HQ0.out (fun hHeld=> ?_)
   refine' wpAnyH_take (i:=0) (oi:=⟨some 12,_,_,_,_,_⟩) (v:=_) rfl (by kernel_rfl) (by kernel_rfl) (by kernel_rfl) (fun _ _ _ h=>h) (Or.inl ⟨by kernel_rfl,?hy1⟩) (by assumption) ?rest1
   case hy1=>(intro wx hSw;(try dsimp only at hSw);obtain ⟨k0,k1,k2,k3⟩:=HKF.out _ hSw;go_simp;first | done | with_reducible rfl | (rw [if_neg (by omega)];with_reducible rfl))
   (try simp only [Act.put,List.setIfInBounds_toArray,List.set_cons_zero,List.set_cons_succ])
   refine' wpAnyH_take (i:=1) (oi:=⟨some 13,_,_,_,_,_⟩) (v:=_) rfl (by kernel_rfl) (by kernel_rfl) (by kernel_rfl) (fun _ _ _ h=>h) (Or.inl ⟨by kernel_rfl,?hy2⟩) (by assumption) ?rest2
   case hy2=>(intro wx hSw;(try dsimp only at hSw);obtain ⟨k0,k1,k2,k3⟩:=HKF.out _ hSw;go_simp;first | done | with_reducible rfl | (rw [if_neg (by omega)];with_reducible rfl))
   (try simp only [Act.put,List.setIfInBounds_toArray,List.set_cons_zero,List.set_cons_succ])
   refine' wpAnyH_take (i:=2) (oi:=⟨some 14,_,_,_,_,_⟩) (v:=_) rfl (by kernel_rfl) (by kernel_rfl) (by kernel_rfl) (fun _ _ _ h=>h) (Or.inl ⟨by kernel_rfl,?hy3⟩) (by assumption) ?rest3
   case hy3=>(intro wx hSw;(try dsimp only at hSw);obtain ⟨k0,k1,k2,k3⟩:=HKF.out _ hSw;go_simp;first | done | with_reducible rfl | (rw [if_neg (by omega)];with_reducible rfl))
   (try simp only [Act.put,List.setIfInBounds_toArray,List.set_cons_zero,List.set_cons_succ])
   refine' wpAnyH_take (i:=3) (oi:=⟨some 15,_,_,_,_,_⟩) (v:=_) rfl (by kernel_rfl) (by kernel_rfl) (by kernel_rfl) (fun _ _ _ h=>h) (Or.inl ⟨by kernel_rfl,?hy4⟩) (by assumption) ?rest4
   case hy4=>(intro wx hSw;(try dsimp only at hSw);obtain ⟨k0,k1,k2,k3⟩:=HKF.out _ hSw;go_simp;first | done | with_reducible rfl | (rw [if_neg (by omega)];with_reducible rfl))
   (try simp only [Act.put,List.setIfInBounds_toArray,List.set_cons_zero,List.set_cons_succ])
   refine wpAnyH_ready (rs:=[4]) (by kernel_rfl) (by simp) ?_
   refine AllReadyH.cons rfl (fun K hK=> ?_) AllReadyH.nil;rw [if_pos (by kernel_rfl)]
   go_simp
   go_wp2_with (go_at_call 140;refine (HOw.out _).mono ?_;rintro e wz ⟨rfl,hwz⟩;rw [← hwz];clear hwz)
   refine hK.out _ _ HQ0.out (fun hHeld2=> ?_);clear hK K hHeld
   rename _=>hHeld
   by_cases hpo:ap=ow
   ·have hpo':(ap != ow)=false:=by rw [hpo];exact bne_self_eq_false ow
    have HZ:=hid (show textO ⟨AS.data.toList,AH.data.toList,ap,false⟩=AS.data.toList++[58,47,47]++AH.data.toList by unfold textO;simp [hpo,HOwE.out]);clear hpo
    refine' wpAnyH_take (i:=5) (oi:=⟨some 17,_,_,_,_,_⟩) (v:=_) rfl (by kernel_rfl) (by kernel_rfl) (by kernel_rfl) (fun _ _ _ h=>h) (Or.inl ⟨by kernel_rfl,?hy5⟩) (by assumption) ?rest5
    case hy5=>(intro wx hSw;(try dsimp only at hSw);obtain ⟨k0,k1,k2,k3⟩:=HKF.out _ hSw;go_simp;first | done | with_reducible rfl | (rw [if_neg (by omega)];with_reducible rfl))
    (try simp only [Act.put,List.setIfInBounds_toArray,List.set_cons_zero,List.set_cons_succ])
    refine wpAnyH_done (by kernel_rfl) ?_ _
    go_wp2
    go_ret
    exact ⟨ret_str' (by refine ba_ext ?_;rw [HT2.out,HZ.out]),below2 HBW.out HQ0.out⟩
   ·have hpo':(ap != ow)=true:=bne_iff_ne.2 hpo
    have HZ:=hid (show textO ⟨AS.data.toList,AH.data.toList,ap,false⟩=AS.data.toList++[58,47,47]++AH.data.toList++([58]++portT ap) by unfold textO;simp [hpo,HOwE.out]);clear hpo
    refine' wpAnyH_take (i:=5) (oi:=⟨some 17,_,_,_,_,_⟩) (v:=_) rfl (by kernel_rfl) (by kernel_rfl) (by kernel_rfl) (fun _ _ _ h=>h) (Or.inl ⟨by kernel_rfl,?hy6⟩) (by assumption) ?rest6
    case hy6=>(intro wx hSw;(try dsimp only at hSw);obtain ⟨k0,k1,k2,k3⟩:=HKF.out _ hSw;go_simp;first | done | with_reducible rfl | (rw [if_neg (by omega)];with_reducible rfl))
    (try simp only [Act.put,List.setIfInBounds_toArray,List.set_cons_zero,List.set_cons_succ])
    refine wpAnyH_done (by kernel_rfl) ?_ _
    obtain ⟨k0,k1,k2,k3⟩:=HKF.out _ HQ0.out
    go_wp2_with fail
    refine (HIt.out _ HQ0.out).mono ?_;rintro e w5 ⟨rfl,hb5⟩
    go_wp2
    go_ret
    exact ⟨ret_str' (by refine ba_ext ?_;rw [HT4.out,HZ.out]),below2 HBW.out (below2 HQ0.out hb5)⟩

end Go.Proofs.YtolioccofbhliaaGreatDoor

namespace Go.Proofs.YtolioccofbhliaaGreatDoor
def blC (c:UInt8):Bool:=blankI c.toNat

theorem all_reverse (A:List UInt8) (h:A.all blC=true):A.reverse.all blC=true:=by simpa using h

end Go.Proofs.YtolioccofbhliaaGreatDoor

namespace Go.Proofs.YtolioccofbhliaaGreatDoor
structure Hd where
 name:List UInt8
 value:List UInt8
deriving DecidableEq

def isN (n:List UInt8) (h:Hd):Bool:=low h.name==low n

def selV (L:List Hd) (n:List UInt8):List (List UInt8):=(L.filter (isN n)).map (·.value)

def getT (L:List Hd) (n:List UInt8):List UInt8:=Lib.join (selV L n) [44,32]

def getB (L:List Hd) (n:List UInt8):Bool:= !(selV L n).isEmpty

theorem selV_snoc (L:List Hd) (h:Hd) (n:List UInt8):selV (L++[h]) n=selV L n++(if isN n h then [h.value] else []):=by
 unfold selV;rw [List.filter_append,List.map_append]
 by_cases hh:isN n h=true<;>simp [hh]

def clos:List UInt8→Nat
 | []=>0
 | [c]=>if c=34 then 0 else if c=92 then 2 else 1
 | c::d::r=>if c=34 then 0 else if c=92 then 2+clos r else 1+clos (d::r)

def cutQ:Bool→List UInt8→Option Nat
 | _,[]=>none
 | false,c::r=>if c=44 then some 0 else if c=34 then (cutQ true r).map (· + 1) else (cutQ false r).map (· + 1)
 | true,[_]=>none
 | true,c::d::r=>if c=34 then (cutQ false (d::r)).map (· + 1) else if c=92 then (cutQ true r).map (· + 2) else (cutQ true (d::r)).map (· + 1)

theorem clos_quote (r:List UInt8):clos (34::r)=0:=by cases r<;>simp [clos]

theorem clos_back (r:List UInt8):clos (92::r)=2+clos (r.drop 1):=by cases r<;>simp [clos]

theorem clos_other (c:UInt8) (r:List UInt8) (h1:c≠34) (h2:c≠92):clos (c::r)=1+clos r:=by cases r<;>simp [clos,h1,h2]

theorem cutQ_comma (r:List UInt8):cutQ false (44::r)=some 0:=by simp [cutQ]

theorem cutQ_open (r:List UInt8):cutQ false (34::r)=(cutQ true r).map (· + 1):=by simp [cutQ]

theorem cutQ_other (c:UInt8) (r:List UInt8) (h1:c≠44) (h2:c≠34):cutQ false (c::r)=(cutQ false r).map (· + 1):=by simp [cutQ,h1,h2]

theorem cutQ_close (r:List UInt8):cutQ true (34::r)=(cutQ false r).map (· + 1):=by cases r<;>simp [cutQ]

theorem cutQ_back (r:List UInt8):cutQ true (92::r)=(cutQ true (r.drop 1)).map (· + 2):=by cases r<;>simp [cutQ]

theorem cutQ_in (c:UInt8) (r:List UInt8) (h1:c≠34) (h2:c≠92):cutQ true (c::r)=(cutQ true r).map (· + 1):=by cases r<;>simp [cutQ,h1,h2]

theorem map_map_add (o:Option Nat) (a b:Nat):(o.map (· + a)).map (· + b)=o.map (· + (a+b)):=by
 cases o<;>simp [Nat.add_assoc]

theorem cutQ_true: ∀ (n:Nat) (r:List UInt8),r.length≤n→cutQ true r=(cutQ false (r.drop (clos r+1))).map (· + (clos r+1)):=by
 intro n
 induction n with
 | zero=>
   intro r hr;have:r=[]:=List.eq_nil_of_length_eq_zero (by omega)
   subst this;rfl
 | succ n ih=>
   intro r hr
   cases r with
   | nil=>rfl
   | cons c r=>
     simp at hr;by_cases h1:c=34
     ·subst h1;rw [cutQ_close,clos_quote];rfl
     ·by_cases h2:c=92
      ·subst h2
       rw [cutQ_back,clos_back,ih (r.drop 1) (by simp;omega),map_map_add,List.drop_drop]
       rw [show 2+clos (r.drop 1)+1=(1+(clos (r.drop 1)+1))+1 by omega,List.drop_succ_cons]
       congr 2
       funext x;omega
      ·rw [cutQ_in c r h1 h2,clos_other c r h1 h2,ih r (by omega),map_map_add]
       rw [show 1+clos r+1=(clos r+1)+1 by omega,List.drop_succ_cons]

theorem cutQ_false_open (r:List UInt8):cutQ false (34::r)=(cutQ false (r.drop (clos r+1))).map (· + (clos r+2)):=by
 rw [cutQ_open,cutQ_true r.length r (Nat.le_refl _),map_map_add]

theorem cutQ_lt: ∀ (n:Nat) (q:Bool) (l:List UInt8) (k:Nat),l.length≤n→cutQ q l=some k→k<l.length:=by
 intro n
 induction n with
 | zero=>
   intro q l k hl h;have:l=[]:=List.eq_nil_of_length_eq_zero (by omega)
   subst this;cases q<;>simp [cutQ] at h
 | succ n ih=>
   intro q l k hl h
   cases l with
   | nil=>cases q<;>simp [cutQ] at h
   | cons c r=>
     simp at hl;have step: ∀ (q:Bool) (r':List UInt8) (a:Nat),r'.length+a≤r.length+1→1≤a→(cutQ q r').map (· + a)=some k→k<(c::r).length:=by
      intro q r' a ha ha1 hk;obtain ⟨j,hj,rfl⟩:=Option.map_eq_some_iff.1 hk
      have:=ih q r' j (by omega) hj
      simp;omega
     cases q with
     | false=>
       by_cases h1:c=44
       ·subst h1;rw [cutQ_comma] at h;simp at h;subst h;simp
       ·by_cases h2:c=34
        ·subst h2;rw [cutQ_open] at h;exact step true r 1 (by omega) (by omega) h
        ·rw [cutQ_other c r h1 h2] at h;exact step false r 1 (by omega) (by omega) h
     | true=>
       by_cases h1:c=34
       ·subst h1;rw [cutQ_close] at h;exact step false r 1 (by omega) (by omega) h
       ·by_cases h2:c=92
        ·subst h2;rw [cutQ_back] at h
         cases r with
         | nil=>simp [cutQ] at h
         | cons d r=>exact step true r 2 (by simp) (by omega) h
        ·rw [cutQ_in c r h1 h2] at h;exact step true r 1 (by omega) (by omega) h

def pcsN:Nat→List UInt8→List (List UInt8)
 | 0,l=>[l]
 | f+1,l=>match cutQ false l with
   | none=>[l]
   | some k=>l.take k::pcsN f (l.drop (k+1))

def pcs (l:List UInt8):List (List UInt8):=pcsN l.length l

theorem pcsN_succ: ∀ (g:Nat) (m:List UInt8),m.length≤g→pcsN (g+1) m=pcsN g m:=by
 intro g
 induction g with
 | zero=>
   intro m hm;have:m=[]:=List.eq_nil_of_length_eq_zero (by omega)
   subst this;simp [pcsN,cutQ]
 | succ g ihg=>
   intro m hm;rw [pcsN,pcsN]
   cases hc:cutQ false m with
   | none=>rfl
   | some k=>
     have:=cutQ_lt m.length false m k (Nat.le_refl _) hc;simp only;rw [ihg _ (by simp;omega)]

theorem pcsN_more (f:Nat) (l:List UInt8) (hl:l.length≤f):pcsN f l=pcsN l.length l:=by
 obtain ⟨d,rfl⟩: ∃ d,f=l.length+d:=⟨f - l.length,by omega⟩
 clear hl
 induction d with
 | zero=>rfl
 | succ d ih=>rw [← Nat.add_assoc,pcsN_succ _ _ (by omega),ih]

theorem pcs_none (l:List UInt8) (h:cutQ false l=none):pcs l=[l]:=by
 unfold pcs
 cases hn:l.length with
 | zero=>simp [pcsN]
 | succ n=>simp [pcsN,h]

theorem pcs_some (l:List UInt8) (k:Nat) (h:cutQ false l=some k):pcs l=l.take k::pcs (l.drop (k+1)):=by
 have hk:=cutQ_lt l.length false l k (Nat.le_refl _) h;unfold pcs
 cases hn:l.length with
 | zero=>omega
 | succ n=>
   simp only [pcsN,h]
   rw [pcsN_more n _ (by simp;omega)]

def trimB (l:List UInt8):List UInt8:=Lib.trimS l [9,32]

def splitV (L:List Hd) (n:List UInt8):List (List UInt8):=(pcs (getT L n)).map trimB

def bndV (l:List UInt8):Int:=if l=[] then -1 else intV l

def bndOk (l:List UInt8):Bool:=l==[]||intOk l

end Go.Proofs.YtolioccofbhliaaGreatDoor
