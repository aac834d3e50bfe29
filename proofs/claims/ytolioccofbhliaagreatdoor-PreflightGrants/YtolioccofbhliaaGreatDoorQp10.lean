/-
  Walks and plain facts that this claim leans on, put together out of 3 texts: Sl, Sm, Ro.
-/
import Derived.Test.YtolioccofbhliaaGreatDoorProg
import Derived.Test.YtolioccofbhliaaGreatDoorQp1
import Derived.Test.YtolioccofbhliaaGreatDoorQp2
import Derived.Test.YtolioccofbhliaaGreatDoorQp3
import Derived.Test.YtolioccofbhliaaGreatDoorQp4
import Derived.Test.YtolioccofbhliaaGreatDoorQp8
import Derived.Test.YtolioccofbhliaaGreatDoorQp9
import Derived.Lib.IndexMore
import Derived.Lib.Join
import Derived.Lib.LastIndexByte
import Derived.WalkKit
import Derived.Lib.Strings
import Derived.Lib.UnsafeStr
import Derived.Laws.IdiomStrings
import Derived.Laws.AppendOwn
import Derived.Laws.BitsAllLaws
import Derived.Lib.Bytealg
import Derived.Lib.BufferMore
import Derived.LoopN
import Derived.RegionTactic
import Derived.Deep.RegionWith
import Derived.Deep.QuietTactic
import Derived.BigQuiet
import Derived.Laws.OwnMore
import Derived.Deep.LoopGhost
import Derived.Shelf.Strings.Builder1
import Derived.Shelf.Strings.Builder2
import Derived.Shelf.Strings.OnBuilder
import Derived.Shelf.Strings.Trim
import Derived.Shelf.Small.Utf8
import Derived.Shelf.Small.Bits
import Derived.Shelf.Small.Strs
import Derived.Shelf.Small.Wraps
import Derived.Shelf.Strings.BuilderF
import Derived.Shelf.Strings.BuilderK
import Derived.Shelf.Strings.Builder2Cap
import Derived.Shelf.Strconv.Itoa0
import Derived.Shelf.Strconv.Itoa1
import Derived.Shelf.LaysM
import Derived.Shelf.Strconv.Itoa2
import Derived.Shelf.Strconv.Itoa3
import Derived.Shelf.Strings.Search1
import Derived.Shelf.Strings.Search2
import Derived.Shelf.Strings.Cut
import Derived.Shelf.Strings.Shaped
import Derived.Shelf.Sort.Plain
import Derived.Shelf.Strings.Prefix
import Derived.Shelf.Strings.Runes
import Derived.Shelf.Strings.IndexAny
import Derived.Shelf.Strings.AsciiSet
import Derived.Shelf.Strings.IndexAnyAll
import Derived.Shelf.Unicode.DecodeSlow
import Derived.Shelf.Unicode.DecodeAny
import Derived.Shelf.Unicode.DecodeLast
import Derived.Shelf.Slices.CompactS
import Derived.Shelf.Slices.In.SortNone
import Derived.Ground.SlgnProg
import Derived.Shelf.SlicesE.Compact
import Derived.Ground.SlgfProg
import Derived.Shelf.SlicesE.IndexFunc
import Derived.Shelf.SlicesE.DeleteFunc
import Derived.BigRegion
import Derived.WalkSpells
import Derived.WalkLawsBesides
import Derived.Lib.AppendIntMem
import Derived.Lib.SmallJoins
import Derived.WalkSmall
import Derived.WalkMore
import Derived.OwnWalk
import Derived.Laws.CopyOwn
import Derived.Laws.ResultCell
import Derived.Deep.MidRow
import Derived.Lib.FrozenHead2
import Derived.Lib.OthersKept
import Derived.Lib.Builder
set_option linter.unusedSimpArgs false
set_option linter.unusedVariables false

namespace Go.Proofs.YtolioccofbhliaaGreatDoor
open Go.RowKit

theorem own_mono {w:World} {base base':Nat} {e:TypeId} {size n:Nat} {v:Value} {xs:List Value} (h:w.ownsRow base e size v n xs) (hb:base'≤base):w.ownsRow base' e size v n xs:=by
 refine ⟨h.1,?_⟩
 rcases h.2 with h | ⟨g,cap,cur,hv,h1,h2⟩
 ·exact .inl h
 ·exact .inr ⟨g,cap,cur,hv,Nat.le_trans hb h1,h2⟩

def PcPost (s:List UInt8) (last:Bool) (w:World) (e:Ending) (w':World):Prop:=
 (rpV s last=none∧e = .returned (.tuple #[.slice none 0 0,.bool false])∧Below w.heap.size w w') ∨
 (∃ x v,rpV s last=some x∧e = .returned (.tuple #[v,.bool true])∧w'.ownsRow w.heap.size 281 1 v x.length (cells16 x)∧x.length≤2000000∧Below w.heap.size w w')

theorem rpL_hex (e:Bool) (P:List UInt8) (R:List (List UInt8)) (n:Nat) (h:hexP P=some [n]) (hl:R=[]→e=true→(cutL 46 P).length≠4):rpL e (P::R)=(rpL e R).map fun x=>n::x:=by
 cases R with
 | nil=>
   show pieceV e P=_
   cases e with
   | false=>rw [pieceV_hex false P (by simp),h];rfl
   | true=>rw [pieceV_last,if_neg (hl rfl rfl),h];rfl
 | cons q R=>rw [rpL,h];rfl

theorem rpL_bad (e:Bool) (P:List UInt8) (R:List (List UInt8)) (h:hexP P=none) (hl:R=[]→e=true→(cutL 46 P).length≠4):rpL e (P::R)=none:=by
 cases R with
 | nil=>
   rw [rpL]
   cases e with
   | false=>rw [pieceV_hex false P (by simp),h]
   | true=>rw [pieceV_last,if_neg (hl rfl rfl),h]
 | cons q R=>rw [rpL,h]

theorem hexP_short (P:List UInt8) (h:P.length<1∨4<P.length):hexP P=none:=by
 unfold hexP;rw [if_neg];rintro ⟨h1,h2,_⟩
 have:=List.length_pos_iff.2 h1;omega

theorem hexP_not (P:List UInt8) (h:P.all hx=false):hexP P=none:=by
 unfold hexP;rw [if_neg];rintro ⟨_,_,h3⟩
 rw [h] at h3;cases h3

theorem hexP_ok (P:List UInt8) (n:Nat) (h1:1≤P.length) (h4:P.length≤4) (h:P.all hx=true) (hf:fold16 0 P=n):hexP P=some [n]:=by
 unfold hexP;rw [if_pos ⟨List.length_pos_iff.1 h1,h4,h⟩,hf]

theorem cutL_count (c:UInt8): ∀ (l:List UInt8),(cutL c l).length≤l.length+1:=
 cutL_ind c (fun l h=>by rw [cutL_none c l h];simp) (fun a r h ih=>by rw [cutL_some c a r h];simp;omega)

theorem map_app {o:List Nat} {n:Nat} (r:Option (List Nat)):(r.map fun x=>n::x).map (fun x=>o++x)=r.map fun x=>(o++[n])++x:=by
 cases r<;>simp

set_option maxHeartbeats 8000000 in
set_option maxRecDepth 100000 in
theorem pieces_any (s:ByteArray) (last:Bool) (w:World) (hs:s.size≤1000000):
 Calls Tryz.prog 269 #[.string s,.bool last] w (PcPost s.data.toList last w):=by
 obtain ⟨i0,hi,hz0,hz1,hz2⟩:=info_parts infoU16
 by_cases h0:s.data.toList=[]
 ·have he:=empty_yes s h0
  have HN:=hid (show rpV s.data.toList last=some [] by unfold rpV;rw [if_pos h0]);clear h0
  go_enter Tryz.func269,Tryz.ntmps269
  go_wp2_with fail
  go_ret2
  exact .inr ⟨[],_,HN.out,rfl,own_nil _ _ _,by simp,Below.refl _ _⟩
 ·have he:=empty_no s h0
  obtain ⟨L,hL⟩: ∃ L,cutL 58 s.data.toList=L:=⟨_,rfl⟩
  have hne:L≠[]:=by rw [← hL];exact cutL_ne _ _
  obtain ⟨m,hm⟩: ∃ m,L.length=m+1:=⟨L.length - 1,by have:=List.length_pos_iff.2 hne;omega⟩
  have hm6:m≤1000000:=by
   have:=cutL_count 58 s.data.toList;rw [hL,hm] at this
   simp at this;omega
  have HLs:=hid (show ∀ x ∈ L,x.length≤1000000 by
   intro x hx;rw [← hL] at hx;have:=cutL_le 58 _ x hx;simp at this
   omega)
  have HR:=hid (show rpV s.data.toList last=rpL last L by unfold rpV;rw [if_neg h0,hL]);have HM:=hid hm;have hlab:=rcut_any s 58 w hs;rw [show ((58:UInt8).toNat:Int)=58 from rfl,hL] at hlab;clear hL hne h0
  go_enter Tryz.func269,Tryz.ntmps269
  go_wp2_with fail
  refine hlab.mono ?_;rintro e w1 ⟨b,cap,rfl,hlc,hcm,htx,hbw⟩
  clear hlab;have HT:=hid htx;clear htx he;unfold maxLen at hcm;rw [hm] at hlc ⊢;clear hm
  go_wp2_with fail
  have hbs0:=hbw.size
  go_loopw [6,8] (fun v i wr=> ∃ (k:Nat) (o:List Nat),k≤m+1∧i = .int .i64 k∧o.length=k∧wr.ownsRow w1.heap.size 281 1 v o.length (cells16 o)∧Below w1.heap.size w1 wr∧rpL last L=(rpL last (L.drop k)).map fun x=>o++x)
   (fun _ i _=>m+1 - (intOf i).toNat)
  case atStart=>exact ⟨0,[],Nat.zero_le _,rfl,rfl,own_nil _ _ _,Below.refl _ _,by rw [List.drop_zero];simp⟩
  case round=>
   obtain ⟨k,o,hk,rfl,hol,hown,hb1,hrp⟩:=hrel
   have HO:=hid hown;have HP:=hid hrp;have hbs:=hb1.size;clear hown hrp;by_cases hlt:k<m+1
   ·have hlt':(k:Int)<((m+1:Nat):Int):=by omega
    have hkL:k<L.length:=by rw [HM.out];exact hlt
    obtain ⟨X,hX⟩: ∃ X:ByteArray,X=⟨(L[k]'hkL).toArray⟩:=⟨_,rfl⟩
    have hcell0:=HT.out.kept hb1 k hkL;rw [← hX] at hcell0;have HXd:=hid (show X.data.toList=L[k]'hkL by rw [hX]);have hXs:X.size≤1000000:=by
     have:=HLs.out _ (List.getElem_mem hkL);rw [hX];show (L[k]'hkL).toArray.size≤_
     simp;omega
    have HDr:=hid (show L.drop k=X.data.toList::L.drop (k+1) by rw [HXd.out];exact List.drop_eq_getElem_cons hkL);have HDn:=hid (show L.drop (k+1)=[] ↔ k=m by rw [List.drop_eq_nil_iff,HM.out];omega);clear hX;have hcase:(last=false)∨(last=true∧k<m)∨(last=true∧k=m):=by
     cases last
     ·exact .inl rfl
     ·right
      by_cases h:k<m
      ·exact .inl ⟨rfl,h⟩
      ·exact .inr ⟨rfl,by omega⟩
    have hfour:(cutL 46 X.data.toList).length=4∨(cutL 46 X.data.toList).length≠4:=by omega
    rcases hcase with rfl | ⟨rfl,hkm⟩ | ⟨rfl,rfl⟩
    case' inl=>
     have HBad:=hid (fun h=>rpL_bad false X.data.toList (L.drop (k+1)) h (fun _ h=>absurd h (by decide)));have HHex:=hid (fun n h=>rpL_hex false X.data.toList (L.drop (k+1)) n h (fun _ h=>absurd h (by decide)));clear hfour;obtain ⟨wz,hwz⟩: ∃ wz,wz=wr:=⟨_,rfl⟩
     subst hwz;have hcell:=hcell0;have hbz:=hb1;have HOz:=HO;clear hcell0 hb1 HO
    case' inr.inl=>
     have HBad:=hid (fun h=>rpL_bad true X.data.toList (L.drop (k+1)) h (fun h _=>absurd (HDn.out.1 h) (by omega)));have HHex:=hid (fun n h=>rpL_hex true X.data.toList (L.drop (k+1)) n h (fun h _=>absurd (HDn.out.1 h) (by omega)));have hkm':((k:Int)==(m:Int))=false:=by rw [beq_eq_false_iff_ne];omega
     clear hfour;obtain ⟨wz,hwz⟩: ∃ wz,wz=wr:=⟨_,rfl⟩
     subst hwz;have hcell:=hcell0;have hbz:=hb1;have HOz:=HO;clear hcell0 hb1 HO
    case' inr.inr=>
     have HDe:=hid (show L.drop (k+1)=[] from HDn.out.2 rfl);have hcut:=rcut_any X 46 wr hXs;rw [show ((46:UInt8).toNat:Int)=46 from rfl] at hcut;have HCut:=hid hcut;clear hcut
     go_wp2_with fail
     refine HCut.out.mono ?_;rintro e wz ⟨b2,cap2,rfl,hlc2,hcm2,htx2,hb2⟩
     have hcell:=(hb2.cell (World.block_lt_of_cell? wr _ hcell0)).trans hcell0;have hbz:=below2 hb1 hb2;have HOz:=hid (own_kept HO.out hb2);clear HCut hcell0 htx2 hb2 hlc2 hcm2;rcases hfour with h4 | h4
     ·have HDec:=hid (decimals_any X wz hXs h4)
      have h4':(((cutL 46 X.data.toList).length:Int)==4)=true:=by rw [beq_iff_eq];omega
      have HV:=hid (show rpL true L=((dotL 0 (cutL 46 X.data.toList)).map halves).map fun x=>o++x by
       rw [HP.out,HDr.out,HDe.out,rpL,pieceV_last,if_pos h4])
      rw [h4];clear h4 h4'
      go_wp2_with fail
      refine HDec.out.mono ?_;rintro e w3 (⟨hdn,rfl,hb3⟩ | ⟨mm,g,hdm,rfl,hg0,hg1,hb3⟩)
      ·have HN:=hid (show rpV s.data.toList true=none by rw [HR.out,HV.out,hdn];rfl)
       clear hdn
       go_wp2_with fail
       go_ret2
       exact .inl ⟨HN.out,rfl,below2 hbw (below2 hbz hb3)⟩
      ·have HN:=hid (show rpV s.data.toList true=some (o++[mm / 65536,mm % 65536]) by rw [HR.out,HV.out,hdm];rfl)
       have HO3:=hid (own_kept HOz.out hb3);have hbz3:=below2 hbz hb3;have hbs3:=hbz3.size;have HG0:=hid hg0;have HG1:=hid hg1;clear hdm hg0 hg1
       go_wp2_with (at_builtin;go_must (refine wpList_append_own _ rfl _ _ 289 rfl w1.heap.size 281 i0 (.int .u16 0) 1 2 Tryz.underlying289 hi hz0 hz1 hz2 rfl (by decide) _ _ _ rfl HO3.out ⟨g,0,none⟩ 2 2 [.int .u16 (mm / 65536:Nat),.int .u16 (mm % 65536:Nat)] rfl rfl ?d1 ?d2 ?d3 ?d4 ?d5 ?_))
       case d1=>
        intro q u hq
        match q,hq with
        | 0,hq=>simp at hq;subst hq;simpa [Addr.add] using HG0.out
        | 1,hq=>simp at hq;subst hq;simpa [Addr.add] using HG1.out
       case d2=>intro u hu;simp at hu;rcases hu with rfl | rfl<;>rfl
       case d3=>unfold maxLen;omega
       case d4=>omega
       case d5=>omega
       intro v' w4 hown' hgrow hnil;have HO4:=hid hown';have HB4:=hid (show Below w1.heap.size w1 w4 from hbz3.grown hgrow hbs3 (fun g hg=>(HO3.out.lt g hg).1));clear hown' hgrow hnil
       go_wp2_with fail
       go_ret2
       refine .inr ⟨_,v',HN.out,rfl,?_,by simp;omega,below2 hbw HB4.out⟩
       have h9:=own_mono HO4.out hbs0;rw [cells16_app,List.length_append,hol]
       simpa [cells16] using h9
     have HBad:=hid (fun h=>rpL_bad true X.data.toList (L.drop (k+1)) h (fun _ _=>h4));have HHex:=hid (fun n h=>rpL_hex true X.data.toList (L.drop (k+1)) n h (fun _ _=>h4));have h4':(((cutL 46 X.data.toList).length:Int)==4)=false:=by rw [beq_eq_false_iff_ne];omega
     generalize (cutL 46 X.data.toList).length=q4 at h4' ⊢
    all_goals
     have hszc:X.size<1∨(1≤X.size∧4<X.size)∨(1≤X.size∧X.size≤4):=by omega
     rcases hszc with h1 | ⟨h1,h5⟩ | ⟨h1,h5⟩
     ·have HN:=hid (show rpV s.data.toList _=none by rw [HR.out,HP.out,HDr.out,HBad.out (hexP_short _ (.inl (by simpa using h1)))];rfl)
      have h1':(X.size:Int)<1:=by omega
      go_wp2_with fail
      go_ret2
      exact .inl ⟨HN.out,rfl,below2 hbw hbz⟩
     ·have HN:=hid (show rpV s.data.toList _=none by rw [HR.out,HP.out,HDr.out,HBad.out (hexP_short _ (.inr (by simpa using h5)))];rfl)
      have h1':decide ((X.size:Int)<1)=false:=by simp;omega
      have h5':(4:Int)<(X.size:Int):=by omega
      go_wp2_with fail
      go_ret2
      exact .inl ⟨HN.out,rfl,below2 hbw hbz⟩
     ·have h1':decide ((X.size:Int)<1)=false:=by simp;omega
      have h5': ¬ (4:Int)<(X.size:Int):=by omega
      have hbsz:=hbz.size
      go_wp2_with fail
      go_loop [11,12] (fun nv i=> ∃ q n:Nat,q≤X.size∧i = .int .i64 q∧nv = .int .i64 n∧n<16 ^ q∧fold16 n (X.data.toList.drop q)=fold16 0 X.data.toList∧(X.data.toList.drop q).all hx=X.data.toList.all hx) (fun _ i=>X.size - (intOf i).toNat)
      case atStart=>exact ⟨0,0,Nat.zero_le _,rfl,rfl,by decide,by rw [List.drop_zero],by rw [List.drop_zero]⟩
      case round=>
       obtain ⟨q,n,hq,rfl,rfl,hn,hf,hall⟩:=hrel
       have HF:=hid hf;have HAl:=hid hall;have HNq:=hid hn;have hn16:n<65536:=by
        have h4:16 ^ q≤16 ^ 4:=Nat.pow_le_pow_right (by omega) (by omega)
        rw [show 16 ^ 4=65536 from rfl] at h4;exact Nat.lt_of_lt_of_le hn h4
       clear hf hall hn;by_cases hqlt:q<X.size
       ·have hqlt':(q:Int)<(X.size:Int):=by omega
        have hq8:X[q].toNat<256:=X[q].toNat_lt;have HD:=hid (drop_cons X q hqlt);by_cases hd:dig16 X[q]<16
        ·have hxv:=hex_yes hd
         have HF2:=hid (show fold16 (n*16+dig16 X[q]) (X.data.toList.drop (q+1))=fold16 0 X.data.toList by rw [← HF.out,HD.out];rfl);have HA2:=hid (show (X.data.toList.drop (q+1)).all hx=X.data.toList.all hx by rw [← HAl.out,HD.out,List.all_cons];simp [hx,hd]);have HN2:=hid (show n*16+dig16 X[q]<16 ^ (q+1) by have:=HNq.out;rw [Nat.pow_succ];omega);generalize dig16 X[q]=d at *
         have hd0: ¬ ((d:Int)<0):=by omega
         go_wp2_with (go_at_call 271;refine (rhex_any _ _ (by omega) (by omega)).mono ?_;rintro e w' ⟨rfl,rfl⟩;rw [hxv])
         go_round
         case rel=>exact ⟨q+1,n*16+d,by omega,by go_num,by go_num,HN2.out,HF2.out,HA2.out⟩
         case measure=>simp [intOf];omega
        ·have hxv:=hex_no hd
         have HN:=hid (show rpV s.data.toList _=none by
          rw [HR.out,HP.out,HDr.out,HBad.out (hexP_not _ (by rw [← HAl.out,HD.out,List.all_cons];simp [hx,hd]))];rfl)
         clear hd
         go_wp2_with (go_at_call 271;refine (rhex_any _ _ (by omega) (by omega)).mono ?_;rintro e w' ⟨rfl,rfl⟩;rw [hxv])
         try rw [Exit.noGoto_ret]
         go_ret2
         exact .inl ⟨HN.out,rfl,below2 hbw hbz⟩
       ·have hqlt': ¬ (q:Int)<(X.size:Int):=by omega
        have HX:=hid (hexP_ok X.data.toList n (by simpa using h1) (by simpa using h5) (by rw [← HAl.out,drop_none X q hqlt];rfl) (by rw [← HF.out,drop_none X q hqlt];rfl));have HP2:=hid (show rpL _ L=(rpL _ (L.drop (k+1))).map fun x=>(o++[n])++x by
         rw [HP.out,HDr.out,HHex.out n HX.out,map_app])
        go_wp2_with (at_builtin;go_must (refine wpList_append_own _ rfl _ _ 289 rfl w1.heap.size 281 i0 (.int .u16 0) 1 2 Tryz.underlying289 hi hz0 hz1 hz2 rfl (by decide) _ _ _ rfl (HOz.out.alloc _) ⟨wz.heap.size,0,none⟩ 1 1 [.int .u16 n] rfl rfl (by intro j u hj;match j,hj with | 0,hj=>simp at hj;subst hj;simp [Addr.add]) (by intro u hu;simp at hu;subst hu;rfl) (by unfold maxLen;omega) (by omega) (by simp;omega) ?_))
        intro v' w4 hown' hgrow hnil;have HO4:=hid hown';have HB4:=hid (show Below w1.heap.size w1 w4 from (hbz.alloc hbz.size _).grown hgrow (by simp;omega) (fun g hg=>(HOz.out.lt g hg).1));clear hown' hgrow hnil
        go_wp2_with fail
        go_roundw
        case rel=>
         refine ⟨k+1,o++[n],by omega,by go_num,by simp;omega,?_,HB4.out,HP2.out⟩;have h9:=HO4.out;rw [cells16_app,List.length_append,hol]
         simpa [cells16] using h9
        case measure=>first | (simp [intOf];done) | (simp [intOf];omega)
   ·have hke:k=m+1:=by omega
    subst hke;have HN:=hid (show rpV s.data.toList last=some o by
     rw [HR.out,HP.out,List.drop_eq_nil_of_le (by rw [HM.out];exact Nat.le_refl _),rpL]
     simp)
    go_wp2_with fail
    go_ret2
    exact .inr ⟨o,_,HN.out,rfl,own_mono HO.out hbs0,by omega,below2 hbw hb1⟩

end Go.Proofs.YtolioccofbhliaaGreatDoor

namespace Go.Proofs.YtolioccofbhliaaGreatDoor
open Go.RowKit

theorem wpList_copy_apart {P:Program} {w:World} {ops:Array Oper} {rest:List Oper} {o:Oper} {a:Act} {Q:Exit→Act→World→Prop} (hgd:o.guard=none) (d s:Operand) (dT sT:TypeId)
 (ho:o.op = .call { callee:= .builtin .copy,args:= #[d,s],argTypes:= #[dT,sT] }) (elem:TypeId) (hu:P.underlying dT=some (.slice elem)) (hsz:(P.info? elem).map (·.size)=some 1)
 (dp sp:Option Addr) (dLen dCap sLen sCap:Nat) (hd:a.eval d = .slice dp dLen dCap) (hs:a.eval s = .slice sp sLen sCap)
 (g off:Nat) (cur:List Value) (t:TypeId) (hg:w.heap[g]? = some (.cells cur.toArray t (0,0))) (cs:List Value) (hn:cs.length=Nat.min sLen dLen)
 (hpos:0<cs.length→dp=some ⟨g,off,none⟩ ∧ ∃ ad,sp=some ad ∧ ∀ j v,cs[j]? = some v→w.cell? (ad.add j)=some v)
 (hfit:off+cs.length≤cur.length) (h1: ∀ v ∈ cs,v.oneCell'=true) (B:Nat) (w0:World) (hb:Below B w0 w) (hBg:B≤g)
 (h: ∀ w',Hid (w'.heap[g]? = some (.cells (splice cur off cs).toArray t (0,0)))→Hid (∀ k,k≠g→w'.heap[k]? = w.heap[k]?)→Below B w0 w'→wpList P ops Q rest (a.put o.dst (goInt cs.length)) w'):
 wpList P ops Q (o::rest) a w:=by
 by_cases h0:cs.length=0
 ·obtain rfl:cs=[]:=List.eq_nil_of_length_eq_zero h0
  refine wpList_copy_nothing hgd d s dT sT ho elem hu hsz dp sp dLen dCap sLen sCap hd hs (by simpa using hn.symm) ?_
  exact h w (show _=_ by simpa [splice] using hg) (hid fun _ _=>rfl) hb
 ·obtain ⟨rfl,ad,rfl,hsrc⟩:=hpos (by omega)
  refine wpList_copy_own hgd d s dT sT ho elem hu hsz g off dLen dCap ad sLen sCap hd hs cur.toArray t hg cs hn hsrc (by simpa using hfit) h1 ?_
  exact h _ (show _=_ by simpa [splice] using setRow_heap w g _ _ t _ hg) (hid fun k hk=>setRow_other w g k _ hk) (below_setRow hb hBg _)

theorem own_apartN {w w':World} {base g:Nat} {e:TypeId} {size n:Nat} {v:Value} {xs:List Value} (h:w.ownsRow base e size v n xs) (hg:g<base) (hk: ∀ k,k≠g→w'.heap[k]? = w.heap[k]?):w'.ownsRow base e size v n xs:=by
 refine ⟨h.1,?_⟩
 rcases h.2 with h | ⟨q,cap,cur,hv,h1,h2,h3⟩
 ·exact .inl h
 ·refine .inr ⟨q,cap,cur,hv,h1,?_,h3⟩
  rw [hk q (by omega)];exact h2

def Six2Post (l:List UInt8) (w:World) (e:Ending) (w':World):Prop:=e = .returned (.tuple #[agg8 ((sixV l).getD zero8),.bool (sixV l).isSome])∧Below w.heap.size w w'

theorem ret_six2 {a:List Value} {o:Option (List Nat)} {x:Bool} {l:List Nat} (h:cells16 l=a) (hl:l=o.getD zero8) (g:x=o.isSome):Ending.returned (.tuple #[.agg a.toArray,.bool x]) = .returned (.tuple #[agg8 (o.getD zero8),.bool o.isSome]):=by
 rw [g,← h,hl];rfl

theorem pair_at (s:ByteArray) (k:Nat) (h:k+1<s.size) (h1:s[k]=58) (h2:s[k+1]=58):s.data.toList=(s.extract 0 k).data.toList++([58,58]++(s.extract (k+2) s.size).data.toList):=by
 rw [ext_take,extract_drop]
 have e:=drop_cons s k (by omega)
 have e2:=drop_cons s (k+1) h;have h0:s.data.toList=s.data.toList.take k++s.data.toList.drop k:=(List.take_append_drop _ _).symm;rw [e,e2,h1,h2] at h0
 simpa using h0

theorem np_step (s:ByteArray) (k:Nat) (h:k+1<s.size) (hn:noPair (s.data.toList.take (k+1))=true) (hne: ¬ (s[k]=58∧s[k+1]=58)):noPair (s.data.toList.take (k+2))=true:=by
 rw [take_snoc s (k+1) h,take_snoc s k (by omega)];rw [take_snoc s k (by omega)] at hn;generalize s.data.toList.take k=a at *
 generalize s[k]=p at *
 generalize s[k+1]=q at *
 clear h;have hne': ¬ p=58 ∨ ¬ q=58:=Decidable.not_and_iff_not_or_not.1 hne
 induction a with
 | nil=>simp [noPair];exact hne'
 | cons x a ih=>
   cases a with
   | nil=>
     simp only [List.cons_append,List.nil_append,noPair,Bool.and_eq_true] at hn ⊢
     refine ⟨hn.1,?_,trivial⟩
     simp;exact hne'
   | cons y a=>
     simp only [List.cons_append,noPair,Bool.and_eq_true] at hn ⊢
     exact ⟨hn.1,ih hn.2⟩

theorem six_gap (l a r:List UInt8) (h:l=a++([58,58]++r)) (hn:noPair (a++[58])=true):sixV l=match rpV a false,rpV r true with
 | some x,some y=>if x.length+y.length≤7 then some (x++List.replicate (8 - x.length - y.length) 0++y) else none
 | _,_=>none:=by
 rw [rsixV_eq,rsixV,h,cut2_some a r hn]
 rfl

theorem six_whole (l:List UInt8) (hn:noPair l=true):sixV l=match rpV l true with
 | some a=>if a.length=8 then some a else none
 | none=>none:=by
 rw [rsixV_eq,rsixV,cut2_none l hn]
 rfl

set_option maxHeartbeats 4000000 in
set_option maxRecDepth 100000 in
theorem rsix_any (s:ByteArray) (w:World) (hs:s.size≤1000000):
 Calls Tryz.prog 262 #[.string s] w (Six2Post s.data.toList w):=by
 obtain ⟨W2,hW2⟩: ∃ W2:World,W2=(w.alloc (Obj.cells #[Value.int .u16 0,Value.int .u16 0,Value.int .u16 0,Value.int .u16 0,Value.int .u16 0,Value.int .u16 0,Value.int .u16 0,Value.int .u16 0] 282)).alloc (Obj.cells #[Value.int .u16 0,Value.int .u16 0,Value.int .u16 0,Value.int .u16 0,Value.int .u16 0,Value.int .u16 0,Value.int .u16 0,Value.int .u16 0] 282):=⟨_,rfl⟩
 have hW2s:W2.heap.size=w.heap.size+2:=by rw [hW2];simp
 have HY2:=hid (show W2.heap[w.heap.size]? = some (.cells (cells16 zero8).toArray 282 (0,0)) by
  rw [hW2];exact row_kept (heap_alloc_new w (Obj.cells #[Value.int .u16 0,Value.int .u16 0,Value.int .u16 0,Value.int .u16 0,Value.int .u16 0,Value.int .u16 0,Value.int .u16 0,Value.int .u16 0] 282)) ((Below.refl _ _).alloc (Nat.le_refl _) _))
 have HX2:=hid (show W2.heap[w.heap.size+1]? = some (.cells (cells16 zero8).toArray 282 (0,0)) by
  rw [hW2];have h:=heap_alloc_new (w.alloc (Obj.cells #[Value.int .u16 0,Value.int .u16 0,Value.int .u16 0,Value.int .u16 0,Value.int .u16 0,Value.int .u16 0,Value.int .u16 0,Value.int .u16 0] 282)) (Obj.cells #[Value.int .u16 0,Value.int .u16 0,Value.int .u16 0,Value.int .u16 0,Value.int .u16 0,Value.int .u16 0,Value.int .u16 0,Value.int .u16 0] 282);rw [show (w.alloc (Obj.cells #[Value.int .u16 0,Value.int .u16 0,Value.int .u16 0,Value.int .u16 0,Value.int .u16 0,Value.int .u16 0,Value.int .u16 0,Value.int .u16 0] 282)).heap.size=w.heap.size+1 by simp] at h;exact h)
 have HB2:=hid (show Below w.heap.size w W2 by rw [hW2];exact ((Below.refl _ w).alloc (Nat.le_refl _) _).alloc (by simp) _);have HP1:=hid (pieces_any s true W2 hs)
 go_enter Tryz.func262,Tryz.ntmps262
 go_wp2_with fail
 rw [← hW2];clear hW2
 go_loop [5,6] (fun at_ i=> ∃ k:Nat,k≤s.size∧at_ = .int .i64 (-1)∧i = .int .i64 k∧noPair (s.data.toList.take (k+1))=true) (fun _ i=>s.size - (intOf i).toNat)
 case atStart=>
  refine ⟨0,Nat.zero_le _,rfl,rfl,?_⟩
  cases s.data.toList with
  | nil=>rfl
  | cons c l=>rfl
 case round=>
  obtain ⟨k,hk,rfl,rfl,hnp⟩:=hrel
  have HNp:=hid hnp;clear hnp;by_cases hlt:k+1<s.size
  ·have hlt':(k:Int)+1<(s.size:Int):=by omega
   have hc8:s[k].toNat<256:=s[k].toNat_lt;have hd8:s[k+1].toNat<256:=s[k+1].toNat_lt;have ht1:((k:Int)+1).toNat=k+1:=by omega
   by_cases h1:s[k]=58
   ·have h1':(s[k].toNat:Int)=58:=by rw [h1];rfl
    by_cases h2:s[k+1]=58
    ·have h2':(s[k+1].toNat:Int)=58:=by rw [h2];rfl
     have HPair:=hid (pair_at s k hlt h1 h2);have HN0:=hid (show noPair ((s.extract 0 k).data.toList++[58])=true by
      have h:=HNp.out;rw [take_snoc s k (by omega),h1] at h;rw [ext_take];simpa using h)
     have HS:=hid (six_gap _ _ _ HPair.out HN0.out);have hsa:(s.extract 0 k).size≤1000000:=by simp;omega
     have hsb:(s.extract (k+2) s.size).size≤1000000:=by simp;omega
     have HPa:=hid (pieces_any (s.extract 0 k) false W2 hsa);have HPb:=hid (fun W=>pieces_any (s.extract (k+2) s.size) true W hsb);have hq1:(k:Int)≤(s.size:Int):=by omega
     have hq2:(k:Int)+2≤(s.size:Int):=by omega
     have ht2:((k:Int)+2).toNat=k+2:=by omega
     clear h1 h2 HPair HN0
     go_wp2_with fail
     refine HPa.out.mono ?_;rintro e w3 (⟨hra,rfl,hb3⟩ | ⟨x,v,hrx,rfl,hown,hxl,hb3⟩)
     ·have HN:=hid (show sixV s.data.toList=none by rw [HS.out,hra])
      have HX3:=hid (row_kept HX2.out hb3);have HY3:=hid (row_kept HY2.out hb3);have HB3:=hid (below2 HB2.out hb3);clear hra hb3
      go_wp2_with fail
      refine (HPb.out w3).mono ?_;rintro e w4 (⟨_,rfl,hb4⟩ | ⟨y,v2,_,rfl,hown2,hyl,hb4⟩)
      all_goals
       have HY:=hid (row_kept HY3.out hb4);have HBz:=hid (below2 HB3.out hb4)
       go_wp2_with (refine wpList_store_mid rfl 282 (.tmp 2) (.tmp 80) rfl w.heap.size 0 (cells16 zero8).toArray rfl rfl (there_row HY.out (by decide)) size8 (all_oneCell_toArray (cells16_one _)) ?_)
       refine bodyPost_ret (results_six rfl _ _ _ w.heap.size (cells16 zero8) _ rfl (World.rangeAt_setCells_same _ _ _ _ (there_row HY.out (by decide))) Tryz.underlying282 rfl size8) rfl ⟨ret_six2 rfl (by rw [HN.out];rfl) (by rw [HN.out];rfl),below_setCells (Nat.le_refl _) _ _ _ HBz.out⟩
     ·obtain ⟨a1,cap1,rfl⟩:=own_form hown
      have HO:=hid hown;have HX3:=hid (row_kept HX2.out hb3);have HY3:=hid (row_kept HY2.out hb3);have HB3:=hid (below2 HB2.out hb3);have hbs3:=hb3.size;clear hown hb3
      go_wp2_with fail
      refine (HPb.out w3).mono ?_;rintro e w4 (⟨hrb,rfl,hb4⟩ | ⟨y,v2,hry,rfl,hown2,hyl,hb4⟩)
      ·have HN:=hid (show sixV s.data.toList=none by rw [HS.out,hrx,hrb])
       have HY:=hid (row_kept HY3.out hb4);have HBz:=hid (below2 HB3.out hb4);clear hrx hrb hb4
       go_wp2_with (refine wpList_store_mid rfl 282 (.tmp 2) (.tmp 80) rfl w.heap.size 0 (cells16 zero8).toArray rfl rfl (there_row HY.out (by decide)) size8 (all_oneCell_toArray (cells16_one _)) ?_)
       refine bodyPost_ret (results_six rfl _ _ _ w.heap.size (cells16 zero8) _ rfl (World.rangeAt_setCells_same _ _ _ _ (there_row HY.out (by decide))) Tryz.underlying282 rfl size8) rfl ⟨ret_six2 rfl (by rw [HN.out];rfl) (by rw [HN.out];rfl),below_setCells (Nat.le_refl _) _ _ _ HBz.out⟩
      ·obtain ⟨a2,cap2,rfl⟩:=own_form hown2
       have HO2:=hid hown2;have HO1:=hid (own_kept HO.out hb4);have HX:=hid (row_kept HX3.out hb4);have HY:=hid (row_kept HY3.out hb4);have HBz:=hid (below2 HB3.out hb4);have hbs4:=hb4.size;clear hown2 hb4;by_cases h7:x.length+y.length≤7
       ·have HN:=hid (show sixV s.data.toList=some (x++List.replicate (8 - x.length - y.length) 0++y) by rw [HS.out,hrx,hry];simp only;rw [if_pos h7])
        have h7': ¬ (7:Int)<(x.length:Int)+(y.length:Int):=by omega
        have hn1:(cells16 x).length=x.length:=cells16_len _;have hn2:(cells16 y).length=y.length:=cells16_len _;obtain ⟨X,hXe⟩: ∃ X,X=x++List.replicate (8 - x.length - y.length) 0++y:=⟨_,rfl⟩
        have hX8:(cells16 X).length=8:=by rw [cells16_len,hXe];simp;omega
        have HXe:=hid hXe;clear hXe hrx hry
        go_wp2_with (refine wpList_copy_apart rfl _ _ 289 289 rfl 281 Tryz.underlying289 (by kernel_rfl) _ _ _ _ _ _ rfl rfl (w.heap.size+1) 0 (cells16 zero8) 282 HX.out (cells16 x) ?p1 ?p2 ?p3 (cells16_one _) w.heap.size w HBz.out (by omega) ?_)
        case p1=>rw [hn1];exact (Nat.min_eq_left (by omega)).symm
        case p2=>exact fun h=>own_src HO1.out (by rw [hn1] at *;omega) (Below.refl _ w4)
        case p3=>rw [hn1];show 0+x.length≤8;omega
        intro w5 HX5 HK5 hb5;have hsl:=slice8_from (w.heap.size+1) y.length (by omega) w5
        have HO5:=hid (own_apartN (g:=w.heap.size+1) HO2.out (by omega) HK5.out);have HY5:=hid (show w5.heap[w.heap.size]? = some (.cells (cells16 zero8).toArray 282 (0,0)) by rw [HK5.out _ (by omega)];exact HY.out);clear HK5
        go_wp2_with (refine wpList_copy_apart rfl _ _ 289 289 rfl 281 Tryz.underlying289 (by kernel_rfl) _ _ _ _ _ _ rfl rfl (w.heap.size+1) (8 - y.length) (splice (cells16 zero8) 0 (cells16 x)) 282 HX5.out (cells16 y) ?m1 ?m2 ?m3 (cells16_one _) w.heap.size w hb5 (by omega) ?_)
        case m1=>rw [hn2];exact (Nat.min_self _).symm
        case m2=>
         intro h;rw [hn2] at h;refine ⟨by rw [cutAd,if_neg (by omega)],own_src HO5.out h (Below.refl _ w5)⟩
        case m3=>rw [hn2,length_splice _ _ _ (by rw [hn1];show 0+x.length≤8;omega)];show 8 - y.length+y.length≤8;omega
        intro w6 HX6 HK6 hb6;have HX6':=hid (show w6.heap[w.heap.size+1]? = some (.cells (cells16 X).toArray 282 (0,0)) by rw [HXe.out,← splice16 x y (by omega)];exact HX6.out);have HY6:=hid (show w6.heap[w.heap.size]? = some (.cells (cells16 zero8).toArray 282 (0,0)) by rw [HK6.out _ (by omega)];exact HY5.out);have hi8:(Tryz.prog.info? 282).map (·.size)=some (cells16 X).length:=by rw [hX8];exact size8
        have hi8':(Tryz.prog.info? 282).map (·.size)=some (cells16 X).toArray.size:=by rw [List.size_toArray,hX8];exact size8
        have hth:w6.there w.heap.size 0 (cells16 X).toArray.size:=there_row HY6.out (by rw [List.size_toArray,hX8];decide)
        have hth2:w6.there w.heap.size 0 (cells16 X).length:=by rw [hX8];exact there_row HY6.out (by decide)
        clear HX6 HK6
        go_wp2_with (first | refine wpList_load_mid rfl 282 (.tmp 4) rfl (w.heap.size+1) 0 rfl (cells16 X) _ (range_row HX6'.out) Tryz.underlying282 rfl hi8 ?_ | refine wpList_store_mid rfl 282 (.tmp 2) (.tmp 90) rfl w.heap.size 0 (cells16 X).toArray rfl rfl hth hi8' (all_oneCell_toArray (cells16_one _)) ?_)
        refine bodyPost_ret (results_six rfl _ _ _ w.heap.size (cells16 X) _ rfl (World.rangeAt_setCells_same _ _ _ _ hth2) Tryz.underlying282 rfl hi8) rfl ⟨ret_six2 rfl (by rw [HN.out,HXe.out];rfl) (by rw [HN.out];rfl),below_setCells (Nat.le_refl _) _ _ _ hb6⟩
       ·have HN:=hid (show sixV s.data.toList=none by rw [HS.out,hrx,hry];simp only;rw [if_neg h7])
        have h7':(7:Int)<(x.length:Int)+(y.length:Int):=by omega
        clear hrx hry
        go_wp2_with (refine wpList_store_mid rfl 282 (.tmp 2) (.tmp 80) rfl w.heap.size 0 (cells16 zero8).toArray rfl rfl (there_row HY.out (by decide)) size8 (all_oneCell_toArray (cells16_one _)) ?_)
        refine bodyPost_ret (results_six rfl _ _ _ w.heap.size (cells16 zero8) _ rfl (World.rangeAt_setCells_same _ _ _ _ (there_row HY.out (by decide))) Tryz.underlying282 rfl size8) rfl ⟨ret_six2 rfl (by rw [HN.out];rfl) (by rw [HN.out];rfl),below_setCells (Nat.le_refl _) _ _ _ HBz.out⟩
    ·have h2':((s[k+1].toNat:Int)==58)=false:=by
      rw [beq_eq_false_iff_ne];intro e;exact h2 (UInt8.toNat_inj.1 (by have:(58:UInt8).toNat=58:=rfl;omega))
     have HN2:=hid (np_step s k hlt HNp.out (fun h=>h2 h.2));clear h1 h2
     go_wp2_with fail
     go_round
     case rel=>exact ⟨k+1,by omega,rfl,by go_num,HN2.out⟩
     case measure=>simp [intOf];omega
   ·have h1':((s[k].toNat:Int)==58)=false:=by
     rw [beq_eq_false_iff_ne];intro e;exact h1 (UInt8.toNat_inj.1 (by have:(58:UInt8).toNat=58:=rfl;omega))
    have HN2:=hid (np_step s k hlt HNp.out (fun h=>h1 h.1));clear h1
    go_wp2_with fail
    go_round
    case rel=>exact ⟨k+1,by omega,rfl,by go_num,HN2.out⟩
    case measure=>simp [intOf];omega
  ·have hlt': ¬ (k:Int)+1<(s.size:Int):=by omega
   have HS:=hid (six_whole s.data.toList (by
    have h:=HNp.out;rw [List.take_of_length_le (by simp;omega)] at h;exact h))
   go_wp2_with fail
   refine HP1.out.mono ?_;rintro e w3 (⟨hrn,rfl,hb3⟩ | ⟨x,v,hrx,rfl,hown,hxl,hb3⟩)
   ·have HN:=hid (show sixV s.data.toList=none by rw [HS.out,hrn])
    have HX:=hid (row_kept HX2.out hb3);have HY:=hid (row_kept HY2.out hb3);have HBz:=hid (below2 HB2.out hb3);clear hrn hb3
    go_wp2_with (first | refine wpList_load_mid rfl 282 (.tmp 4) rfl (w.heap.size+1) 0 rfl (cells16 zero8) _ (range_row HX.out) Tryz.underlying282 rfl size8 ?_ | refine wpList_store_mid rfl 282 (.tmp 2) (.tmp 46) rfl w.heap.size 0 (cells16 zero8).toArray rfl rfl (there_row HY.out (by decide)) size8 (all_oneCell_toArray (cells16_one _)) ?_)
    refine bodyPost_ret (results_six rfl _ _ _ w.heap.size (cells16 zero8) _ rfl (World.rangeAt_setCells_same _ _ _ _ (there_row HY.out (by decide))) Tryz.underlying282 rfl size8) rfl ⟨ret_six2 rfl (by rw [HN.out];rfl) (by rw [HN.out];rfl),below_setCells (Nat.le_refl _) _ _ _ HBz.out⟩
   ·have HX:=hid (row_kept HX2.out hb3)
    have HY:=hid (row_kept HY2.out hb3);have HBz:=hid (below2 HB2.out hb3);obtain ⟨a1,cap1,rfl⟩:=own_form hown
    have HO:=hid hown;have hbs3:=hb3.size;clear hown hb3;by_cases h8:x.length=8
    ·have HN:=hid (show sixV s.data.toList=some x by rw [HS.out,hrx];simp only;rw [if_pos h8])
     clear hrx;rw [h8];have hn1:(cells16 x).length=8:=by rw [cells16_len];exact h8
     have HO8:=hid (show w3.ownsRow W2.heap.size 281 1 (.slice a1 x.length cap1) x.length (cells16 x) from HO.out)
     go_wp2_with (refine wpList_copy_apart rfl _ _ 289 289 rfl 281 Tryz.underlying289 (by kernel_rfl) _ _ _ _ _ _ rfl rfl (w.heap.size+1) 0 (cells16 zero8) 282 HX.out (cells16 x) ?n1 ?n2 ?n3 (cells16_one _) w.heap.size w HBz.out (by omega) ?_)
     case n1=>rw [hn1];rfl
     case n2=>first | exact own_src HO8.out (by omega) (Below.refl _ w3) | exact fun h=>own_src HO8.out (by omega) (Below.refl _ w3)
     case n3=>rw [hn1];decide
     intro w4 HX4 HK4 hb4;have HX4':=hid (show w4.heap[w.heap.size+1]? = some (.cells (cells16 x).toArray 282 (0,0)) by
      rw [HX4.out];have e:splice (cells16 zero8) 0 (cells16 x)=cells16 x:=by
       unfold splice;rw [List.take_zero,List.nil_append,hn1,List.drop_eq_nil_of_le (by decide),List.append_nil]
      rw [e])
     have HY4:=hid (show w4.heap[w.heap.size]? = some (.cells (cells16 zero8).toArray 282 (0,0)) by rw [HK4.out _ (by omega)];exact HY.out);have hi8:(Tryz.prog.info? 282).map (·.size)=some (cells16 x).length:=by rw [hn1];exact size8
     have hi8':(Tryz.prog.info? 282).map (·.size)=some (cells16 x).toArray.size:=by rw [List.size_toArray,hn1];exact size8
     have hth:w4.there w.heap.size 0 (cells16 x).toArray.size:=there_row HY4.out (by rw [List.size_toArray,hn1];decide)
     have hth2:w4.there w.heap.size 0 (cells16 x).length:=by rw [hn1];exact there_row HY4.out (by decide)
     clear HX4 HK4
     go_wp2_with (first | refine wpList_load_mid rfl 282 (.tmp 4) rfl (w.heap.size+1) 0 rfl (cells16 x) _ (range_row HX4'.out) Tryz.underlying282 rfl hi8 ?_ | refine wpList_store_mid rfl 282 (.tmp 2) (.tmp 50) rfl w.heap.size 0 (cells16 x).toArray rfl rfl hth hi8' (all_oneCell_toArray (cells16_one _)) ?_)
     refine bodyPost_ret (results_six rfl _ _ _ w.heap.size (cells16 x) _ rfl (World.rangeAt_setCells_same _ _ _ _ hth2) Tryz.underlying282 rfl hi8) rfl ⟨ret_six2 rfl (by rw [HN.out];rfl) (by rw [HN.out];rfl),below_setCells (Nat.le_refl _) _ _ _ hb4⟩
    ·have HN:=hid (show sixV s.data.toList=none by rw [HS.out,hrx];simp only;rw [if_neg h8])
     clear hrx;have h8':((x.length:Int) != 8)=true:=by rw [bne_iff_ne];omega
     go_wp2_with (first | refine wpList_load_mid rfl 282 (.tmp 4) rfl (w.heap.size+1) 0 rfl (cells16 zero8) _ (range_row HX.out) Tryz.underlying282 rfl size8 ?_ | refine wpList_store_mid rfl 282 (.tmp 2) (.tmp 46) rfl w.heap.size 0 (cells16 zero8).toArray rfl rfl (there_row HY.out (by decide)) size8 (all_oneCell_toArray (cells16_one _)) ?_)
     refine bodyPost_ret (results_six rfl _ _ _ w.heap.size (cells16 zero8) _ rfl (World.rangeAt_setCells_same _ _ _ _ (there_row HY.out (by decide))) Tryz.underlying282 rfl size8) rfl ⟨ret_six2 rfl (by rw [HN.out];rfl) (by rw [HN.out];rfl),below_setCells (Nat.le_refl _) _ _ _ HBz.out⟩

end Go.Proofs.YtolioccofbhliaaGreatDoor

namespace Go.Proofs.YtolioccofbhliaaGreatDoor
open Go.RowKit

def RunAt (fr tu b:Nat) (a:Int):Prop:=b=max (tu - fr) 1∧((fr=tu∧a = -1)∨(fr<tu∧a=fr))

theorem last_atR (A:List UInt8) (c:UInt8) (h:A.length<(⟨(A++[c]).toArray⟩:ByteArray).size):(⟨(A++[c]).toArray⟩:ByteArray)[A.length]=c:=by
 show (A++[c]).toArray[A.length]'(by simp)=c;simp

theorem toList_ne (B:ByteArray) (h:0<B.size):B.toList.isEmpty=false:=by
 rw [Lib.toList_data];rw [Lib.size_eq] at h
 cases hl:B.data.toList with
 | nil=>rw [hl] at h;simp at h
 | cons a l=>rfl

set_option maxHeartbeats 4000000 in
set_option maxRecDepth 100000 in
theorem rtext6_any (x:List Nat) (w:World) (h8:x.length=8) (h16: ∀ n ∈ x,n<65536):
 Calls Tryz.prog 263 #[agg8 x] w fun e w'=>e = .returned (.string ⟨(text6 x).toArray⟩)∧Below w.heap.size w w':=by
 have HN0:=hid (nums_row (x:=x) (heap_alloc_new w (.cells (cells16 x).toArray 282 (0,0))));have H16:=hid h16;clear h16;unfold agg8
 go_enter Tryz.func263,Tryz.ntmps263
 go_wp2
 have HB0:=hid ((Below.refl _ w).alloc (Nat.le_refl _) (.cells (cells16 x).toArray 282 (0,0)))
 go_loopg [3,4,5] 8 (fun g av bv iv wr=> ∃ (i fr tu b:Nat) (a:Int),i+g=8∧av = .int .i64 a∧bv = .int .i64 b∧iv = .int .i64 i∧fr≤tu∧tu≤8 ∧ -1≤a∧a≤8∧b≤8∧RunAt fr tu b a∧lrunN 0 i fr tu (x.drop i)=lrun x∧Nums wr w.heap.size 0 x∧Below w.heap.size w wr)
 case atStart=>exact ⟨0,0,0,1,-1,by omega,rfl,rfl,rfl,by omega,by omega,by omega,by omega,by omega,⟨rfl,.inl ⟨rfl,rfl⟩⟩,rfl,HN0.out,HB0.out⟩
 case round=>
  obtain ⟨i,fr,tu,b,a,hig,rfl,rfl,rfl,hft,ht8,ha1,ha2,hb8,hrun,hlr,hnums,hbw⟩:=hrel
  have HL:=hid hlr;have HN:=hid hnums;have HRun:=hid hrun;clear hlr hnums hrun
  cases gk with
  | zero=>
    have HR:=hid (show lrun x=(fr,tu) by rw [← HL.out,List.drop_eq_nil_of_le (by omega)];rfl);have hi8:i=8:=by omega
    subst hi8;clear hig;have hcase:(fr=tu∧a = -1)∨(fr<tu∧a=fr∧fr+b≤tu∧tu≤fr+b):=by
     obtain ⟨h1,h2⟩:=HRun.out
     omega
    have HF:=hid (show t6 x fr tu 8=text6 x by
     have h:=t6_end x h8 (by rw [HR.out];omega) (by rw [HR.out];exact ht8)
     rw [HR.out] at h;exact h)
    clear HL HR HRun
    go_wp2
    go_loopg [7,8] 8 (fun g tv iv wx=> ∃ i:Nat,i+g=8∧iv = .int .i64 i∧tv = .string ⟨(t6 x fr tu i).toArray⟩∧(fr=tu∨i≤fr∨tu≤i)∧Nums wx w.heap.size 0 x∧Below w.heap.size w wx)
    case atStart=>exact ⟨0,by omega,rfl,by simp [t6,joined_nil],by omega,HN.out,hbw⟩
    case round=>
     clear HN hbw;obtain ⟨i,hig,rfl,rfl,hpl,hnums,hbw⟩:=hrel
     have HN:=hid hnums;clear hnums;have hTl:=t6_le x fr tu i h8
     cases gk with
     | zero=>
       have hi8:i=8:=by omega
       subst hi8
       go_wp2
       go_ret
       rw [HF.out];exact ⟨rfl,hbw⟩
     | succ g=>
       have hi8:(i:Int)<8:=by omega
       by_cases hat:fr<tu∧i=fr
       ·obtain ⟨hlt,rfl⟩:=hat
        have ha:a=(i:Int):=by omega
        subst ha;have HM:=hid (show (⟨(t6 x i tu i).toArray⟩:ByteArray)++⟨#[58,58]⟩=⟨(t6 x i tu tu).toArray⟩ by rw [t6_mark x i tu hlt (by omega),show (⟨#[58,58]⟩:ByteArray)=⟨[58,58].toArray⟩ from rfl,ba_app]);have hbt1:(i:Int)+(b:Int)≤(tu:Int):=by omega
        have hbt2:(tu:Int)≤(i:Int)+(b:Int):=by omega
        clear hcase
        go_wp2
        go_roundg (8 - tu)
        case measure=>omega
        case rel=>exact ⟨tu,by omega,by go_num,by rw [HM.out],by omega,HN.out,hbw⟩
       ·have hat':((i:Int)==a)=false:=by rw [beq_eq_false_iff_ne];omega
        have hix:i<x.length:=by omega
        have hcell:=HN.out i hix;rw [Nat.zero_add] at hcell;have HD:=hid (fun W=>rdigits_any x[i] W (H16.out _ (List.getElem_mem hix)));have hpl':fr=tu∨i+1≤fr∨tu≤i+1:=by omega
        have hst:=t6_step x fr tu i hix hft (by omega)
        have hxl:=hex16_le x[i];generalize x[i]=xi at hcell HD hst hxl;generalize t6 x fr tu i=T at *
        clear hcase hat hpl;rcases hst with ⟨h1,h2⟩ | ⟨⟨A,h1⟩,h2⟩ | ⟨⟨A,c,h1,hc⟩,h2⟩
        ·subst h1
         have HE:=hid h2;clear h2
         go_wp2_with (go_at_call 270;go_must (refine (HD.out _).mono ?_;rintro e w2 ⟨rfl,rfl⟩))
         go_roundg g
         case measure=>omega
         case rel=>exact ⟨i+1,by omega,by go_num,by rw [HE.out];simp;exact ba_app [] _,hpl',HN.out,hbw⟩
        ·obtain ⟨B,hB⟩: ∃ B:ByteArray,B=⟨T.toArray⟩:=⟨_,rfl⟩
         have hBs:B.size=A.length+1:=by rw [hB,h1];simp [ByteArray.size]
         have hTl':A.length+1≤200:=by rw [h1] at hTl;simpa using hTl
         have hB0:(0:Int)≤(B.size:Int) - 1:=by omega
         have hB2:(B.size:Int)≤200:=by omega
         have hlt:B.size - 1<B.size:=by omega
         have hq:B[B.size - 1]=58:=by
          subst hB;subst h1;have e:(⟨(A++[58]).toArray⟩:ByteArray).size - 1=A.length:=by omega
          simp only [e];exact last_atR A 58 (by omega)
         have hqi:((B[B.size - 1].toNat:Int))=58:=by rw [hq];rfl
         have hne:B.toList.isEmpty=false:=toList_ne B (by omega)
         have hne': ¬ (B.toList=[]):=by intro h;rw [h] at hne;simp at hne
         have HE:=hid (show B++⟨(hex16 xi).toArray⟩=⟨(t6 x fr tu (i+1)).toArray⟩ by rw [h2,hB,ba_app]);rw [← hB];clear h2 hB h1 hTl hBs hTl' hq
         go_wp2_with (go_at_call 270;go_must (refine (HD.out _).mono ?_;rintro e w2 ⟨rfl,rfl⟩))
         all_goals
          go_roundg g
          case measure=>omega
          case rel=>exact ⟨i+1,by omega,by go_num,by rw [HE.out],hpl',HN.out,hbw⟩
        ·obtain ⟨B,hB⟩: ∃ B:ByteArray,B=⟨T.toArray⟩:=⟨_,rfl⟩
         have hBs:B.size=A.length+1:=by rw [hB,h1];simp [ByteArray.size]
         have hTl':A.length+1≤200:=by rw [h1] at hTl;simpa using hTl
         have hB0:(0:Int)≤(B.size:Int) - 1:=by omega
         have hB2:(B.size:Int)≤200:=by omega
         have hlt:B.size - 1<B.size:=by omega
         have hq:B[B.size - 1]=c:=by
          subst hB;subst h1;have e:(⟨(A++[c]).toArray⟩:ByteArray).size - 1=A.length:=by omega
          simp only [e];exact last_atR A c (by omega)
         have hqi:((B[B.size - 1].toNat:Int)==58)=false:=by
          rw [hq,beq_eq_false_iff_ne]
          intro h;exact hc (UInt8.toNat_inj.1 (by have:c.toNat=58:=by omega
                                                  rw [this];rfl))
         have hne:B.toList.isEmpty=false:=toList_ne B (by omega)
         have hne': ¬ (B.toList=[]):=by intro h;rw [h] at hne;simp at hne
         have hqn:((B[B.size - 1].toNat:Int) != 58)=true:=by rw [bne,hqi];rfl
         have HE:=hid (show B++⟨#[58]⟩++⟨(hex16 xi).toArray⟩=⟨(t6 x fr tu (i+1)).toArray⟩ by rw [h2,hB,show (⟨#[58]⟩:ByteArray)=⟨[58].toArray⟩ from rfl,ba_app,ba_app,List.append_assoc]);rw [← hB];clear h2 hB h1 hTl hBs hTl' hq
         go_wp2_with (go_at_call 270;go_must (refine (HD.out _).mono ?_;rintro e w2 ⟨rfl,rfl⟩))
         all_goals
          go_roundg g
          case measure=>omega
          case rel=>exact ⟨i+1,by omega,by go_num,by rw [HE.out],hpl',HN.out,hbw⟩
  | succ g=>
    have hi8:(i:Int)<8:=by omega
    go_wp2
    go_loopg [6] (8 - i) (fun h cv wx=> ∃ c:Nat,c+i+h=8∧cv = .int .i64 c∧c+zeros (x.drop (i+c))=zeros (x.drop i)∧wx=wr)
    case atStart=>exact ⟨0,by omega,rfl,by simp,rfl⟩
    case round=>
     obtain ⟨c,hch,rfl,hze,rfl⟩:=hrel
     have HZ:=hid hze;clear hze;by_cases hstop:i+c<8∧x.getD (i+c) 0=0
     ·obtain ⟨he8,hx0⟩:=hstop
      have hex:i+c<x.length:=by omega
      have hx0':x[i+c]=0:=by simpa [List.getD,hex] using hx0
      have hcell:=HN.out (i+c) hex;rw [hx0',Nat.zero_add] at hcell
      have HZ2:=hid (show c+1+zeros (x.drop (i+(c+1)))=zeros (x.drop i) by rw [← HZ.out,zeros_hit hex hx0',Nat.add_assoc i c 1];omega);have he8':(i:Int)+(c:Int)<8:=by omega
      clear hx0 hx0'
      go_wp2
      go_roundg (8 - (i+c+1))
      case measure=>omega
      case rel=>exact ⟨c+1,by omega,by go_num,HZ2.out,rfl⟩
     ·have hz0:zeros (x.drop (i+c))=0:=by
       by_cases he8:i+c<8
       ·have hex:i+c<x.length:=by omega
        refine zeros_miss hex (fun h=>hstop ⟨he8,?_⟩);simp [List.getD,hex,h]
       ·rw [List.drop_eq_nil_of_le (by omega)];rfl
      have hend:c=zeros (x.drop i):=by rw [← HZ.out,hz0];omega
      obtain ⟨hbm,hcase⟩:=HRun.out
      by_cases hA:max (tu - fr) 1<zeros (x.drop i)
      ·have HT:=hid (show lrunN 0 (i+1) i (i+c) (x.drop (i+1))=lrun x by
        have h:=lrunN_take (x:=x) (i:=i) (fr:=fr) (tu:=tu) (by omega) hA
        rw [HL.out,← hend] at h
        exact h.symm)
       have HRn:=hid (show RunAt i (i+c) c (i:Int) from ⟨by omega,.inr ⟨by omega,rfl⟩⟩);have hA':(b:Int)<(c:Int):=by omega
       have hc8:c≤8:=by omega
       have hic:i+c≤8:=by omega
       clear hend hz0 hA hbm hcase;by_cases he8:i+c<8
       ·have hex:i+c<x.length:=by omega
        have hcell:=HN.out (i+c) hex;have hx0:((x[i+c]:Int)==0)=false:=by
         rw [beq_eq_false_iff_ne];intro h;apply hstop;refine ⟨he8,?_⟩
         simp [List.getD,hex];omega
        rw [Nat.zero_add] at hcell;generalize x[i+c]=xe at hcell hx0;have he8':(i:Int)+(c:Int)<8:=by omega
        clear hstop
        go_wp2
        go_roundg g
        case measure=>omega
        case rel=>exact ⟨i+1,i,i+c,c,i,by omega,rfl,rfl,by go_num,by omega,by omega,by omega,by omega,by omega,HRn.out,HT.out,HN.out,hbw⟩
       ·have he8':decide ((i:Int)+(c:Int)<8)=false:=decide_eq_false (by omega)
        clear hstop
        go_wp2
        go_roundg g
        case measure=>omega
        case rel=>exact ⟨i+1,i,i+c,c,i,by omega,rfl,rfl,by go_num,by omega,by omega,by omega,by omega,by omega,HRn.out,HT.out,HN.out,hbw⟩
      ·have HT:=hid (show lrunN 0 (i+1) fr tu (x.drop (i+1))=lrun x by
        have h:=lrunN_skip (x:=x) (i:=i) (fr:=fr) (tu:=tu) (by omega) hA
        rw [HL.out] at h;exact h.symm)
       have hA': ¬ ((b:Int)<(c:Int)):=by omega
       clear hend hz0 hA hbm hcase;by_cases he8:i+c<8
       ·have hex:i+c<x.length:=by omega
        have hcell:=HN.out (i+c) hex;have hx0:((x[i+c]:Int)==0)=false:=by
         rw [beq_eq_false_iff_ne];intro h;apply hstop;refine ⟨he8,?_⟩
         simp [List.getD,hex];omega
        rw [Nat.zero_add] at hcell;generalize x[i+c]=xe at hcell hx0;have he8':(i:Int)+(c:Int)<8:=by omega
        clear hstop
        go_wp2
        go_roundg g
        case measure=>omega
        case rel=>exact ⟨i+1,fr,tu,b,a,by omega,rfl,rfl,by go_num,hft,ht8,ha1,ha2,hb8,HRun.out,HT.out,HN.out,hbw⟩
       ·have he8':decide ((i:Int)+(c:Int)<8)=false:=decide_eq_false (by omega)
        clear hstop
        go_wp2
        go_roundg g
        case measure=>omega
        case rel=>exact ⟨i+1,fr,tu,b,a,by omega,rfl,rfl,by go_num,hft,ht8,ha1,ha2,hb8,HRun.out,HT.out,HN.out,hbw⟩

end Go.Proofs.YtolioccofbhliaaGreatDoor
