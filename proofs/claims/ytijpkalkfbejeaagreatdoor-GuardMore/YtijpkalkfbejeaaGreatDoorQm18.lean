/- Walks and plain facts. -/
import Derived.Test.YtijpkalkfbejeaaGreatDoorQm17
set_option linter.unusedSimpArgs false
set_option linter.unusedVariables false
set_option maxHeartbeats 16000000
set_option maxRecDepth 100000

namespace Go.Proofs.YtijpkalkfbejeaaGreatDoor
open Go.RowKit
def slL (L:List (List UInt8)):List UInt8:=L.flatMap (fun p=>47::p)
theorem slL_snoc (L:List (List UInt8)) (p:List UInt8):slL (L++[p])=slL L++47::p:=by simp [slL]
theorem slL_take (L:List (List UInt8)) (k:Nat):(slL (L.take k)).length<=(slL L).length:=by
 have:slL L=slL (L.take k)++slL (L.drop k):=by rw [slL,slL,slL,<- List.flatMap_append,List.take_append_drop]
 rw [this,List.length_append];omega
theorem slL_at (L:List (List UInt8)) (k:Nat) (h:k<L.length):(slL (L.take k)).length+1+L[k].length<=(slL L).length:=by
 have h1:=slL_take L (k+1);rw [List.take_add_one,List.getElem?_eq_getElem h] at h1
 have h2:=slL_snoc (L.take k) L[k];rw [show (some L[k]).toList=[L[k]] from rfl,h2] at h1;simp at h1;omega
def preT (u:Adr):List UInt8:=if u.hasHost=false/\1<u.path.length/\u.path.head? = some [] then [47,46] else []
theorem pathT_plain {u:Adr} (h:u.opq=false):pathT u=preT u++slL u.path:=by
 rw [pathT,h];rfl
theorem pathText_any (u:Adr) (pv:Value) (w:World) (hp:PathAt w pv u.path) (hl:u.path.length<=1000000) (hf:(slL u.path).length<=1000000) (hf2:u.path.flatten.length<=1000000):
 Calls Tryz.prog 72 #[adrVal u pv] w fun e w'=>e = .returned (.string ⟨(pathT u).toArray⟩)/\Below w.heap.size w w':=by
 obtain ⟨sc,us,ps,ho,hh,po,op,pa,qu,fr,hq,hfr⟩:=u
 simp only at hp hl hf hf2;have HJ:=hid (fun (w:World) (h:PathAt w pv pa)=>joinP_any pv pa w h hl hf2);have HP:=hid hp;have hbx:Below w.heap.size w (w.alloc (.cells (adrCells ⟨sc,us,ps,ho,hh,po,op,pa,qu,fr,hq,hfr⟩ pv).toArray 24)):=(Below.refl _ w).alloc (Nat.le_refl _) _;have hsl:IsSl pv:=by
  rcases hp with ⟨rfl,_⟩ | ⟨b,cap,rfl,_⟩
  ·exact ⟨_,_,_,rfl⟩
  ·exact ⟨_,_,_,rfl⟩
 have HBx:=hid hbx;clear hbx
 cases op with
 | true=>
   obtain ⟨a0,n0,c0,rfl⟩:=hsl
   unfold adrVal adrCells
   go_enter Tryz.func72,Tryz.ntmps72
   go_wp2_with fail
   refine (HJ.out _ (HP.out.kept ((Below.refl _ w).alloc (Nat.le_refl _) _))).mono ?_;rintro e w2 ⟨rfl,hb2⟩
   have hb1:=(Below.refl w.heap.size w).alloc (Nat.le_refl _) (.cells (adrCells ⟨sc,us,ps,ho,hh,po,true,pa,qu,fr,hq,hfr⟩ (.slice a0 n0 c0)).toArray 24);have HB2:=hid (show Below w.heap.size w w2 from hb1.trans (hb2.mono hb1.size));clear hb1 hb2
   go_wp2
   go_ret
   exact ⟨rfl,HB2.out⟩
 | false=>
   have HT:=hid (pathT_plain (u:=⟨sc,us,ps,ho,hh,po,false,pa,qu,fr,hq,hfr⟩) rfl);rcases hp with ⟨rfl,rfl⟩ | ⟨pb,cap,rfl,hpb,hpc,hpm,htx⟩
   ·have hW:Below w.heap.size w ((w.alloc (.cells (adrCells ⟨sc,us,ps,ho,hh,po,false,[],qu,fr,hq,hfr⟩ (.slice none 0 0)).toArray 24)).alloc (.cells #[.pointer none,.slice none 0 0] 131)):=((Below.refl _ w).alloc (Nat.le_refl _) _).alloc (by simp) _
    have hfb:Lib.IsBuilderF 131 5 (w.heap.size+1) (w.heap.size+1) (Lib.byteCells []) ((w.alloc (.cells (adrCells ⟨sc,us,ps,ho,hh,po,false,[],qu,fr,hq,hfr⟩ (.slice none 0 0)).toArray 24)).alloc (.cells #[.pointer none,.slice none 0 0] 131)):=by
     have:=Lib.IsBuilderF.of (Lib.fresh_isBuilder 131 5 (w.alloc (.cells (adrCells ⟨sc,us,ps,ho,hh,po,false,[],qu,fr,hq,hfr⟩ (.slice none 0 0)).toArray 24)));rw [World.size_alloc] at this;exact this
    have HW:=hid hW;have HFb:=hid hfb;clear hW hfb hsl;have HE:=hid (show pathT ⟨sc,us,ps,ho,hh,po,false,[],qu,fr,hq,hfr⟩=[] by cases hh<;>rfl);unfold adrVal adrCells
    cases hh with
    | true=>
      go_enter Tryz.func72,Tryz.ntmps72
      go_wp2
      go_loopw [31] (fun i wr=>i = .int .i64 0/\Lib.IsBuilderF 131 5 (w.heap.size+1) (w.heap.size+1) (Lib.byteCells []) wr/\Below w.heap.size w wr/\w.heap.size+1<=wr.heap.size) (fun _ _=>0)
      case atStart=>exact ⟨rfl,HFb.out,HW.out,by simp⟩
      case round=>
       obtain ⟨rfl,hI,hbw,hsz⟩:=hrel
       go_wp2_with fail
       refine (Tryz.Builder_String_any_k (w.heap.size+1) (w.heap.size+1) _ _ hI hsz).mono ?_;rintro e w4 ⟨rfl,_,hb4,_⟩
       go_wp2
       go_ret
       rw [HE.out];exact ⟨rfl,hbw.trans (hb4.mono (by omega))⟩
    | false=>
      go_enter Tryz.func72,Tryz.ntmps72
      go_wp2
      go_loopw [31] (fun i wr=>i = .int .i64 0/\Lib.IsBuilderF 131 5 (w.heap.size+1) (w.heap.size+1) (Lib.byteCells []) wr/\Below w.heap.size w wr/\w.heap.size+1<=wr.heap.size) (fun _ _=>0)
      case atStart=>exact ⟨rfl,HFb.out,HW.out,by simp⟩
      case round=>
       obtain ⟨rfl,hI,hbw,hsz⟩:=hrel
       go_wp2_with fail
       refine (Tryz.Builder_String_any_k (w.heap.size+1) (w.heap.size+1) _ _ hI hsz).mono ?_;rintro e w4 ⟨rfl,_,hb4,_⟩
       go_wp2
       go_ret
       rw [HE.out];exact ⟨rfl,hbw.trans (hb4.mono (by omega))⟩
   ·have HTx:=hid htx
    clear htx hsl;have hpcl:(pa.length:Int)<=(cap:Int):=by omega
    by_cases hpre:hh=false/\1<pa.length/\pa.head? = some []
    ·have HPre:=hid (show preT ⟨sc,us,ps,ho,hh,po,false,pa,qu,fr,hq,hfr⟩=[47,46] by rw [preT,if_pos hpre])
     obtain ⟨rfl,h1,h2⟩:=hpre
     have h0:pa[0]? = some []:=by rw [<- List.head?_eq_getElem?];exact h2
     obtain ⟨h0l,h0e⟩:=List.getElem?_eq_some_iff.1 h0
     have hc0:w.cell? ⟨pb,0,none⟩=some (.string ⟨#[]⟩):=by rw [HTx.out 0 h0l,h0e]
     have h1':(1:Int)<(pa.length:Int):=by omega
     clear h2 h0 h0e h1;have hW:Below w.heap.size w ((w.alloc (.cells (adrCells ⟨sc,us,ps,ho,false,po,false,pa,qu,fr,hq,hfr⟩ (.slice (some ⟨pb,0,none⟩) pa.length cap)).toArray 24)).alloc (.cells #[.pointer none,.slice none 0 0] 131)):=((Below.refl _ w).alloc (Nat.le_refl _) _).alloc (by simp) _
     have hfb:Lib.IsBuilderF 131 5 (w.heap.size+1) (w.heap.size+1) (Lib.byteCells []) ((w.alloc (.cells (adrCells ⟨sc,us,ps,ho,false,po,false,pa,qu,fr,hq,hfr⟩ (.slice (some ⟨pb,0,none⟩) pa.length cap)).toArray 24)).alloc (.cells #[.pointer none,.slice none 0 0] 131)):=by
      have:=Lib.IsBuilderF.of (Lib.fresh_isBuilder 131 5 (w.alloc (.cells (adrCells ⟨sc,us,ps,ho,false,po,false,pa,qu,fr,hq,hfr⟩ (.slice (some ⟨pb,0,none⟩) pa.length cap)).toArray 24)));rw [World.size_alloc] at this;exact this
     have hA2:AdrIn ((w.alloc (.cells (adrCells ⟨sc,us,ps,ho,false,po,false,pa,qu,fr,hq,hfr⟩ (.slice (some ⟨pb,0,none⟩) pa.length cap)).toArray 24)).alloc (.cells #[.pointer none,.slice none 0 0] 131)) w.heap.size ⟨sc,us,ps,ho,false,po,false,pa,qu,fr,hq,hfr⟩ (.slice (some ⟨pb,0,none⟩) pa.length cap):=
      AdrIn.kept (w:=(w.alloc (.cells (adrCells ⟨sc,us,ps,ho,false,po,false,pa,qu,fr,hq,hfr⟩ (.slice (some ⟨pb,0,none⟩) pa.length cap)).toArray 24))) (heap_alloc_new w _) ((Below.refl _ _).alloc (Nat.le_refl _) _)
     have HW:=hid hW;have HFb:=hid hfb;have HA2:=hid hA2;clear hW hfb hA2;unfold adrVal adrCells
     go_enter Tryz.func72,Tryz.ntmps72
     go_wp2_with fail
     refine (writeString_k (w.heap.size+1) (w.heap.size+1) _ ⟨#[47,46]⟩ _ HFb.out (show 0+2<=140737488355328 by omega) (by simp)).mono ?_;rintro e w1 ⟨rfl,h1,hb1⟩
     have HI1:=hid (show Lib.IsBuilderF 131 5 (w.heap.size+1) (w.heap.size+1) (Lib.byteCells ([47,46]++slL (pa.take 0))) w1 from .inr h1);have HB1:=hid (show Below w.heap.size w w1 from HW.out.trans (hb1.mono (by omega)));have hsz1:w.heap.size+1<=w1.heap.size:=by have:=hb1.size;simp at this;omega
     have hc7:w1.cell? ⟨w.heap.size,7,none⟩=some (.slice (some ⟨pb,0,none⟩) pa.length cap):=(hb1.cell (p:=⟨w.heap.size,7,none⟩) (by simp)).trans (HA2.out.cell 7 _ rfl)
     clear h1 hb1 hc0
     go_wp2
     clear hc7
     go_loopw [31] (fun i wr=> ∃ k:Nat,k<=pa.length/\i = .int .i64 k/\Lib.IsBuilderF 131 5 (w.heap.size+1) (w.heap.size+1) (Lib.byteCells ([47,46]++slL (pa.take k))) wr/\Below w.heap.size w wr/\w.heap.size+1<=wr.heap.size) (fun i _=>pa.length - (intOf i).toNat)
     case atStart=>exact ⟨0,Nat.zero_le _,rfl,HI1.out,HB1.out,hsz1⟩
     case round=>
      obtain ⟨k,hk,rfl,hI,hbw,hsz⟩:=hrel
      have HI:=hid hI;clear hI;by_cases hlt:k<pa.length
      ·have hck:wr.cell? ⟨pb,k,none⟩=some (.string ⟨pa[k].toArray⟩):=by rw [hbw.cell (p:=⟨pb,k,none⟩) hpb];exact HTx.out k hlt
       have hat:=slL_at pa k hlt;obtain ⟨Xk,hXk⟩: ∃ X:ByteArray,X=⟨pa[k].toArray⟩:=⟨_,rfl⟩
       have hXs:Xk.size<=1000000:=by rw [hXk,Lib.size_eq];show pa[k].length<=1000000;omega
       rw [<- hXk] at hck;have HS:=hid (show Lib.byteCells ([47,46]++slL (pa.take k))++Lib.strCells ((⟨#[47]⟩:ByteArray)++Xk)=Lib.byteCells ([47,46]++slL (pa.take (k+1))) by
        rw [List.take_add_one,List.getElem?_eq_getElem hlt,show (some pa[k]).toList=[pa[k]] from rfl,slL_snoc,hXk,show ((⟨#[47]⟩:ByteArray)++⟨pa[k].toArray⟩)=⟨(47::pa[k]).toArray⟩ from ba_app [47] pa[k],Lib.strCells_toArray,<- Lib.byteCells_append,List.append_assoc])
       have hps:([47,46]:List UInt8).length<=2:=by simp
       have hln:(Lib.byteCells ([47,46]++slL (pa.take k))).length+((⟨#[47]⟩:ByteArray)++Xk).size<=140737488355328:=by
        rw [Lib.byteCells_length,List.length_append,ByteArray.size_append]
        have:(⟨#[47]⟩:ByteArray).size=1:=rfl;omega
       have HLn:=hid hln;clear hat hln hXk hps
       go_wp2_with fail
       refine (writeString_k (w.heap.size+1) (w.heap.size+1) _ _ wr HI.out HLn.out hsz).mono ?_;rintro e w3 ⟨rfl,h3,hb3⟩
       have HI3:=hid (show Lib.IsBuilderF 131 5 (w.heap.size+1) (w.heap.size+1) (Lib.byteCells ([47,46]++slL (pa.take (k+1)))) w3 by rw [<- HS.out];exact .inr h3);have HB3:=hid (hbw.trans (hb3.mono (by omega)));have hsz3:=hb3.size;clear h3 hb3
       go_wp2
       go_roundw
       case rel=>exact ⟨k+1,by omega,by go_num,HI3.out,HB3.out,by omega⟩
       case measure=>simp [intOf];omega
      ·have hkl:pa.take k=pa:=List.take_of_length_le (by omega)
       have hI:=HI.out;rw [hkl] at hI;have HI4:=hid hI;clear hI
       go_wp2_with fail
       refine (Tryz.Builder_String_any_k (w.heap.size+1) (w.heap.size+1) _ _ HI4.out hsz).mono ?_;rintro e w4 ⟨rfl,_,hb4,_⟩
       have HB4:=hid (hbw.trans (hb4.mono (by omega)));clear hb4
       go_wp2
       go_ret
       rw [HT.out,HPre.out]
       exact ⟨rfl,HB4.out⟩
    ·have HPre:=hid (show preT ⟨sc,us,ps,ho,hh,po,false,pa,qu,fr,hq,hfr⟩=[] by rw [preT,if_neg hpre])
     have hcase:hh=true∨(hh=false /\ ¬ (1:Int)<(pa.length:Int))∨(hh=false/\(1:Int)<(pa.length:Int) /\ ∃ X:ByteArray,w.cell? ⟨pb,0,none⟩=some (.string X)/\X.toList.isEmpty=false):=by
      cases hh with
      | true=>exact .inl rfl
      | false=>
        by_cases h1:1<pa.length
        ·refine .inr (.inr ⟨rfl,by omega,⟨pa[0].toArray⟩,HTx.out 0 (by omega),empty_no _ ?_⟩)
         intro e;refine hpre ⟨rfl,h1,?_⟩
         rw [List.head?_eq_getElem?,List.getElem?_eq_getElem (by omega)]
         exact congrArg some e
        ·exact .inr (.inl ⟨rfl,by omega⟩)
     clear hpre;rcases hcase with rfl | ⟨rfl,h1⟩ | ⟨rfl,h1,X0,hx1,hx2⟩
     ·skip
      have hW:Below w.heap.size w ((w.alloc (.cells (adrCells ⟨sc,us,ps,ho,true,po,false,pa,qu,fr,hq,hfr⟩ (.slice (some ⟨pb,0,none⟩) pa.length cap)).toArray 24)).alloc (.cells #[.pointer none,.slice none 0 0] 131)):=((Below.refl _ w).alloc (Nat.le_refl _) _).alloc (by simp) _
      have hfb:Lib.IsBuilderF 131 5 (w.heap.size+1) (w.heap.size+1) (Lib.byteCells []) ((w.alloc (.cells (adrCells ⟨sc,us,ps,ho,true,po,false,pa,qu,fr,hq,hfr⟩ (.slice (some ⟨pb,0,none⟩) pa.length cap)).toArray 24)).alloc (.cells #[.pointer none,.slice none 0 0] 131)):=by
       have:=Lib.IsBuilderF.of (Lib.fresh_isBuilder 131 5 (w.alloc (.cells (adrCells ⟨sc,us,ps,ho,true,po,false,pa,qu,fr,hq,hfr⟩ (.slice (some ⟨pb,0,none⟩) pa.length cap)).toArray 24)));rw [World.size_alloc] at this;exact this
      have hA2:AdrIn ((w.alloc (.cells (adrCells ⟨sc,us,ps,ho,true,po,false,pa,qu,fr,hq,hfr⟩ (.slice (some ⟨pb,0,none⟩) pa.length cap)).toArray 24)).alloc (.cells #[.pointer none,.slice none 0 0] 131)) w.heap.size ⟨sc,us,ps,ho,true,po,false,pa,qu,fr,hq,hfr⟩ (.slice (some ⟨pb,0,none⟩) pa.length cap):=
       AdrIn.kept (w:=(w.alloc (.cells (adrCells ⟨sc,us,ps,ho,true,po,false,pa,qu,fr,hq,hfr⟩ (.slice (some ⟨pb,0,none⟩) pa.length cap)).toArray 24))) (heap_alloc_new w _) ((Below.refl _ _).alloc (Nat.le_refl _) _)
      have HW:=hid hW;have HFb:=hid hfb;have HA2:=hid hA2;clear hW hfb hA2;have HI1:=hid (show Lib.IsBuilderF 131 5 (w.heap.size+1) (w.heap.size+1) (Lib.byteCells (([]:List UInt8)++slL (pa.take 0))) _ from HFb.out);have HB1:=HW;unfold adrVal adrCells
      go_enter Tryz.func72,Tryz.ntmps72
      go_wp2
      go_loopw [31] (fun i wr=> ∃ k:Nat,k<=pa.length/\i = .int .i64 k/\Lib.IsBuilderF 131 5 (w.heap.size+1) (w.heap.size+1) (Lib.byteCells (([]:List UInt8)++slL (pa.take k))) wr/\Below w.heap.size w wr/\w.heap.size+1<=wr.heap.size) (fun i _=>pa.length - (intOf i).toNat)
      case atStart=>exact ⟨0,Nat.zero_le _,rfl,HI1.out,HB1.out,by simp⟩
      case round=>
       obtain ⟨k,hk,rfl,hI,hbw,hsz⟩:=hrel
       have HI:=hid hI;clear hI;by_cases hlt:k<pa.length
       ·have hck:wr.cell? ⟨pb,k,none⟩=some (.string ⟨pa[k].toArray⟩):=by rw [hbw.cell (p:=⟨pb,k,none⟩) hpb];exact HTx.out k hlt
        have hat:=slL_at pa k hlt;obtain ⟨Xk,hXk⟩: ∃ X:ByteArray,X=⟨pa[k].toArray⟩:=⟨_,rfl⟩
        have hXs:Xk.size<=1000000:=by rw [hXk,Lib.size_eq];show pa[k].length<=1000000;omega
        rw [<- hXk] at hck;have HS:=hid (show Lib.byteCells (([]:List UInt8)++slL (pa.take k))++Lib.strCells ((⟨#[47]⟩:ByteArray)++Xk)=Lib.byteCells (([]:List UInt8)++slL (pa.take (k+1))) by
         rw [List.take_add_one,List.getElem?_eq_getElem hlt,show (some pa[k]).toList=[pa[k]] from rfl,slL_snoc,hXk,show ((⟨#[47]⟩:ByteArray)++⟨pa[k].toArray⟩)=⟨(47::pa[k]).toArray⟩ from ba_app [47] pa[k],Lib.strCells_toArray,<- Lib.byteCells_append,List.append_assoc])
        have hps:([]:List UInt8).length<=2:=by simp
        have hln:(Lib.byteCells (([]:List UInt8)++slL (pa.take k))).length+((⟨#[47]⟩:ByteArray)++Xk).size<=140737488355328:=by
         rw [Lib.byteCells_length,List.length_append,ByteArray.size_append]
         have:(⟨#[47]⟩:ByteArray).size=1:=rfl;omega
        have HLn:=hid hln;clear hat hln hXk hps
        go_wp2_with fail
        refine (writeString_k (w.heap.size+1) (w.heap.size+1) _ _ wr HI.out HLn.out hsz).mono ?_;rintro e w3 ⟨rfl,h3,hb3⟩
        have HI3:=hid (show Lib.IsBuilderF 131 5 (w.heap.size+1) (w.heap.size+1) (Lib.byteCells (([]:List UInt8)++slL (pa.take (k+1)))) w3 by rw [<- HS.out];exact .inr h3);have HB3:=hid (hbw.trans (hb3.mono (by omega)));have hsz3:=hb3.size;clear h3 hb3
        go_wp2
        go_roundw
        case rel=>exact ⟨k+1,by omega,by go_num,HI3.out,HB3.out,by omega⟩
        case measure=>simp [intOf];omega
       ·have hkl:pa.take k=pa:=List.take_of_length_le (by omega)
        have hI:=HI.out;rw [hkl] at hI;have HI4:=hid hI;clear hI
        go_wp2_with fail
        refine (Tryz.Builder_String_any_k (w.heap.size+1) (w.heap.size+1) _ _ HI4.out hsz).mono ?_;rintro e w4 ⟨rfl,_,hb4,_⟩
        have HB4:=hid (hbw.trans (hb4.mono (by omega)));clear hb4
        go_wp2
        go_ret
        rw [HT.out,HPre.out]
        exact ⟨rfl,HB4.out⟩
     ·skip
      have hW:Below w.heap.size w ((w.alloc (.cells (adrCells ⟨sc,us,ps,ho,false,po,false,pa,qu,fr,hq,hfr⟩ (.slice (some ⟨pb,0,none⟩) pa.length cap)).toArray 24)).alloc (.cells #[.pointer none,.slice none 0 0] 131)):=((Below.refl _ w).alloc (Nat.le_refl _) _).alloc (by simp) _
      have hfb:Lib.IsBuilderF 131 5 (w.heap.size+1) (w.heap.size+1) (Lib.byteCells []) ((w.alloc (.cells (adrCells ⟨sc,us,ps,ho,false,po,false,pa,qu,fr,hq,hfr⟩ (.slice (some ⟨pb,0,none⟩) pa.length cap)).toArray 24)).alloc (.cells #[.pointer none,.slice none 0 0] 131)):=by
       have:=Lib.IsBuilderF.of (Lib.fresh_isBuilder 131 5 (w.alloc (.cells (adrCells ⟨sc,us,ps,ho,false,po,false,pa,qu,fr,hq,hfr⟩ (.slice (some ⟨pb,0,none⟩) pa.length cap)).toArray 24)));rw [World.size_alloc] at this;exact this
      have hA2:AdrIn ((w.alloc (.cells (adrCells ⟨sc,us,ps,ho,false,po,false,pa,qu,fr,hq,hfr⟩ (.slice (some ⟨pb,0,none⟩) pa.length cap)).toArray 24)).alloc (.cells #[.pointer none,.slice none 0 0] 131)) w.heap.size ⟨sc,us,ps,ho,false,po,false,pa,qu,fr,hq,hfr⟩ (.slice (some ⟨pb,0,none⟩) pa.length cap):=
       AdrIn.kept (w:=(w.alloc (.cells (adrCells ⟨sc,us,ps,ho,false,po,false,pa,qu,fr,hq,hfr⟩ (.slice (some ⟨pb,0,none⟩) pa.length cap)).toArray 24))) (heap_alloc_new w _) ((Below.refl _ _).alloc (Nat.le_refl _) _)
      have HW:=hid hW;have HFb:=hid hfb;have HA2:=hid hA2;clear hW hfb hA2;have HI1:=hid (show Lib.IsBuilderF 131 5 (w.heap.size+1) (w.heap.size+1) (Lib.byteCells (([]:List UInt8)++slL (pa.take 0))) _ from HFb.out);have HB1:=HW;unfold adrVal adrCells
      go_enter Tryz.func72,Tryz.ntmps72
      go_wp2
      go_loopw [31] (fun i wr=> ∃ k:Nat,k<=pa.length/\i = .int .i64 k/\Lib.IsBuilderF 131 5 (w.heap.size+1) (w.heap.size+1) (Lib.byteCells (([]:List UInt8)++slL (pa.take k))) wr/\Below w.heap.size w wr/\w.heap.size+1<=wr.heap.size) (fun i _=>pa.length - (intOf i).toNat)
      case atStart=>exact ⟨0,Nat.zero_le _,rfl,HI1.out,HB1.out,by simp⟩
      case round=>
       obtain ⟨k,hk,rfl,hI,hbw,hsz⟩:=hrel
       have HI:=hid hI;clear hI;by_cases hlt:k<pa.length
       ·have hck:wr.cell? ⟨pb,k,none⟩=some (.string ⟨pa[k].toArray⟩):=by rw [hbw.cell (p:=⟨pb,k,none⟩) hpb];exact HTx.out k hlt
        have hat:=slL_at pa k hlt;obtain ⟨Xk,hXk⟩: ∃ X:ByteArray,X=⟨pa[k].toArray⟩:=⟨_,rfl⟩
        have hXs:Xk.size<=1000000:=by rw [hXk,Lib.size_eq];show pa[k].length<=1000000;omega
        rw [<- hXk] at hck;have HS:=hid (show Lib.byteCells (([]:List UInt8)++slL (pa.take k))++Lib.strCells ((⟨#[47]⟩:ByteArray)++Xk)=Lib.byteCells (([]:List UInt8)++slL (pa.take (k+1))) by
         rw [List.take_add_one,List.getElem?_eq_getElem hlt,show (some pa[k]).toList=[pa[k]] from rfl,slL_snoc,hXk,show ((⟨#[47]⟩:ByteArray)++⟨pa[k].toArray⟩)=⟨(47::pa[k]).toArray⟩ from ba_app [47] pa[k],Lib.strCells_toArray,<- Lib.byteCells_append,List.append_assoc])
        have hps:([]:List UInt8).length<=2:=by simp
        have hln:(Lib.byteCells (([]:List UInt8)++slL (pa.take k))).length+((⟨#[47]⟩:ByteArray)++Xk).size<=140737488355328:=by
         rw [Lib.byteCells_length,List.length_append,ByteArray.size_append]
         have:(⟨#[47]⟩:ByteArray).size=1:=rfl;omega
        have HLn:=hid hln;clear hat hln hXk hps
        go_wp2_with fail
        refine (writeString_k (w.heap.size+1) (w.heap.size+1) _ _ wr HI.out HLn.out hsz).mono ?_;rintro e w3 ⟨rfl,h3,hb3⟩
        have HI3:=hid (show Lib.IsBuilderF 131 5 (w.heap.size+1) (w.heap.size+1) (Lib.byteCells (([]:List UInt8)++slL (pa.take (k+1)))) w3 by rw [<- HS.out];exact .inr h3);have HB3:=hid (hbw.trans (hb3.mono (by omega)));have hsz3:=hb3.size;clear h3 hb3
        go_wp2
        go_roundw
        case rel=>exact ⟨k+1,by omega,by go_num,HI3.out,HB3.out,by omega⟩
        case measure=>simp [intOf];omega
       ·have hkl:pa.take k=pa:=List.take_of_length_le (by omega)
        have hI:=HI.out;rw [hkl] at hI;have HI4:=hid hI;clear hI
        go_wp2_with fail
        refine (Tryz.Builder_String_any_k (w.heap.size+1) (w.heap.size+1) _ _ HI4.out hsz).mono ?_;rintro e w4 ⟨rfl,_,hb4,_⟩
        have HB4:=hid (hbw.trans (hb4.mono (by omega)));clear hb4
        go_wp2
        go_ret
        rw [HT.out,HPre.out]
        exact ⟨rfl,HB4.out⟩
     ·skip
      have hW:Below w.heap.size w ((w.alloc (.cells (adrCells ⟨sc,us,ps,ho,false,po,false,pa,qu,fr,hq,hfr⟩ (.slice (some ⟨pb,0,none⟩) pa.length cap)).toArray 24)).alloc (.cells #[.pointer none,.slice none 0 0] 131)):=((Below.refl _ w).alloc (Nat.le_refl _) _).alloc (by simp) _
      have hfb:Lib.IsBuilderF 131 5 (w.heap.size+1) (w.heap.size+1) (Lib.byteCells []) ((w.alloc (.cells (adrCells ⟨sc,us,ps,ho,false,po,false,pa,qu,fr,hq,hfr⟩ (.slice (some ⟨pb,0,none⟩) pa.length cap)).toArray 24)).alloc (.cells #[.pointer none,.slice none 0 0] 131)):=by
       have:=Lib.IsBuilderF.of (Lib.fresh_isBuilder 131 5 (w.alloc (.cells (adrCells ⟨sc,us,ps,ho,false,po,false,pa,qu,fr,hq,hfr⟩ (.slice (some ⟨pb,0,none⟩) pa.length cap)).toArray 24)));rw [World.size_alloc] at this;exact this
      have hA2:AdrIn ((w.alloc (.cells (adrCells ⟨sc,us,ps,ho,false,po,false,pa,qu,fr,hq,hfr⟩ (.slice (some ⟨pb,0,none⟩) pa.length cap)).toArray 24)).alloc (.cells #[.pointer none,.slice none 0 0] 131)) w.heap.size ⟨sc,us,ps,ho,false,po,false,pa,qu,fr,hq,hfr⟩ (.slice (some ⟨pb,0,none⟩) pa.length cap):=
       AdrIn.kept (w:=(w.alloc (.cells (adrCells ⟨sc,us,ps,ho,false,po,false,pa,qu,fr,hq,hfr⟩ (.slice (some ⟨pb,0,none⟩) pa.length cap)).toArray 24))) (heap_alloc_new w _) ((Below.refl _ _).alloc (Nat.le_refl _) _)
      have HW:=hid hW;have HFb:=hid hfb;have HA2:=hid hA2;clear hW hfb hA2;have HI1:=hid (show Lib.IsBuilderF 131 5 (w.heap.size+1) (w.heap.size+1) (Lib.byteCells (([]:List UInt8)++slL (pa.take 0))) _ from HFb.out);have HB1:=HW;unfold adrVal adrCells
      go_enter Tryz.func72,Tryz.ntmps72
      go_wp2
      go_loopw [31] (fun i wr=> ∃ k:Nat,k<=pa.length/\i = .int .i64 k/\Lib.IsBuilderF 131 5 (w.heap.size+1) (w.heap.size+1) (Lib.byteCells (([]:List UInt8)++slL (pa.take k))) wr/\Below w.heap.size w wr/\w.heap.size+1<=wr.heap.size) (fun i _=>pa.length - (intOf i).toNat)
      case atStart=>exact ⟨0,Nat.zero_le _,rfl,HI1.out,HB1.out,by simp⟩
      case round=>
       obtain ⟨k,hk,rfl,hI,hbw,hsz⟩:=hrel
       have HI:=hid hI;clear hI;by_cases hlt:k<pa.length
       ·have hck:wr.cell? ⟨pb,k,none⟩=some (.string ⟨pa[k].toArray⟩):=by rw [hbw.cell (p:=⟨pb,k,none⟩) hpb];exact HTx.out k hlt
        have hat:=slL_at pa k hlt;obtain ⟨Xk,hXk⟩: ∃ X:ByteArray,X=⟨pa[k].toArray⟩:=⟨_,rfl⟩
        have hXs:Xk.size<=1000000:=by rw [hXk,Lib.size_eq];show pa[k].length<=1000000;omega
        rw [<- hXk] at hck;have HS:=hid (show Lib.byteCells (([]:List UInt8)++slL (pa.take k))++Lib.strCells ((⟨#[47]⟩:ByteArray)++Xk)=Lib.byteCells (([]:List UInt8)++slL (pa.take (k+1))) by
         rw [List.take_add_one,List.getElem?_eq_getElem hlt,show (some pa[k]).toList=[pa[k]] from rfl,slL_snoc,hXk,show ((⟨#[47]⟩:ByteArray)++⟨pa[k].toArray⟩)=⟨(47::pa[k]).toArray⟩ from ba_app [47] pa[k],Lib.strCells_toArray,<- Lib.byteCells_append,List.append_assoc])
        have hps:([]:List UInt8).length<=2:=by simp
        have hln:(Lib.byteCells (([]:List UInt8)++slL (pa.take k))).length+((⟨#[47]⟩:ByteArray)++Xk).size<=140737488355328:=by
         rw [Lib.byteCells_length,List.length_append,ByteArray.size_append]
         have:(⟨#[47]⟩:ByteArray).size=1:=rfl;omega
        have HLn:=hid hln;clear hat hln hXk hps
        go_wp2_with fail
        refine (writeString_k (w.heap.size+1) (w.heap.size+1) _ _ wr HI.out HLn.out hsz).mono ?_;rintro e w3 ⟨rfl,h3,hb3⟩
        have HI3:=hid (show Lib.IsBuilderF 131 5 (w.heap.size+1) (w.heap.size+1) (Lib.byteCells (([]:List UInt8)++slL (pa.take (k+1)))) w3 by rw [<- HS.out];exact .inr h3);have HB3:=hid (hbw.trans (hb3.mono (by omega)));have hsz3:=hb3.size;clear h3 hb3
        go_wp2
        go_roundw
        case rel=>exact ⟨k+1,by omega,by go_num,HI3.out,HB3.out,by omega⟩
        case measure=>simp [intOf];omega
       ·have hkl:pa.take k=pa:=List.take_of_length_le (by omega)
        have hI:=HI.out;rw [hkl] at hI;have HI4:=hid hI;clear hI
        go_wp2_with fail
        refine (Tryz.Builder_String_any_k (w.heap.size+1) (w.heap.size+1) _ _ HI4.out hsz).mono ?_;rintro e w4 ⟨rfl,_,hb4,_⟩
        have HB4:=hid (hbw.trans (hb4.mono (by omega)));clear hb4
        go_wp2
        go_ret
        rw [HT.out,HPre.out]
        exact ⟨rfl,HB4.out⟩
def Fine (u:Adr):Prop:=
 (u.port = -1∨(0<=u.port/\u.port<=65535))/\(u.scheme.length<=1000000/\u.user.length<=1000000/\u.pass.length<=1000000/\u.host.length<=1000000)/\(u.path.length<=1000000/\(slL u.path).length<=1000000/\u.path.flatten.length<=1000000)/\u.query.length<=1000000/\u.fragment.length<=1000000
theorem authT_le (u:Adr) (h3:u.user.length<=1000000) (h4:u.pass.length<=1000000) (h5:u.host.length<=1000000):(authT u).length<=4000000:=by
 have h6:=portT_le u.port;rw [Lib.size_eq] at h6;have h7:(portT u.port).length<=100:=h6;unfold authT;split
 ·simp only [List.length_append]
  have e1:(if u.pass=[] then ([]:List UInt8) else 58::u.pass).length<=1000001:=by split<;>simp<;>omega
  have e2:(if u.user=[]/\u.pass=[] then ([]:List UInt8) else [64]).length<=1:=by split<;>simp
  have e3:(if u.port = -1 then ([]:List UInt8) else 58::portT u.port).length<=101:=by split<;>simp<;>omega
  have e4:([47,47]:List UInt8).length=2:=rfl
  omega
 ·simp
theorem pathT_le (u:Adr) (h7:(slL u.path).length<=1000000) (h8:u.path.flatten.length<=1000000):(pathT u).length<=1000002:=by
 unfold pathT;split
 ·omega
 ·rw [List.length_append]
  have e1:(if u.hasHost=false/\1<u.path.length/\u.path.head? = some [] then ([47,46]:List UInt8) else []).length<=2:=by split<;>simp
  have e2:(u.path.flatMap fun p=>47::p).length<=1000000:=h7;omega
def Twelve (W:World) (b:Nat) (y0 y1 y2 y3 y4 y5 y6 y7 y8 y9 y10 y11:Value) (X:World):Prop:=Below W.heap.size W X/\X.cell? ⟨b,0,none⟩=some y0/\X.cell? ⟨b,1,none⟩=some y1/\X.cell? ⟨b,2,none⟩=some y2/\X.cell? ⟨b,3,none⟩=some y3/\X.cell? ⟨b,4,none⟩=some y4/\X.cell? ⟨b,5,none⟩=some y5/\X.cell? ⟨b,6,none⟩=some y6/\X.cell? ⟨b,7,none⟩=some y7/\X.cell? ⟨b,8,none⟩=some y8/\X.cell? ⟨b,9,none⟩=some y9/\X.cell? ⟨b,10,none⟩=some y10/\X.cell? ⟨b,11,none⟩=some y11
theorem Twelve.kept {W X Y:World} {b:Nat} {y0 y1 y2 y3 y4 y5 y6 y7 y8 y9 y10 y11:Value} (h:Twelve W b y0 y1 y2 y3 y4 y5 y6 y7 y8 y9 y10 y11 X) (hb:Below X.heap.size X Y):Twelve W b y0 y1 y2 y3 y4 y5 y6 y7 y8 y9 y10 y11 Y:=by
 obtain ⟨h0,c0,c1,c2,c3,c4,c5,c6,c7,c8,c9,c10,c11⟩:=h
 have key: ∀ (j:Nat) (y:Value),X.cell? ⟨b,j,none⟩=some y->Y.cell? ⟨b,j,none⟩=some y:=fun j y h=>(hb.cell (World.block_lt_of_cell? X _ h)).trans h
 exact ⟨below2 h0 hb,key _ _ c0,key _ _ c1,key _ _ c2,key _ _ c3,key _ _ c4,key _ _ c5,key _ _ c6,key _ _ c7,key _ _ c8,key _ _ c9,key _ _ c10,key _ _ c11⟩
theorem bare_any (u:Adr) (pv:Value) (w:World) (hg:Gd w) (hp:PathAt w pv u.path) (hf:Fine u):
 Calls Tryz.prog 56 #[adrVal u pv] w fun e w'=>e = .returned (.string ⟨(bareV u).toArray⟩)/\Below w.heap.size w w':=by
 obtain ⟨h1,⟨h2,h3,h4,h5⟩,⟨h6,h7,h8⟩,h9,h10⟩:=hf
 have hsl:IsSl pv:=by
  rcases hp with ⟨rfl,_⟩ | ⟨b,cap,rfl,_⟩
  ·exact ⟨_,_,_,rfl⟩
  ·exact ⟨_,_,_,rfl⟩
 obtain ⟨AT,hAT⟩: ∃ X:ByteArray,X=⟨(authT u).toArray⟩:=⟨_,rfl⟩
 obtain ⟨PT,hPT⟩: ∃ X:ByteArray,X=⟨(pathT u).toArray⟩:=⟨_,rfl⟩
 have HA:Hid (∀ w:World,Gd w->Calls Tryz.prog 71 #[adrVal u pv] w fun e w'=>e = .returned (.string AT)/\Below w.heap.size w w'):=fun w hg=>by rw [hAT];exact authorityText_any u pv w hg h1 ⟨h3,h4,h5⟩ hsl
 have HP:Hid (∀ w:World,PathAt w pv u.path->Calls Tryz.prog 72 #[adrVal u pv] w fun e w'=>e = .returned (.string PT)/\Below w.heap.size w w'):=fun w hp=>by rw [hPT];exact pathText_any u pv w hp h6 h7 h8
 have hATs:AT.size<=4000000:=by rw [hAT,Lib.size_eq];exact authT_le u h3 h4 h5
 have hPTs:PT.size<=1000002:=by rw [hPT,Lib.size_eq];exact pathT_le u h7 h8
 have HAT:=hid (show AT.data.toList=authT u by rw [hAT]);have HPT:=hid (show PT.data.toList=pathT u by rw [hPT]);clear hAT hPT;have HG:=hid hg;have HPa:=hid hp;clear hg hp;obtain ⟨a0,n0,c0,rfl⟩:=hsl
 obtain ⟨SC,hSC⟩: ∃ X:ByteArray,X=⟨u.scheme.toArray⟩:=⟨_,rfl⟩
 obtain ⟨QU,hQU⟩: ∃ X:ByteArray,X=⟨u.query.toArray⟩:=⟨_,rfl⟩
 obtain ⟨hq,hhq⟩: ∃ b,b=u.hasQuery:=⟨_,rfl⟩
 have hSs:SC.size<=1000000:=by rw [hSC,Lib.size_eq];exact h2
 have hQs:QU.size<=1000000:=by rw [hQU,Lib.size_eq];exact h9
 obtain ⟨x1,x2,x3,x4,x5,x6,x9,x11,hx⟩: ∃ x1 x2 x3 x4 x5 x6 x9 x11,adrCells u (.slice a0 n0 c0)=[.string SC,x1,x2,x3,x4,x5,x6,.slice a0 n0 c0,.string QU,x9,.bool hq,x11]:=⟨_,_,_,_,_,_,_,_,by rw [hSC,hQU,hhq];rfl⟩
 have HV:=hid (show bareV u=SC.data.toList++58::(AT.data.toList++(PT.data.toList++(if hq then 63::QU.data.toList else []))) by rw [HAT.out,HPT.out,hSC,hQU,hhq];rfl);have hva:adrVal u (.slice a0 n0 c0) = .agg #[.string SC,x1,x2,x3,x4,x5,x6,.slice a0 n0 c0,.string QU,x9,.bool hq,x11]:=by unfold adrVal;rw [hx]
 rw [hva] at HA HP ⊢;clear hx hva hSC hQU hhq h1 h2 h3 h4 h5 h6 h7 h8 h9 h10 HAT HPT;have hA:(w.alloc (.cells #[.string SC,x1,x2,x3,x4,x5,x6,.slice a0 n0 c0,.string QU,x9,.bool hq,x11] 24)).heap[w.heap.size]? = some (.cells #[.string SC,x1,x2,x3,x4,x5,x6,.slice a0 n0 c0,.string QU,x9,.bool hq,x11] 24 (0,0)):=heap_alloc_new w _;have hb:Below w.heap.size w (w.alloc (.cells #[.string SC,x1,x2,x3,x4,x5,x6,.slice a0 n0 c0,.string QU,x9,.bool hq,x11] 24)):=(Below.refl _ w).alloc (Nat.le_refl _) _
 obtain ⟨W,hW⟩: ∃ W,W=w.alloc (.cells #[.string SC,x1,x2,x3,x4,x5,x6,.slice a0 n0 c0,.string QU,x9,.bool hq,x11] 24):=⟨_,rfl⟩
 rw [<- hW] at hA hb;have HW:=hid hW.symm;have h12:Twelve W w.heap.size (.string SC) (x1) (x2) (x3) (x4) (x5) (x6) (.slice a0 n0 c0) (.string QU) (x9) (.bool hq) (x11) W:=⟨Below.refl _ _,Lib.cell_of_heap hA 0,Lib.cell_of_heap hA 1,Lib.cell_of_heap hA 2,Lib.cell_of_heap hA 3,Lib.cell_of_heap hA 4,Lib.cell_of_heap hA 5,Lib.cell_of_heap hA 6,Lib.cell_of_heap hA 7,Lib.cell_of_heap hA 8,Lib.cell_of_heap hA 9,Lib.cell_of_heap hA 10,Lib.cell_of_heap hA 11⟩;have HB:=hid hb;have HGW:=hid (HG.out.kept hb);have HPW:=hid (HPa.out.kept hb)
 have HK:=hid (fun (X Y:World) (h:Twelve W w.heap.size (.string SC) (x1) (x2) (x3) (x4) (x5) (x6) (.slice a0 n0 c0) (.string QU) (x9) (.bool hq) (x11) X) (hb:Below X.heap.size X Y)=>h.kept hb);clear hW hb hA
 go_enter Tryz.func56,Tryz.ntmps56
 go_wp2
 rw [HW.out];unfold Twelve at h12 HK
 go_region_held (fun wx=>Below W.heap.size W wx/\wx.cell? ⟨w.heap.size,0,none⟩=some (.string SC)/\wx.cell? ⟨w.heap.size,1,none⟩=some (x1)/\wx.cell? ⟨w.heap.size,2,none⟩=some (x2)/\wx.cell? ⟨w.heap.size,3,none⟩=some (x3)/\wx.cell? ⟨w.heap.size,4,none⟩=some (x4)/\wx.cell? ⟨w.heap.size,5,none⟩=some (x5)/\wx.cell? ⟨w.heap.size,6,none⟩=some (x6)/\wx.cell? ⟨w.heap.size,7,none⟩=some (.slice a0 n0 c0)/\wx.cell? ⟨w.heap.size,8,none⟩=some (.string QU)/\wx.cell? ⟨w.heap.size,9,none⟩=some (x9)/\wx.cell? ⟨w.heap.size,10,none⟩=some (.bool hq)/\wx.cell? ⟨w.heap.size,11,none⟩=some (x11))
  (first | exact HK.out _ _ h12 (Below.refl _ W).drew | (go_split_ands;exact ⟨by assumption,by assumption,by assumption,by assumption,by assumption,by assumption,by assumption,by assumption,by assumption,by assumption,by assumption,by assumption,by assumption⟩) | exact HK.out _ _ (by assumption) (by assumption) | exact HK.out _ _ (by go_split_ands;exact ⟨by assumption,by assumption,by assumption,by assumption,by assumption,by assumption,by assumption,by assumption,by assumption,by assumption,by assumption,by assumption,by assumption⟩) (by assumption))
  (first
    | (go_at_call 71;refine (HA.out _ (HGW.out.kept (by (try dsimp only at *);go_split_ands;assumption))).mono ?_;rintro e wa ⟨rfl,hba⟩)
    | (go_at_call 72;refine (HP.out _ (HPW.out.kept (by (try dsimp only at *);go_split_ands;assumption))).mono ?_;rintro e wb ⟨rfl,hbb⟩))
 all_goals
  (try dsimp only at *)
  go_split_ands
  cases hq
  ·go_wp2
   go_ret
   refine ⟨ret_str' (ba_ext ?_),below2 HB.out (by assumption)⟩;rw [HV.out];simp
  ·go_wp2
   go_ret
   refine ⟨ret_str' (ba_ext ?_),below2 HB.out (by assumption)⟩;rw [HV.out];simp
structure Org where
 scheme:List UInt8
 host:List UInt8
 port:Int
 opq:Bool
deriving DecidableEq
def Org.none:Org:=⟨[],[],0,true⟩
def sBlob:List UInt8:=[98,108,111,98]
def innV (u:Adr):Adr:=if u.scheme=sBlob/\u.opq=true then adrOf (readV u.path.flatten none) else Adr.zero
def webV (s:List UInt8):Bool:=s==sHttp||s==sHttps
def orgA (u:Adr):Adr:=if webV (innV u).scheme then innV u else u
def hasP (u:Adr):Int:=if u.port = -1 then ownV u.scheme else u.port
def orgV (u:Adr):Org:=if specV (orgA u).scheme then ⟨(orgA u).scheme,(orgA u).host,hasP (orgA u),false⟩ else Org.none
def sameO (a b:Org):Bool:= !a.opq&&decide (a=b)
def schM (want has:List UInt8):Bool:=want==has||(if want=sHttp then has==sHttps||(has==sWs||has==sWss) else if want=sWs then has==sWss else false)
def fetV (s:List UInt8):Bool:=s==sHttp||(s==sHttps||(s==sWs||s==sWss))
def selfM (u p:Adr):Bool:=sameO (orgV u) (orgV p)||(u.host==p.host&&(schM p.scheme u.scheme&&(u.port == -1&&p.port == -1)))
def hostM (name host:List UInt8):Bool:=
 if host=[]∨name=[42] then decide (host≠[])
 else if Lib.hasPrefix name [42,46]&&decide (name≠[42,46]) then Lib.hasSuffix host (name.drop 1)&&decide ((name.drop 1).length<host.length)
 else name==host
def saferM (u:Adr):Bool:=hasP u==443&&(u.scheme==sHttps||u.scheme==sWss)
def portM (t:List UInt8) (u:Adr):Bool:=
 if t=[] then u.port == -1 else if t=[58,42] then true
 else intOk (t.drop 1)&&(intV (t.drop 1)==hasP u||(intV (t.drop 1)==80&&saferM u))
def begN (a b:List (List UInt8)):Bool:=decide (a.length<b.length)&&a==b.take a.length
def pathM (hops:Int) (u:Adr) (s:List UInt8):Bool:=
 if hops≠0∨s=[]∨s=[47] then true
 else if u.opq then false
 else if Lib.hasSuffix s [47] then begN ((cutL 47 (s.drop 1)).map unpct).dropLast (u.path.map unpct)
 else (cutL 47 (s.drop 1)).map unpct==u.path.map unpct
def portR (u:Adr) (q:List UInt8->Bool) (s:List UInt8):Bool:=portM (aheadV [47] s).1 u&&q (aheadV [47] s).2
def hostR (u:Adr) (q:List UInt8->Bool) (s:List UInt8):Bool:=hostM (low (aheadV [58,47] s).1) u.host&&q (aheadV [58,47] s).2
def schR (u p:Adr) (q:List UInt8->Bool) (s:List UInt8):Bool:=
 match schemeV s with
 | some m=>if m.2=[] then schM m.1 u.scheme else if Lib.hasPrefix m.2 [47,47] then schM m.1 u.scheme&&q (m.2.drop 2) else schM p.scheme u.scheme&&q s
 | none=>schM p.scheme u.scheme&&q s
def tSelf:List UInt8:=[39,115,101,108,102,39]
def wordR (u p:Adr) (q:List UInt8->Bool) (s:List UInt8):Bool:=
 if s=[42] then fetV u.scheme||u.scheme==p.scheme else if low s=tSelf then selfM u p else !Lib.hasPrefix s [39]&&q s
def oneV (u p:Adr) (hops:Int) (s:List UInt8):Bool:=wordR u p (schR u p (hostR u (portR u (pathM hops u)))) s
end Go.Proofs.YtijpkalkfbejeaaGreatDoor
