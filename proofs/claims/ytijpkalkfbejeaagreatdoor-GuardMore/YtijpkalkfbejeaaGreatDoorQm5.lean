/- Walks and plain facts. -/
import Derived.Test.YtijpkalkfbejeaaGreatDoorQm4
set_option linter.unusedSimpArgs false
set_option linter.unusedVariables false
set_option maxHeartbeats 16000000
set_option maxRecDepth 100000

namespace Go.Proofs.YtijpkalkfbejeaaGreatDoor
open Go.RowKit
theorem infoRu:(Tryz.prog.info? 55).map (fun i=>(i.zero,i.size,i.bytes))=some (some (.agg #[.string ByteArray.empty,.slice none 0 0]),2,40):=by kernel_rfl
theorem own_form10 {w:World} {B:Nat} {e:TypeId} {k:Nat} {v:Value} {n:Nat} {xs:List Value} (h:w.ownsRow B e k v n xs): ∃ a cap,v = .slice a n cap/\n<=cap/\cap<=maxLen:=by
 rcases h.2 with ⟨hv,hn⟩ | ⟨g,cap,cur,rfl,_,_,hnc,hcm,_⟩
 ·subst hn;exact ⟨none,0,hv,Nat.le_refl _,by decide⟩
 ·exact ⟨_,cap,rfl,hnc,hcm⟩
def PI (w wr:World) (rp:Bool) (v:Value) (Q:List (ByteArray×Value)) (L:List Ru):Prop:=
 wr.heap[w.heap.size]? = some (.cells #[.slice none 0 0,.bool false] 39 (0,0))/\wr.heap[w.heap.size+1]? = some (.cells #[v,.bool rp] 39 (0,0)) /\
 wr.ownsRow (w.heap.size+2) 55 2 v L.length (cellsR Q)/\RdO wr (w.heap.size+2) Q L/\Below w.heap.size w wr
theorem PI.kept {w wr wr':World} {rp:Bool} {v:Value} {Q:List (ByteArray×Value)} {L:List Ru} (h:PI w wr rp v Q L) (hb:Below wr.heap.size wr wr'):PI w wr' rp v Q L:=by
 obtain ⟨h1,h2,h3,h4,h5⟩:=h
 exact ⟨row_kept h1 hb,row_kept h2 hb,own_kept h3 hb,h4.kept hb,below2 h5 hb⟩
theorem PI.lt {w wr:World} {rp:Bool} {v:Value} {Q:List (ByteArray×Value)} {L:List Ru} (h:PI w wr rp v Q L):w.heap.size+2<=wr.heap.size:=(Array.getElem?_eq_some_iff.1 h.2.1).1
theorem PI.cells {w wr:World} {rp:Bool} {v:Value} {Q:List (ByteArray×Value)} {L:List Ru} (h:PI w wr rp v Q L):wr.cell? ⟨w.heap.size+1,0,none⟩=some v/\wr.cell? ⟨w.heap.size+1,1,none⟩=some (.bool rp)/\wr.frozen? ⟨w.heap.size+1,0,none⟩=false:=
 ⟨by rw [Lib.cell_of_heap h.2.1];rfl,by rw [Lib.cell_of_heap h.2.1];rfl,Lib.frozen_of_heap h.2.1 0⟩
theorem PI.snoc {w wr w2 w4:World} {rp:Bool} {v v' V:Value} {Q:List (ByteArray×Value)} {L:List Ru} {r:Ru} {B:Nat} (h:PI w wr rp v Q L) (hb:Below wr.heap.size wr w2) (hV:SlV w2 B 9 V (cellsT r.vals)) (hB:wr.heap.size<=B)
 (hown:w4.ownsRow (w.heap.size+2) 55 2 v' (L.length+1) (cellsR Q++[.string ⟨r.name.toArray⟩,V])) (hgrow:w2.grownBy w4 v.ownBlock):
 PI w (w4.setCell ⟨w.heap.size+1,0,none⟩ v') rp v' (Q++[(⟨r.name.toArray⟩,V)]) (L++[r]):=by
 have hlt:=h.lt;have hold:=h.2.2.2.1.old;obtain ⟨h1,h2,h3,h4,h5⟩:=h.kept hb
 have hs:=hb.size;have hvk: ∀ k,v.ownBlock=some k -> ∃ cur,w2.heap[k]? = some (Obj.cells cur 55 (0,0)):=fun k hk=>ownsRow_kind h3 k hk
 have hkeep: ∀ k cur T fz,w2.heap[k]? = some (Obj.cells cur T fz)->T≠55->w4.heap[k]? = some (Obj.cells cur T fz):=fun k cur T fz hk hT=>by
  refine (hgrow.block k (Array.getElem?_eq_some_iff.1 hk).1 (fun e=> ?_)).trans hk;obtain ⟨c2,hc2⟩:=hvk k e.symm
  rw [hk] at hc2;injection hc2 with hc2
  injection hc2 with _ hc2 _
  exact hT hc2
 have g1:=hkeep _ _ _ _ h1 (by decide)
 have g2:=hkeep _ _ _ _ h2 (by decide)
 have hv': ∀ k,v'.ownBlock=some k->k≠w.heap.size+1:=fun k hk=>by
  have:=(hown.lt k hk).1;omega
 have hstr: ∀ k:Nat,(∃ cur fz,w2.heap[k]? = some (Obj.cells cur 9 fz))->(w4.setCell ⟨w.heap.size+1,0,none⟩ v').heap[k]? = w2.heap[k]? :=by
  rintro k ⟨cur,fz,hk⟩
  have hk4:=hkeep k cur _ fz hk (by decide)
  rw [heap_setCell_other w4 ⟨w.heap.size+1,0,none⟩ k v' (kind_nf hk4 g2 (by decide)),hk4,hk]
 refine ⟨?_,?_,?_,?_,?_⟩
 ·rw [heap_setCell_other w4 ⟨w.heap.size+1,0,none⟩ w.heap.size v' (by simp)];exact g1
 ·exact heap_setCell_same w4 (w.heap.size+1) 0 _ _ v' g2
 ·rw [cellsR_app,cellsR_one,List.length_append]
  exact ownsRow_same hown fun k hk=>heap_setCell_other w4 ⟨w.heap.size+1,0,none⟩ k v' (hv' k hk)
 ·have hV2:SlV w2 (w.heap.size+2) 9 V (cellsT r.vals):=hV.low0 (by omega)
  refine (RdO.keptB (w:=w2) ?_ hstr);refine h4.snoc hV2 fun q hq=> ?_
  by_cases hn:q.2.ownBlock=none
  ·exact .inl hn
  ·right
   intro e
   cases hk:q.2.ownBlock with
   | none=>exact hn hk
   | some k=>
     have a1:=(hold q hq k hk).2;have a2:=(hV.lt k (by rw [<- e,hk])).1;omega
 ·have hle:w.heap.size<=w2.heap.size:=h5.size
  exact (h5.grown hgrow hle (fun k hk=>by have:=(h3.lt k hk).1;omega)).setCell (p:=⟨w.heap.size+1,0,none⟩) (by simp) _
def pst (mo:Bool) (l:List UInt8):List (List UInt8):=if mo then pcV 59 l else []
theorem pol_step (l:List UInt8) (L:List Ru) (h:L.length<32):polF (pst true l) L=polF (pst (part9 59 l).2.2 (part9 59 l).2.1) (addR L (part9 59 l).1):=by
 show polF (pcV 59 l) L=_;rw [pcV_part];unfold pst
 cases (part9 59 l).2.2
 ·show (if 32<=L.length then L else polF [] _)=polF [] _
  rw [if_neg (by omega)]
 ·show (if 32<=L.length then L else polF (pcV 59 _) _)=polF (pcV 59 _) _
  rw [if_neg (by omega)]
theorem part_rest10 (c:UInt8) (l:List UInt8):(part9 c l).2.1.length+(if (part9 c l).2.2 then 1 else 0)<=l.length:=by
 rcases first_split9 c l with h1 | ⟨a,r,h1,rfl⟩
 ·rw [part_none9 c l h1];simp
 ·rw [part_some9 c a r h1];simp<;>omega
def PJ (l:List UInt8) (mo:Bool) (S:ByteArray) (L:List Ru):Prop:=polF (pst mo S.data.toList) L=polV l/\L.length<=32/\S.size<=l.length
def ParsePost10 (l:List UInt8) (rp:Bool) (w:World) (e:Ending) (w':World):Prop:=
 ∃ v Q,e = .returned (.agg #[v,.bool rp])/\w'.ownsRow w.heap.size 55 2 v (polV l).length (cellsR Q)/\RdO w' w.heap.size Q (polV l)/\Below w.heap.size w w'
theorem RdO.low {w:World} {B B':Nat} {Q:List (ByteArray×Value)} {L:List Ru} (h:RdO w B Q L) (hb:B'<=B):RdO w B' Q L:=
 ⟨h.1,fun j a b=>⟨(h.2.1 j a b).1,(h.2.1 j a b).2.low0 hb⟩,h.2.2⟩
theorem own_low10 {w:World} {B B':Nat} {e:TypeId} {k:Nat} {v:Value} {n:Nat} {xs:List Value} (h:w.ownsRow B e k v n xs) (hb:B'<=B):w.ownsRow B' e k v n xs:=by
 refine ⟨h.1,?_⟩
 rcases h.2 with h | ⟨g,cap,cur,hv,h1,h2⟩
 ·exact .inl h
 ·exact .inr ⟨g,cap,cur,hv,Nat.le_trans hb h1,h2⟩
theorem results_p1 {fn:Func} {p:Tmp} (h:fn.results = #[.cell p 39]) (tmps:Array Value) (w:World) (b:Nat) (a:Option Addr) (n c:Nat) (rp:Bool) (hp:tmps.getD p undef = .pointer (some ⟨b,0,none⟩)) (hc:w.rangeAt b 0 [.slice a n c,.bool rp]):(results fn tmps).run Tryz.prog w = .ok (.agg #[.slice a n c,.bool rp]) w:=by
 rw [Array.getD_eq_getD_getElem?] at hp;simp only [results,h]
 simp [Sem.run_bind,Result.andThen,hp,asAddr,run_loadVar_mid w b 0 39 [.slice a n c,.bool rp] _ hc Tryz.underlying39 rfl (by kernel_rfl)]
theorem range_p {w:World} {b:Nat} {x y:Value} (h:w.heap[b]? = some (.cells #[x,y] 39 (0,0))):w.rangeAt b 0 [x,y]:=fun j u hu=>by
 rw [Nat.zero_add,Lib.cell_of_heap h]
 match j,hu with
 | 0,hu=>simpa using hu
 | 1,hu=>simpa using hu
 | j+2,hu=>simp at hu
theorem PI.out {w wr:World} {rp:Bool} {a:Option Addr} {n c:Nat} {Q:List (ByteArray×Value)} {L:List Ru} (h:PI w wr rp (.slice a n c) Q L) {l:List UInt8} (hl:L=polV l):
 ((wr.setCell ⟨w.heap.size,0,none⟩ (.slice a n c)).setCell ⟨w.heap.size,1,none⟩ (.bool rp)).rangeAt w.heap.size 0 [.slice a n c,.bool rp] /\
 ParsePost10 l rp w (.returned (.agg #[.slice a n c,.bool rp])) ((wr.setCell ⟨w.heap.size,0,none⟩ (.slice a n c)).setCell ⟨w.heap.size,1,none⟩ (.bool rp)):=by
 obtain ⟨h1,h2,h3,h4,h5⟩:=h
 have k1:=Lib.heap_setCell_same h1 (i:=0) (.slice a n c);have k2:=Lib.heap_setCell_same k1 (i:=1) (.bool rp);refine ⟨range_p k2,.slice a n c,Q,rfl,?_,?_,?_⟩
 ·rw [<- hl]
  refine own_low10 (ownsRow_same h3 fun k hk=> ?_) (by omega:w.heap.size<=w.heap.size+2)
  have hne:k≠w.heap.size:=by have:=(h3.lt k hk).1;omega
  rw [heap_setCell_other _ ⟨w.heap.size,1,none⟩ k _ hne,heap_setCell_other _ ⟨w.heap.size,0,none⟩ k _ hne]
 ·rw [<- hl]
  refine (h4.keptB ?_).low (by omega)
  rintro k ⟨cur,fz,hk⟩
  have hne:k≠w.heap.size:=kind_nf hk h1 (by decide)
  rw [heap_setCell_other _ ⟨w.heap.size,1,none⟩ k _ hne,heap_setCell_other _ ⟨w.heap.size,0,none⟩ k _ hne]
 ·exact below_set2 h5 (Nat.le_refl _)
def szOf (v:Value):Nat:=match v with | .string s=>s.size | _=>0
def boOf (v:Value):Nat:=match v with | .bool true=>1 | _=>0
theorem ruleV_nil {l:List UInt8} (h:words9 l=[]):ruleV l=none:=by unfold ruleV;rw [h]
theorem ruleV_cons {l x:List UInt8} {t:List (List UInt8)} (h:words9 l=x::t):ruleV l=some ⟨low x,t⟩:=by unfold ruleV;rw [h]
theorem parse10 (s:ByteArray) (rp:Bool) (w:World) (hs:s.size<=1000000000):
 Calls Tryz.prog 10 #[.string s,.bool rp] w (ParsePost10 s.data.toList rp w):=by
 obtain ⟨i0,hi,hz0,hz1,hz2⟩:=info_parts infoRu
 obtain ⟨l,hl⟩: ∃ l,l=s.data.toList:=⟨_,rfl⟩
 have HL:=hid hl;have HSZ:=hid (show l.length<=1000000000 by rw [hl,<- Lib.size_eq];exact hs);have HJ0:=hid (show PJ l true s [] from ⟨by rw [hl];rfl,by simp,by rw [hl,Lib.size_eq];exact Nat.le_refl _⟩);have HI0:=hid (show PI w ((w.alloc (.cells #[.slice none 0 0,.bool false] 39)).alloc (.cells #[.slice none 0 0,.bool rp] 39)) rp (.slice none 0 0) [] [] from
  ⟨(Lib.alloc_old _ _ _ (by simp)).trans (heap_alloc_new w _),by have:=heap_alloc_new (w.alloc (.cells #[.slice none 0 0,.bool false] 39)) (.cells #[.slice none 0 0,.bool rp] 39);simpa using this,World.ownsRow_nil _ _ _ _,RdO.nil _ _,((Below.refl _ w).alloc (Nat.le_refl _) _).alloc (by simp) _⟩)
 rw [<- hl];clear hl hs
 go_enter Tryz.func10,Tryz.ntmps10
 go_wp2_with fail
 go_loopw [0,6] (fun v0 v6 wr=> ∃ (S:ByteArray) (mo:Bool) (a:Option Addr) (n c:Nat) (Q:List (ByteArray×Value)) (L:List Ru),v0 = .string S/\v6 = .bool mo/\n<=32/\Hid (n=L.length/\PJ l mo S L/\PI w wr rp (.slice a n c) Q L)) (fun v0 v6 _=>szOf v0+boOf v6)
 case atStart=>exact ⟨s,true,none,0,0,[],[],rfl,rfl,by decide,rfl,HJ0.out,HI0.out⟩
 case round=>
  clear HJ0 HI0;obtain ⟨S,mo,a,n,c,Q,L,rfl,rfl,hn32,HR⟩:=hrel
  obtain ⟨c0,c1,z0⟩:=HR.out.2.2.cells
  have c4a:wr.cell? ⟨w.heap.size,0,none⟩=some (.slice none 0 0):=by rw [Lib.cell_of_heap HR.out.2.2.1];rfl
  have c4b:wr.cell? ⟨w.heap.size,1,none⟩=some (.bool false):=by rw [Lib.cell_of_heap HR.out.2.2.1];rfl
  have z4a:wr.frozen? ⟨w.heap.size,0,none⟩=false:=Lib.frozen_of_heap HR.out.2.2.1 0
  have z4b:wr.frozen? ⟨w.heap.size,1,none⟩=false:=Lib.frozen_of_heap HR.out.2.2.1 1
  cases mo with
  | false=>
    have HO:=hid (HR.out.2.2.out (l:=l) (by have:=HR.out.2.1.1;exact this))
    go_wp2_with fail
    exact bodyPost_ret (results_p1 rfl _ _ w.heap.size a n c rp rfl HO.out.1) rfl HO.out.2
  | true=>
    by_cases hful:n=32
    ·have HO:=hid (HR.out.2.2.out (l:=l) (by
      have h1:=HR.out.2.1.1;rw [polF_full _ _ (by have:=HR.out.1;omega)] at h1;exact h1))
     have hng: ¬ ((n:Int)<32):=by omega
     clear hful
     go_wp2_with fail
     exact bodyPost_ret (results_p1 rfl _ _ w.heap.size a n c rp rfl HO.out.1) rfl HO.out.2
    ·have hin:(n:Int)<32:=by omega
     have hnl:n<32:=by omega
     obtain ⟨P,hP⟩: ∃ P:ByteArray,P=⟨(part9 59 S.data.toList).1.toArray⟩:=⟨_,rfl⟩
     obtain ⟨R,hR⟩: ∃ P:ByteArray,P=⟨(part9 59 S.data.toList).2.1.toArray⟩:=⟨_,rfl⟩
     obtain ⟨m2,hm2⟩: ∃ m,m=(part9 59 S.data.toList).2.2:=⟨_,rfl⟩
     have HC:=hid (cut10 S 59 wr (by have:=HR.out.2.1.2.2;have:=HSZ.out;omega));rw [<- hP,<- hR,<- hm2] at HC;have hPl:P.data.toList=(part9 59 S.data.toList).1:=by rw [hP]
     have hPs:P.size<=1000000000:=by
      rw [Lib.size_eq,hPl]
      have h1:=(part_le9 59 S.data.toList).1;rw [<- Lib.size_eq] at h1;have:=HR.out.2.1.2.2;have:=HSZ.out;omega
     have HRD:=hid (fun X=>read10 P X hPs);unfold RdPost10 at HRD;have HJ2:=hid (show PJ l m2 R (addR L P.data.toList) from by
      have h:=HR.out.2.1;refine ⟨?_,?_,?_⟩
      ·rw [<- h.1,pol_step _ _ (by have:=HR.out.1;omega),hPl,hm2,hR]
      ·have:=addR_len L P.data.toList;have:=HR.out.1;omega
      ·rw [Lib.size_eq,hR]
       have h1:=(part_le9 59 S.data.toList).2;rw [<- Lib.size_eq] at h1;show (part9 59 S.data.toList).2.1.length<=_;have:=h.2.2;omega)
     have HMS:=hid (show szOf (.string R)+boOf (.bool m2)<szOf (.string S)+boOf (.bool true) from by
      have h1:=part_rest10 59 S.data.toList;rw [<- Lib.size_eq,<- hm2] at h1;have h2:R.size=(part9 59 S.data.toList).2.1.length:=by rw [Lib.size_eq,hR]
      show R.size+boOf (.bool m2)<S.size+1;rw [h2]
      cases m2
      ·simp [boOf] at h1 ⊢;omega
      ·simp [boOf] at h1 ⊢;omega)
     clear hP hR hm2 hPl hPs hful c4a c4b z4a z4b
     go_wp2_with fail
     refine HC.out.mono ?_;rintro e w1 ⟨rfl,hb1⟩
     have HI1:=hid (HR.out.2.2.kept hb1);clear hb1 c0 c1 z0
     go_wp2_with fail
     refine (HRD.out w1).mono ?_
     cases hw:words9 P.data.toList with
     | nil=>
       rintro e w2 ⟨rfl,hb2⟩
       have HI2:=hid ((HI1.out.kept hb2).kept ((Below.refl _ w2).alloc (Nat.le_refl _) (.cells #[.string ⟨#[]⟩,.slice none 0 0] 55)));have HAD:=hid (show addR L P.data.toList=L by unfold addR;rw [ruleV_nil hw]);clear hb2 hw HRD
       go_wp2_with fail
       go_roundw
       case rel=>
        have h3:=HJ2.out;rw [HAD.out] at h3
        first
         | exact ⟨R,m2,a,n,c,Q,L,rfl,rfl,hn32,HR.out.1,h3,HI2.out⟩
         | ((repeat apply Exists.intro);refine ⟨?_,rfl⟩;exact ⟨R,m2,a,n,c,Q,L,rfl,rfl,hn32,HR.out.1,h3,HI2.out⟩)
         | ((repeat apply Exists.intro);exact ⟨⟨R,m2,a,n,c,Q,L,rfl,rfl,hn32,HR.out.1,h3,HI2.out⟩,rfl⟩)
       case measure=>exact HMS.out
     | cons x t=>
       rintro e w2 ⟨va,vn,vc,rfl,hsl,hb2⟩
       obtain ⟨N,hN⟩: ∃ N:ByteArray,N=⟨(low x).toArray⟩:=⟨_,rfl⟩
       have HNL:=hid (show N.data.toList=low x by rw [hN]);have HRV:=hid (ruleV_cons hw);rw [<- hN];have hb3:=(Below.refl _ w2).alloc (Nat.le_refl _) (.cells #[.string N,.slice va vn vc] 55);have HI3:=hid ((HI1.out.kept hb2).kept hb3);have HSL:=hid (show SlV (w2.alloc (.cells #[.string N,.slice va vn vc] 55)) w1.heap.size 9 (.slice va vn vc) (cellsT t) from hsl.same fun k hk=>hb3.block k (hsl.lt k hk).2);have HB13:=hid (show Below w1.heap.size w1 (w2.alloc (.cells #[.string N,.slice va vn vc] 55)) from below2 hb2 hb3);obtain ⟨d0,d1,_⟩:=HI3.out.cells
       have HTW:=hid (show TwR (w2.alloc (.cells #[.string N,.slice va vn vc] 55)) w2.heap.size N (.slice va vn vc) from heap_alloc_new w2 _);have HPL:=hid (fun X (hX:Below (w2.alloc (.cells #[.string N,.slice va vn vc] 55)).heap.size (w2.alloc (.cells #[.string N,.slice va vn vc] 55)) X)=>place10 (.slice a n c) rp L N X ((own_po (by have h:=HI3.out.2.2.1;exact h) HI3.out.2.2.2.1).kept hX) (by have:=HR.out.1;omega));obtain ⟨ix,hix⟩: ∃ ix,ix=idxR L N.data.toList:=⟨_,rfl⟩
       rw [<- hix] at HPL;have HIX:=hid (show decide (ix<0) = !hasR L (low x) by rw [hix,HNL.out,<- HNL.out];rw [HNL.out];exact idx_has L (low x));clear hb2 hb3 hsl hw HRD hN hix
       go_wp2_with fail
       refine (HPL.out _ (Below.refl _ _)).mono ?_;rintro e w4 ⟨rfl,hb4⟩
       have HI4:=hid (HI3.out.kept hb4);have HB14:=hid (below2 HB13.out hb4);have HSL4:=hid (HSL.out.same fun k hk=>hb4.block k (HSL.out.lt k hk).2);have HTW4:=hid (row_kept HTW.out hb4);clear HPL HI3 HB13 HSL d0 d1;by_cases hhas:hasR L (low x)=true
       ·have hlt0: ¬ (ix<0):=by have:=HIX.out;rw [hhas] at this;simpa using this
        have HAD:=hid (show addR L P.data.toList=L by unfold addR;rw [HRV.out];simp [hhas]);clear hhas hb4
        go_wp2_with fail
        go_roundw
        case rel=>
         have h3:=HJ2.out;rw [HAD.out] at h3
         first
          | exact ⟨R,m2,a,n,c,Q,L,rfl,rfl,hn32,HR.out.1,h3,HI4.out⟩
          | ((repeat apply Exists.intro);refine ⟨?_,rfl⟩;exact ⟨R,m2,a,n,c,Q,L,rfl,rfl,hn32,HR.out.1,h3,HI4.out⟩)
          | ((repeat apply Exists.intro);exact ⟨⟨R,m2,a,n,c,Q,L,rfl,rfl,hn32,HR.out.1,h3,HI4.out⟩,rfl⟩)
        case measure=>exact HMS.out
       ·have hlt0:ix<0:=by have:=HIX.out;rw [show hasR L (low x)=false by simpa using hhas] at this;simpa using this
        have HAD:=hid (show addR L P.data.toList=L++[⟨low x,t⟩] by unfold addR;rw [HRV.out];simp [hhas]);obtain ⟨d0,d1,y0⟩:=HI4.out.cells
        obtain ⟨r0,r1,_,_⟩:=TwR.cells HTW4.out
        have HO4:=hid (show w4.ownsRow (w.heap.size+2) 55 2 (.slice a n c) n (cellsR Q) from by have h:=HI4.out.2.2.1;rw [<- HR.out.1] at h;exact h);have hw4:w.heap.size+2<=w4.heap.size:=HI4.out.lt;clear hhas hb4
        go_wp2_with (at_builtin;refine wpList_append_own _ rfl _ _ 37 rfl (w.heap.size+2) 55 i0 _ 2 40 Tryz.underlying37 hi hz0 hz1 hz2 rfl (by decide) _ _ _ rfl (HO4.out.alloc _) ⟨w4.heap.size,0,none⟩ 1 1 [.string N,.slice va vn vc] rfl rfl ?c1 ?c2 (by unfold maxLen;omega) (by omega) (by simp;omega) ?_)
        case c1=>
         intro q u hq
         match q,hq with
         | 0,hq=>simp at hq;subst hq;simp [Addr.add]
         | 1,hq=>simp at hq;subst hq;simp [Addr.add]
        case c2=>intro u hu;simp at hu;rcases hu with rfl | rfl<;>rfl
        intro v5 w5 hown hgrow hnil;obtain ⟨a5,c5,rfl,hc5,hm5⟩:=own_form10 hown
        have hP4:(w4.alloc (.cells #[.string N,.slice va vn vc] 55)).heap[w.heap.size+1]? = some (.cells #[.slice a n c,.bool rp] 39 (0,0)):=(Lib.alloc_old w4 _ _ (by omega)).trans HI4.out.2.1;have hP5:w5.heap[w.heap.size+1]? = some (.cells #[.slice a n c,.bool rp] 39 (0,0)):=(hgrow.block _ (by simp;omega) (fun e=>by
         obtain ⟨cur,hc⟩:=ownsRow_kind (HO4.out.alloc (.cells #[.string N,.slice va vn vc] 55)) _ e.symm
         exact kind_nf hc hP4 (by decide) rfl)).trans hP4
        have e0:w5.cell? ⟨w.heap.size+1,0,none⟩=some (.slice a n c):=by rw [Lib.cell_of_heap hP5];rfl
        have y5:w5.frozen? ⟨w.heap.size+1,0,none⟩=false:=Lib.frozen_of_heap hP5 0;have HI6:=hid (show PI w (w5.setCell ⟨w.heap.size+1,0,none⟩ (.slice a5 (n+1) c5)) rp (.slice a5 (n+1) c5) (Q++[(⟨(low x).toArray⟩,.slice va vn vc)]) (L++[⟨low x,t⟩]) from by
         refine PI.snoc (r:=⟨low x,t⟩) (w2:=w4.alloc (.cells #[.string N,.slice va vn vc] 55)) (B:=w1.heap.size) HI1.out (below2 HB14.out ((Below.refl _ w4).alloc (Nat.le_refl _) _)) (HSL4.out.alloc0 _) (Nat.le_refl _) ?_ hgrow;rw [<- HR.out.1,show (⟨(low x).toArray⟩:ByteArray)=N by rw [<- HNL.out,Lib.mk_data]];exact hown)
        have HLN:=hid (show n+1=(L++[(⟨low x,t⟩:Ru)]).length by rw [List.length_append,<- HR.out.1];rfl);clear hown hgrow hnil hP4 hP5 d0 d1 y0 r0 r1 hc5 hm5 HO4
        go_wp2_with fail
        go_roundw
        case rel=>
         have h3:=HJ2.out;rw [HAD.out] at h3
         first
          | exact ⟨R,m2,a5,n+1,c5,_,_,rfl,rfl,by omega,HLN.out,h3,HI6.out⟩
          | ((repeat apply Exists.intro);refine ⟨?_,rfl⟩;exact ⟨R,m2,a5,n+1,c5,_,_,rfl,rfl,by omega,HLN.out,h3,HI6.out⟩)
          | ((repeat apply Exists.intro);exact ⟨⟨R,m2,a5,n+1,c5,_,_,rfl,rfl,by omega,HLN.out,h3,HI6.out⟩,rfl⟩)
        case measure=>exact HMS.out
end Go.Proofs.YtijpkalkfbejeaaGreatDoor
