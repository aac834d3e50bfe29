/- Walks and plain facts. -/
import Derived.Test.YtijpkalkfbejeaaGreatDoorQm36
set_option linter.unusedSimpArgs false
set_option linter.unusedVariables false
set_option maxHeartbeats 16000000
set_option maxRecDepth 100000

namespace Go.Proofs.YtijpkalkfbejeaaGreatDoor
open Go.RowKit
def QT (w0:World) (Q:List (ByteArray×Value)) (L:List Ru):Prop:=
 Q.length=L.length /\ ∀ j (h1:j<Q.length) (h2:j<L.length),Q[j].1=⟨L[j].name.toArray⟩/\TxAt w0 Q[j].2 L[j].vals
theorem QT.nil (w0:World):QT w0 [] []:=⟨rfl,fun j h=>by simp at h⟩
theorem QT.snoc {w0:World} {Q:List (ByteArray×Value)} {L:List Ru} {r:Ru} {V:Value} (h:QT w0 Q L) (hV:TxAt w0 V r.vals):QT w0 (Q++[(⟨r.name.toArray⟩,V)]) (L++[r]):=by
 obtain ⟨h1,h2⟩:=h
 refine ⟨by simp [h1],fun j a b=> ?_⟩
 by_cases hj:j<Q.length
 ·rw [List.getElem_append_left hj,List.getElem_append_left (by omega)]
  exact h2 j hj (by omega)
 ·have e:j=Q.length:=by simp at a;omega
  subst e;rw [List.getElem_append_right (by omega),List.getElem_append_right (by omega)];simp [h1];exact hV
def OnW (w0 w:World) (B:Nat) (v:Value) (L:List Ru):Prop:= ∃ Q,w.ownsRow B 55 2 v L.length (cellsR Q)/\QT w0 Q L
theorem OnW.keptB {w0 w w':World} {B:Nat} {v:Value} {L:List Ru} (h:OnW w0 w B v L) (hk: ∀ (k:Nat) (cur:Array Value) (fz:Nat×Nat),w.heap[k]? = some (Obj.cells cur 55 fz)->w'.heap[k]? = w.heap[k]?):OnW w0 w' B v L:=by
 obtain ⟨Q,h1,h2⟩:=h
 refine ⟨Q,ownsRow_same h1 fun g hg=> ?_,h2⟩
 obtain ⟨cur,hc⟩:=ownsRow_kind h1 g hg
 exact hk _ _ _ hc
theorem OnW.po {w0 w:World} {B:Nat} {v:Value} {L:List Ru} (h:OnW w0 w B v L) (hb:Below w0.heap.size w0 w):PoAt w v L:=by
 obtain ⟨Q,h,hq⟩:=h
 rcases h.2 with ⟨hv,hn⟩ | ⟨g,cap,cur,rfl,hg,hrow,hnc,hcm,hcs,htake⟩
 ·obtain rfl:=List.eq_nil_of_length_eq_zero hn
  rw [hv];exact po_nil w
 ·refine ⟨_,cap,rfl,hnc,hcm,fun j hj=> ?_⟩
  have hjq:j<Q.length:=by rw [hq.1];exact hj
  obtain ⟨e1,e2⟩:=hq.2 j hjq hj
  refine ⟨g,0,Q[j].2,rfl,?_,?_,e2.kept hb⟩
  ·rw [Nat.zero_add,h.cellAt _ (by omega),<- e1];exact (cellsR_at Q j hjq).1
  ·rw [Nat.zero_add,h.cellAt _ (by omega)];exact (cellsR_at Q j hjq).2
def RdW (w0 w:World) (B:Nat) (P:List (Value×Bool)) (Ps:List (List Ru×Bool)):Prop:=
 P.length=Ps.length /\ ∀ j (h1:j<P.length) (h2:j<Ps.length),P[j].2=Ps[j].2/\OnW w0 w B P[j].1 Ps[j].1
theorem RdW.nil (w0 w:World) (B:Nat):RdW w0 w B [] []:=⟨rfl,fun j h=>by simp at h⟩
theorem RdW.keptB {w0 w w':World} {B:Nat} {P:List (Value×Bool)} {Ps:List (List Ru×Bool)} (h:RdW w0 w B P Ps) (hk: ∀ (k:Nat) (cur:Array Value) (fz:Nat×Nat),w.heap[k]? = some (Obj.cells cur 55 fz)->w'.heap[k]? = w.heap[k]?):RdW w0 w' B P Ps:=
 ⟨h.1,fun j a b=>⟨(h.2 j a b).1,(h.2 j a b).2.keptB hk⟩⟩
theorem RdW.kept {w0 w w':World} {B:Nat} {P:List (Value×Bool)} {Ps:List (List Ru×Bool)} (h:RdW w0 w B P Ps) (hb:Below w.heap.size w w'):RdW w0 w' B P Ps:=
 h.keptB fun k _ _ hk=>hb.block k (Array.getElem?_eq_some_iff.1 hk).1
theorem RdW.app {w0 w:World} {B:Nat} {P P':List (Value×Bool)} {Ps Ps':List (List Ru×Bool)} (h:RdW w0 w B P Ps) (h':RdW w0 w B P' Ps'):RdW w0 w B (P++P') (Ps++Ps'):=by
 refine ⟨by simp [h.1,h'.1],fun j a b=> ?_⟩
 by_cases hj:j<P.length
 ·have hj2:j<Ps.length:=by rw [<- h.1];exact hj
  rw [List.getElem_append_left hj,List.getElem_append_left hj2];exact h.2 j hj hj2
 ·have hj2: ¬ j<Ps.length:=by rw [<- h.1];exact hj
  rw [List.getElem_append_right (by omega),List.getElem_append_right (by omega)];have:=h'.2 (j - P.length) (by simp at a;omega) (by simp at b;rw [h.1];omega)
  simp only [<- h.1];exact this
theorem RdW.one {w0 w:World} {B:Nat} {v:Value} {L:List Ru} {b:Bool} (h:OnW w0 w B v L):RdW w0 w B [(v,b)] [(L,b)]:=by
 refine ⟨rfl,fun j h1 h2=> ?_⟩
 obtain rfl:j=0:=by simp at h1;omega
 exact ⟨rfl,h⟩
theorem RdW.oneCell {w0 w:World} {B:Nat} {P:List (Value×Bool)} {Ps:List (List Ru×Bool)} (h:RdW w0 w B P Ps): ∀ q ∈ P,q.1.oneCell'=true:=by
 intro q hq;obtain ⟨j,hj,rfl⟩:=List.getElem_of_mem hq
 obtain ⟨Q,h1,_⟩:=(h.2 j hj (by rw [<- h.1];exact hj)).2
 obtain ⟨a,c,e,_,_⟩:=own_form10 h1
 rw [e];rfl
theorem own_plw {w0 w:World} {B B':Nat} {v:Value} {P:List (Value×Bool)} {Ps:List (List Ru×Bool)} (h:w.ownsRow B 39 2 v Ps.length (cellsP P)) (hr:RdW w0 w B' P Ps) (hb:Below w0.heap.size w0 w):PlAt w v Ps:=by
 rcases h.2 with ⟨hv,hn⟩ | ⟨g,cap,cur,rfl,hg,hrow,hnc,hcm,hcs,htake⟩
 ·obtain rfl:=List.eq_nil_of_length_eq_zero hn
  exact ⟨none,0,hv,Nat.le_refl _,by decide,fun j hj=>by simp at hj⟩
 ·refine ⟨_,cap,rfl,hnc,hcm,fun j hj=> ?_⟩
  have hjP:j<P.length:=by rw [hr.1];exact hj
  obtain ⟨e1,hon⟩:=hr.2 j hjP hj
  have hpo:=hon.po hb;obtain ⟨Q,hq,_⟩:=hon
  obtain ⟨ua,uc,hu,_,_⟩:=own_form10 hq
  refine ⟨g,0,ua,uc,rfl,?_,?_,?_⟩
  ·rw [Nat.zero_add,h.cellAt _ (by omega),(cellsP_at P j hjP).1,hu]
  ·rw [Nat.zero_add,h.cellAt _ (by omega),(cellsP_at P j hjP).2,e1]
  ·rw [<- hu];exact hpo
theorem grown_rw {w w':World} {B:Nat} {v:Value} {n:Nat} {cs:List Value} (hv:w.ownsRow B 39 2 v n cs) (hg:w.grownBy w' v.ownBlock): ∀ (k:Nat) (cur:Array Value) (fz:Nat×Nat),w.heap[k]? = some (Obj.cells cur 55 fz)->w'.heap[k]? = w.heap[k]? :=fun k cur fz hk=>by
 refine hg.block k (Array.getElem?_eq_some_iff.1 hk).1 (fun e=> ?_);obtain ⟨c2,hc2⟩:=ownsRow_kind hv k e.symm
 rw [hk] at hc2;injection hc2 with hc2
 injection hc2 with _ hc2 _
 exact absurd hc2 (by decide)
def PlainPost (Ps:List (List Ru×Bool)) (w:World) (e:Ending) (w':World):Prop:=
 ∃ v P,e = .returned v/\w'.ownsRow w.heap.size 39 2 v Ps.length (cellsP P)/\RdW w w' w.heap.size P Ps/\Below w.heap.size w w'
def PLI (w w1 wr:World) (LP:List Ru) (rp:Bool) (j:Nat):Prop:=Below w1.heap.size w1 wr /\ ∃ a c,wr.heap[w1.heap.size]? = some (.cells #[.slice a j c,.bool rp] 39 (0,0)) /\ ∃ Q,wr.ownsRow (w1.heap.size+1) 55 2 (.slice a j c) j (cellsR Q)/\QT w Q (LP.take j)
theorem plain12_any (v:Value) (Ps:List (List Ru×Bool)) (w:World) (hv:PlAt w v Ps) (hl:Ps.length<=1000) (hz: ∀ q ∈ Ps,q.1.length<=1000):
 Calls Tryz.prog 7 #[v] w (PlainPost Ps w):=by
 obtain ⟨i0,hi,hz0,hz1,hz2⟩:=info_parts infoPo
 obtain ⟨i1,hi',hy0,hy1,hy2⟩:=info_parts infoRu
 have HV:=hid hv;have HZ:=hid hz;obtain ⟨a0,c0,rfl,_,_,_⟩:=hv
 obtain ⟨n,hn⟩: ∃ n,n=Ps.length:=⟨_,rfl⟩
 have HN:=hid hn;rw [<- hn] at hl;clear hz;unfold PlainPost;rw [<- hn];clear hn
 go_enter Tryz.func7,Tryz.ntmps7
 go_wp2_with fail
 go_loopw [3,4] (fun v3 vi wr=> ∃ (k:Nat) (a:Option Addr) (c:Nat),k<=n/\vi = .int .i64 k/\v3 = .slice a k c/\Hid (Below w.heap.size w wr /\ ∃ P,wr.ownsRow w.heap.size 39 2 (.slice a k c) k (cellsP P)/\RdW w wr w.heap.size P (Ps.take k))) (fun _ vi _=>n - (intOf vi).toNat)
 case atStart=>exact ⟨0,none,0,Nat.zero_le _,rfl,rfl,Below.refl _ _,[],World.ownsRow_nil _ _ _ _,RdW.nil _ _ _⟩
 case round=>
  obtain ⟨k,a,c,hk,rfl,rfl,HR⟩:=hrel
  obtain ⟨W1,hW1⟩: ∃ W,W=wr:=⟨_,rfl⟩
  subst hW1;by_cases hlt:k<n
  ·have hlt':(k:Int)<(n:Int):=by omega
   have hk0: ¬ ((k:Int)<0):=by omega
   have hkL:k<Ps.length:=by have:=HN.out;omega
   obtain ⟨a0',c0',e1,_,_,hcell⟩:=HV.out
   injection e1 with e1 e2 e3
   clear e2 e3;subst e1;obtain ⟨b,off,ua,uc,rfl,hc1,hc2,hpo⟩:=hcell k hkL
   obtain ⟨LP,hLP⟩: ∃ l,Ps[k].1=l:=⟨_,rfl⟩
   obtain ⟨rp,hrp⟩: ∃ r,Ps[k].2=r:=⟨_,rfl⟩
   obtain ⟨ln,hln⟩: ∃ l,LP.length=l:=⟨_,rfl⟩
   rw [hLP,hln] at hc1 hpo
   rw [hrp] at hc2;have HLn:=hid hln;have hln9:ln<=1000:=by rw [<- hln,<- hLP];exact HZ.out _ (List.getElem_mem hkL)
   have HTk:=hid (show Ps.take (k+1)=Ps.take k++[(LP,rp)] by rw [List.take_succ_eq_append_getElem hkL,<- hLP,<- hrp]);have HPO:=hid hpo;have HDc:=hid (fun (Z:World) (hZ:Below w.heap.size w Z)=>(show Z.cell? ⟨b,off+k*2,none⟩=some (.slice ua ln uc) from (hZ.cell (World.block_lt_of_cell? w _ hc1)).trans hc1));have HB1:=hid HR.out.1;have d2:=(HB1.out.cell (World.block_lt_of_cell? w _ hc2)).trans hc2;clear hcell hc1 hc2 hpo hLP hrp hln hkL
   go_wp2_with fail
   clear d2
   go_loopw [6] (fun v6 wq=> ∃ j:Nat,j<=ln/\v6 = .int .i64 j/\Hid (PLI w W1 wq LP rp j)) (fun v6 _=>ln - (intOf v6).toNat)
   case atStart=>exact ⟨0,Nat.zero_le _,rfl,(Below.refl _ _).alloc (Nat.le_refl _) _,none,0,heap_alloc_new _ _,[],World.ownsRow_nil _ _ _ _,QT.nil _⟩
   case round=>
    obtain ⟨j,hj,rfl,HJ⟩:=hrel
    obtain ⟨hb,a2,c2,hbox,Q,hown,hqt⟩:=HJ.out
    have HBw:=hid (below2 HB1.out hb);have d0:=HDc.out _ HBw.out;have HBj:=hid hb;have HOwn:=hid hown;have HBox:=hid hbox;have HQt:=hid hqt;clear hb hbox hown hqt HJ;by_cases hjl:j<ln
    ·have hjl':(j:Int)<(ln:Int):=by omega
     have hj0: ¬ ((j:Int)<0):=by omega
     have hjL:j<LP.length:=by have:=HLn.out;omega
     obtain ⟨ua',uc',e1,_,_,hr⟩:=HPO.out
     injection e1 with e1 e2 e3
     clear e2 e3;subst e1;obtain ⟨b2,o2,u,rfl,r0,r1,htx⟩:=hr j hjL
     have HTx:=hid htx;obtain ⟨va,vc,rfl,_,_,_⟩:=htx.view
     obtain ⟨vn,hvn⟩: ∃ x,LP[j].vals.length=x:=⟨_,rfl⟩
     obtain ⟨N,hN⟩: ∃ x:ByteArray,(⟨LP[j].name.toArray⟩:ByteArray)=x:=⟨_,rfl⟩
     rw [hvn] at r1 HTx;rw [hN] at r0;have HQ9:=hid (show QT w (Q++[(N,.slice va vn vc)]) (LP.take (j+1)) by
      rw [List.take_succ_eq_append_getElem hjL,<- hN];exact HQt.out.snoc HTx.out)
     have HSK:=hid (show ∀ Z,Below wr.heap.size wr Z->(fun wx:World=>wx.cell? ⟨W1.heap.size,0,none⟩=some (.slice a2 j c2)/\wx.cell? ⟨b,off+k*2,none⟩=some (.slice (some ⟨b2,o2,none⟩) ln uc)/\wx.cell? ⟨b2,o2+j*2,none⟩=some (.string N)/\wx.cell? ⟨b2,o2+j*2+1,none⟩=some (.slice va vn vc)) Z from fun Z hZ=>by
      have hZw:=below2 HBw.out hZ;refine ⟨?_,HDc.out Z hZw,(hZw.cell (World.block_lt_of_cell? w _ r0)).trans r0,(hZw.cell (World.block_lt_of_cell? w _ r1)).trans r1⟩
      have h1:=(hZ.block _ (Array.getElem?_eq_some_iff.1 HBox.out).1).trans HBox.out;rw [Lib.cell_of_heap h1];rfl)
     have HSW:=hid (show ∀ Z,Below w.heap.size w Z->Z.cell? ⟨W1.heap.size,0,none⟩=some (.slice a2 j c2)->(fun wx:World=>wx.cell? ⟨W1.heap.size,0,none⟩=some (.slice a2 j c2)/\wx.cell? ⟨b,off+k*2,none⟩=some (.slice (some ⟨b2,o2,none⟩) ln uc)/\wx.cell? ⟨b2,o2+j*2,none⟩=some (.string N)/\wx.cell? ⟨b2,o2+j*2+1,none⟩=some (.slice va vn vc)) Z from fun Z hZw h0=>
      ⟨h0,HDc.out Z hZw,(hZw.cell (World.block_lt_of_cell? w _ r0)).trans r0,(hZw.cell (World.block_lt_of_cell? w _ r1)).trans r1⟩)
     have HQ0:=hid ((Below.refl wr.heap.size wr).drew);have HS:=hid (HSK.out wr.drew HQ0.out);have hws:W1.heap.size+1<=wr.heap.size:=by have:=(Array.getElem?_eq_some_iff.1 HBox.out).1;omega
     have HWs:=hid hws;have HW0:=hid (show w.heap.size<=W1.heap.size from HB1.out.size);clear hr htx r0 r1 hvn hN hws
     go_wp2_with fail
     refine AnyBut.start (n:=24) (S:=(fun wx:World=>wx.cell? ⟨W1.heap.size,0,none⟩=some (.slice a2 j c2)/\wx.cell? ⟨b,off+k*2,none⟩=some (.slice (some ⟨b2,o2,none⟩) ln uc)/\wx.cell? ⟨b2,o2+j*2,none⟩=some (.string N)/\wx.cell? ⟨b2,o2+j*2+1,none⟩=some (.slice va vn vc))) (by kernel_rfl) ?_
     refine' AnyBut.take (i:=0) (oi:=⟨some 29,_,_,_,_,_⟩) (v:=_) rfl (by kernel_rfl) (by kernel_rfl) (fun _ _ _ h=>h) _ _ _ _ (by kernel_rfl) (by kernel_rfl) (Or.inl ⟨by kernel_rfl,?hy0⟩) HS.out ?rest0
     case hy0=>(intro wx hSw;(try dsimp only at hSw);obtain ⟨s0,s1,s2,s3⟩:=hSw;go_simp;first | done | with_reducible rfl)
     (try simp only [Act.put,List.setIfInBounds_toArray,List.set_cons_zero,List.set_cons_succ])
     refine' AnyBut.take (i:=1) (oi:=⟨some 30,_,_,_,_,_⟩) (v:=_) rfl (by kernel_rfl) (by kernel_rfl) (fun _ _ _ h=>h) _ _ _ _ (by kernel_rfl) (by kernel_rfl) (Or.inl ⟨by kernel_rfl,?hy1⟩) HS.out ?rest1
     case hy1=>(intro wx hSw;(try dsimp only at hSw);obtain ⟨s0,s1,s2,s3⟩:=hSw;go_simp;first | done | with_reducible rfl)
     (try simp only [Act.put,List.setIfInBounds_toArray,List.set_cons_zero,List.set_cons_succ])
     refine' AnyBut.take (i:=2) (oi:=⟨some 31,_,_,_,_,_⟩) (v:=_) rfl (by kernel_rfl) (by kernel_rfl) (fun _ _ _ h=>h) _ _ _ _ (by kernel_rfl) (by kernel_rfl) (Or.inl ⟨by kernel_rfl,?hy2⟩) HS.out ?rest2
     case hy2=>(intro wx hSw;(try dsimp only at hSw);obtain ⟨s0,s1,s2,s3⟩:=hSw;go_simp;first | done | with_reducible rfl)
     (try simp only [Act.put,List.setIfInBounds_toArray,List.set_cons_zero,List.set_cons_succ])
     refine' AnyBut.take (i:=3) (oi:=⟨some 32,_,_,_,_,_⟩) (v:=_) rfl (by kernel_rfl) (by kernel_rfl) (fun _ _ _ h=>h) _ _ _ _ (by kernel_rfl) (by kernel_rfl) (Or.inl ⟨by kernel_rfl,?hy3⟩) HS.out ?rest3
     case hy3=>(intro wx hSw;(try dsimp only at hSw);obtain ⟨s0,s1,s2,s3⟩:=hSw;go_simp;first | done | with_reducible rfl)
     (try simp only [Act.put,List.setIfInBounds_toArray,List.set_cons_zero,List.set_cons_succ])
     refine' AnyBut.take (i:=4) (oi:=⟨some 33,_,_,_,_,_⟩) (v:=_) rfl (by kernel_rfl) (by kernel_rfl) (fun _ _ _ h=>h) _ _ _ _ (by kernel_rfl) (by kernel_rfl) (Or.inl ⟨by kernel_rfl,?hy4⟩) HS.out ?rest4
     case hy4=>(intro wx hSw;(try dsimp only at hSw);obtain ⟨s0,s1,s2,s3⟩:=hSw;go_simp;first | done | with_reducible rfl)
     (try simp only [Act.put,List.setIfInBounds_toArray,List.set_cons_zero,List.set_cons_succ])
     refine' AnyBut.take (i:=5) (oi:=⟨some 34,_,_,_,_,_⟩) (v:=_) rfl (by kernel_rfl) (by kernel_rfl) (fun _ _ _ h=>h) _ _ _ _ (by kernel_rfl) (by kernel_rfl) (Or.inl ⟨by kernel_rfl,?hy5⟩) HS.out ?rest5
     case hy5=>(intro wx hSw;(try dsimp only at hSw);obtain ⟨s0,s1,s2,s3⟩:=hSw;go_simp;first | done | with_reducible rfl)
     (try simp only [Act.put,List.setIfInBounds_toArray,List.set_cons_zero,List.set_cons_succ])
     refine' AnyBut.take (i:=6) (oi:=⟨some 35,_,_,_,_,_⟩) (v:=_) rfl (by kernel_rfl) (by kernel_rfl) (fun _ _ _ h=>h) _ _ _ _ (by kernel_rfl) (by kernel_rfl) (Or.inl ⟨by kernel_rfl,?hy6⟩) HS.out ?rest6
     case hy6=>(intro wx hSw;(try dsimp only at hSw);obtain ⟨s0,s1,s2,s3⟩:=hSw;go_simp;first | done | with_reducible rfl)
     (try simp only [Act.put,List.setIfInBounds_toArray,List.set_cons_zero,List.set_cons_succ])
     refine' AnyBut.take (i:=7) (oi:=⟨some 36,_,_,_,_,_⟩) (v:=_) rfl (by kernel_rfl) (by kernel_rfl) (fun _ _ _ h=>h) _ _ _ _ (by kernel_rfl) (by kernel_rfl) (Or.inl ⟨by kernel_rfl,?hy7⟩) HS.out ?rest7
     case hy7=>(intro wx hSw;(try dsimp only at hSw);obtain ⟨s0,s1,s2,s3⟩:=hSw;go_simp;first | done | with_reducible rfl)
     (try simp only [Act.put,List.setIfInBounds_toArray,List.set_cons_zero,List.set_cons_succ])
     refine' AnyBut.take (i:=8) (oi:=⟨some 37,_,_,_,_,_⟩) (v:=_) rfl (by kernel_rfl) (by kernel_rfl) (fun _ _ _ h=>h) _ _ _ _ (by kernel_rfl) (by kernel_rfl) (Or.inl ⟨by kernel_rfl,?hy8⟩) HS.out ?rest8
     case hy8=>(intro wx hSw;(try dsimp only at hSw);obtain ⟨s0,s1,s2,s3⟩:=hSw;go_simp;first | done | with_reducible rfl)
     (try simp only [Act.put,List.setIfInBounds_toArray,List.set_cons_zero,List.set_cons_succ])
     refine' AnyBut.take (i:=9) (oi:=⟨some 38,_,_,_,_,_⟩) (v:=_) rfl (by kernel_rfl) (by kernel_rfl) (fun _ _ _ h=>h) _ _ _ _ (by kernel_rfl) (by kernel_rfl) (Or.inl ⟨by kernel_rfl,?hy9⟩) HS.out ?rest9
     case hy9=>(intro wx hSw;(try dsimp only at hSw);obtain ⟨s0,s1,s2,s3⟩:=hSw;go_simp;first | done | with_reducible rfl)
     (try simp only [Act.put,List.setIfInBounds_toArray,List.set_cons_zero,List.set_cons_succ])
     refine' AnyBut.take (i:=10) (oi:=⟨some 39,_,_,_,_,_⟩) (v:=_) rfl (by kernel_rfl) (by kernel_rfl) (fun _ _ _ h=>h) _ _ _ _ (by kernel_rfl) (by kernel_rfl) (Or.inl ⟨by kernel_rfl,?hy10⟩) HS.out ?rest10
     case hy10=>(intro wx hSw;(try dsimp only at hSw);obtain ⟨s0,s1,s2,s3⟩:=hSw;go_simp;first | done | with_reducible rfl)
     (try simp only [Act.put,List.setIfInBounds_toArray,List.set_cons_zero,List.set_cons_succ])
     refine' AnyBut.take (i:=11) (oi:=⟨some 40,_,_,_,_,_⟩) (v:=_) rfl (by kernel_rfl) (by kernel_rfl) (fun _ _ _ h=>h) _ _ _ _ (by kernel_rfl) (by kernel_rfl) (Or.inl ⟨by kernel_rfl,?hy11⟩) HS.out ?rest11
     case hy11=>(intro wx hSw;(try dsimp only at hSw);obtain ⟨s0,s1,s2,s3⟩:=hSw;go_simp;first | done | with_reducible rfl)
     (try simp only [Act.put,List.setIfInBounds_toArray,List.set_cons_zero,List.set_cons_succ])
     refine' AnyBut.take (i:=12) (oi:=⟨some 41,_,_,_,_,_⟩) (v:=_) rfl (by kernel_rfl) (by kernel_rfl) (fun _ _ _ h=>h) _ _ _ _ (by kernel_rfl) (by kernel_rfl) (Or.inl ⟨by kernel_rfl,?hy12⟩) HS.out ?rest12
     case hy12=>(intro wx hSw;(try dsimp only at hSw);obtain ⟨s0,s1,s2,s3⟩:=hSw;go_simp;first | done | with_reducible rfl)
     (try simp only [Act.put,List.setIfInBounds_toArray,List.set_cons_zero,List.set_cons_succ])
     refine' AnyBut.take (i:=13) (oi:=⟨some 42,_,_,_,_,_⟩) (v:=_) rfl (by kernel_rfl) (by kernel_rfl) (fun _ _ _ h=>h) _ _ _ _ (by kernel_rfl) (by kernel_rfl) (Or.inl ⟨by kernel_rfl,?hy13⟩) HS.out ?rest13
     case hy13=>(intro wx hSw;(try dsimp only at hSw);obtain ⟨s0,s1,s2,s3⟩:=hSw;go_simp;first | done | with_reducible rfl)
     (try simp only [Act.put,List.setIfInBounds_toArray,List.set_cons_zero,List.set_cons_succ])
     refine' AnyBut.take (i:=14) (oi:=⟨some 43,_,_,_,_,_⟩) (v:=_) rfl (by kernel_rfl) (by kernel_rfl) (fun _ _ _ h=>h) _ _ _ _ (by kernel_rfl) (by kernel_rfl) (Or.inl ⟨by kernel_rfl,?hy14⟩) HS.out ?rest14
     case hy14=>(intro wx hSw;(try dsimp only at hSw);obtain ⟨s0,s1,s2,s3⟩:=hSw;go_simp;first | done | with_reducible rfl)
     (try simp only [Act.put,List.setIfInBounds_toArray,List.set_cons_zero,List.set_cons_succ])
     refine' AnyBut.take (i:=15) (oi:=⟨some 44,_,_,_,_,_⟩) (v:=_) rfl (by kernel_rfl) (by kernel_rfl) (fun _ _ _ h=>h) _ _ _ _ (by kernel_rfl) (by kernel_rfl) (Or.inl ⟨by kernel_rfl,?hy15⟩) HS.out ?rest15
     case hy15=>(intro wx hSw;(try dsimp only at hSw);obtain ⟨s0,s1,s2,s3⟩:=hSw;go_simp;first | done | with_reducible rfl)
     (try simp only [Act.put,List.setIfInBounds_toArray,List.set_cons_zero,List.set_cons_succ])
     refine' AnyBut.take (i:=16) (oi:=⟨some 45,_,_,_,_,_⟩) (v:=_) rfl (by kernel_rfl) (by kernel_rfl) (fun _ _ _ h=>h) _ _ _ _ (by kernel_rfl) (by kernel_rfl) (Or.inl ⟨by kernel_rfl,?hy16⟩) HS.out ?rest16
     case hy16=>(intro wx hSw;(try dsimp only at hSw);obtain ⟨s0,s1,s2,s3⟩:=hSw;go_simp;first | done | with_reducible rfl)
     (try simp only [Act.put,List.setIfInBounds_toArray,List.set_cons_zero,List.set_cons_succ])
     refine' AnyBut.take (i:=17) (oi:=⟨some 46,_,_,_,_,_⟩) (v:=_) rfl (by kernel_rfl) (by kernel_rfl) (fun _ _ _ h=>h) _ _ _ _ (by kernel_rfl) (by kernel_rfl) (Or.inl ⟨by kernel_rfl,?hy17⟩) HS.out ?rest17
     case hy17=>(intro wx hSw;(try dsimp only at hSw);obtain ⟨s0,s1,s2,s3⟩:=hSw;go_simp;first | done | with_reducible rfl)
     (try simp only [Act.put,List.setIfInBounds_toArray,List.set_cons_zero,List.set_cons_succ])
     refine' AnyBut.take (i:=18) (oi:=⟨some 47,_,_,_,_,_⟩) (v:=_) rfl (by kernel_rfl) (by kernel_rfl) (fun _ _ _ h=>h) _ _ _ _ (by kernel_rfl) (by kernel_rfl) (Or.inl ⟨by kernel_rfl,?hy18⟩) HS.out ?rest18
     case hy18=>(intro wx hSw;(try dsimp only at hSw);obtain ⟨s0,s1,s2,s3⟩:=hSw;go_simp;first | done | with_reducible rfl)
     (try simp only [Act.put,List.setIfInBounds_toArray,List.set_cons_zero,List.set_cons_succ])
     refine' AnyBut.take (i:=19) (oi:=⟨some 48,_,_,_,_,_⟩) (v:=_) rfl (by kernel_rfl) (by kernel_rfl) (fun _ _ _ h=>h) _ _ _ _ (by kernel_rfl) (by kernel_rfl) (Or.inl ⟨by kernel_rfl,?hy19⟩) HS.out ?rest19
     case hy19=>(intro wx hSw;(try dsimp only at hSw);obtain ⟨s0,s1,s2,s3⟩:=hSw;go_simp;first | done | with_reducible rfl)
     (try simp only [Act.put,List.setIfInBounds_toArray,List.set_cons_zero,List.set_cons_succ])
     refine' AnyBut.take (i:=20) (oi:=⟨some 49,_,_,_,_,_⟩) (v:=_) rfl (by kernel_rfl) (by kernel_rfl) (fun _ _ _ h=>h) _ _ _ _ (by kernel_rfl) (by kernel_rfl) (Or.inl ⟨by kernel_rfl,?hy20⟩) HS.out ?rest20
     case hy20=>(intro wx hSw;(try dsimp only at hSw);obtain ⟨s0,s1,s2,s3⟩:=hSw;go_simp;first | done | with_reducible rfl)
     (try simp only [Act.put,List.setIfInBounds_toArray,List.set_cons_zero,List.set_cons_succ])
     refine AnyBut.one (i:=21) (by kernel_rfl) rfl (fun K' hK=> ?_)
     rw [if_pos (by kernel_rfl)]
     go_simp
     have HQ2:=hid (show Below wr.heap.size wr (wr.alloc (.cells #[.string N,.slice va vn vc] 55)).drew from ((Below.refl wr.heap.size wr).alloc (Nat.le_refl _) _).drew);clear HS;have HS:=hid (HSK.out _ HQ2.out);refine hK.out _ _ HS.out ?_;clear hK K';have HOw3:=hid (own_kept HOwn.out HQ2.out);have HBox3:=hid ((HQ2.out.block _ (Array.getElem?_eq_some_iff.1 HBox.out).1).trans HBox.out);have hsz3:(wr.alloc (.cells #[.string N,.slice va vn vc] 55)).drew.heap.size=wr.heap.size+1:=by
      show (wr.alloc _).heap.size=_;simp
     have HSz3:=hid hsz3;clear hsz3;refine AnyBut.one (i:=22) (by kernel_rfl) rfl (fun K' hK=> ?_)
     refine step_append_own12 rfl (.tmp 30) (.tmp 50) 37 rfl (W1.heap.size+1) 55 i1 _ 2 40 Tryz.underlying37 hi' hy0 hy1 hy2 rfl (by decide) (.slice a2 j c2) j (cellsR Q) rfl HOw3.out ⟨wr.heap.size,0,none⟩ 1 1 [.string N,.slice va vn vc] rfl rfl ?c1 ?c2 (by unfold maxLen;omega) (by omega) (by have:=HSz3.out;have:=HWs.out;omega) ?_
     case c1=>
      intro q u hq;rw [Addr.add_mid];exact range_row (heap_alloc_new wr _) q u hq
     case c2=>intro u hu;simp at hu;rcases hu with rfl | rfl<;>rfl
     intro v4 w4 hown4 hgrow4 hnil4;have hform: ∃ g4 c4,v4 = .slice (some ⟨g4,0,none⟩) (j+1) c4:=by
      rcases hown4.2 with ⟨_,h0⟩ | ⟨g,cap,cur,hv,_⟩
      ·omega
      ·exact ⟨g,cap,hv⟩
     obtain ⟨g4,c4,rfl⟩:=hform
     have hblk:w4.heap[W1.heap.size]? = some (.cells #[.slice a2 j c2,.bool rp] 39 (0,0)):=by
      have h1:=(Array.getElem?_eq_some_iff.1 HBox3.out).1;rw [hgrow4.block _ h1 (fun e=>by have:=(HOw3.out.lt _ e.symm).1;omega)];exact HBox3.out
     have hb4:Below W1.heap.size W1 w4:=(below2 HBj.out HQ2.out).grown hgrow4 (by have:=HSz3.out;have:=HWs.out;omega) (fun k hk=>by have:=(HOw3.out.lt k hk).1;omega)
     have HP4:=hid (show PLI w W1 (w4.setCell ⟨W1.heap.size,0,none⟩ (.slice (some ⟨g4,0,none⟩) (j+1) c4)) LP rp (j+1) by
      refine ⟨hb4.setCell (p:=⟨W1.heap.size,0,none⟩) (Nat.le_refl _) _,some ⟨g4,0,none⟩,c4,Lib.heap_setCell_same hblk (i:=0) _,Q++[(N,.slice va vn vc)],?_,HQ9.out⟩;rw [cellsR_app,cellsR_one]
      refine ownsRow_same hown4 fun g hg=> ?_
      have:=(hown4.lt g hg).1;exact heap_setCell_other _ _ _ _ (fun e=>by have e2:g=W1.heap.size:=e;omega))
     have HC4:=hid (HSW.out w4 (below2 HB1.out hb4) (by rw [Lib.cell_of_heap hblk];rfl));have HF4:=hid (show w4.frozen? ⟨W1.heap.size,0,none⟩=false by simp [World.frozen?,hblk]);clear hown4 hgrow4 hnil4 hblk hb4;refine hK.out _ _ HC4.out ?_;clear hK K' HS;have HS:=hid HC4.out
     refine' AnyBut.take (i:=23) (oi:=⟨some 52,_,_,_,_,_⟩) (v:=_) rfl (by kernel_rfl) (by kernel_rfl) (fun _ _ _ h=>h) _ _ _ _ (by kernel_rfl) (by kernel_rfl) (Or.inl ⟨by kernel_rfl,?hy23⟩) HS.out ?rest23
     case hy23=>(intro wx hSw;(try dsimp only at hSw);obtain ⟨s0,s1,s2,s3⟩:=hSw;go_simp;first | done | with_reducible rfl)
     (try simp only [Act.put,List.setIfInBounds_toArray,List.set_cons_zero,List.set_cons_succ])
     have dd0:=HC4.out.1;have z0:=HF4.out;refine AnyBut.last (by kernel_rfl) (by kernel_rfl) rfl (fun K' hK=> ?_)
     rw [if_pos (by kernel_rfl)]
     go_simp
     go_wp2_with fail
     refine hK.out _ _ ?_;clear hK K'
     go_wp2_with fail
     go_roundw
     case rel=>
      first
       | exact ⟨j+1,by omega,by go_num,HP4.out⟩
       | ((repeat apply Exists.intro);refine ⟨?_,rfl⟩;exact ⟨j+1,by omega,by go_num,HP4.out⟩)
       | ((repeat apply Exists.intro);exact ⟨⟨j+1,by omega,by go_num,HP4.out⟩,rfl⟩)
     case measure=>simp [intOf];omega
    ·have hje:j=ln:=by omega
     subst hje;have hjn: ¬ ((j:Int)<(j:Int)):=by omega
     have hjn': ¬ (j<j):=by omega
     clear hjl hln9;obtain ⟨d3,d4⟩:=cells_p HBox.out
     obtain ⟨hB0,P,hO,hRd⟩:=HR.out
     have HON:=hid (show OnW w wr w.heap.size (.slice a2 j c2) LP from ⟨Q,by rw [HLn.out];exact own_low10 HOwn.out (by have:=HB1.out.size;omega),by have h9:=HQt.out;rw [<- HLn.out,List.take_length] at h9;exact h9⟩);have HO4:=hid (own_kept hO HBj.out);have HR4:=hid (hRd.kept HBj.out);clear hB0 hO hRd HR
     go_wp2_with (at_builtin;refine wpList_append_own _ rfl _ _ 29 rfl w.heap.size 39 i0 _ 2 32 Tryz.underlying29 hi hz0 hz1 hz2 rfl (by decide) _ _ _ rfl (HO4.out.alloc _) ⟨wr.heap.size,0,none⟩ 1 1 [.slice a2 j c2,.bool rp] rfl rfl ?c1 ?c2 (by unfold maxLen;omega) (by omega) (by have:=HBw.out.size;simp at this ⊢;omega) ?_)
     try (case c1=>
      intro q u hq
      match q,hq with
      | 0,hq=>simp at hq;subst hq;simp [Addr.add]
      | 1,hq=>simp at hq;subst hq;simp [Addr.add])
     case c2=>first | (intro u hu;simp at hu;rcases hu with rfl | rfl<;>rfl) | exact ⟨rfl,rfl⟩
     intro v5 w5 hown hgrow hnil;obtain ⟨a5,c5,rfl,_,_⟩:=own_form10 hown
     have hk5:=grown_rw (HO4.out.alloc (.cells #[.slice a2 j c2,.bool rp] 39)) hgrow;have hb6:=(Below.refl _ wr).alloc (Nat.le_refl _) (.cells #[.slice a2 j c2,.bool rp] 39);have HR5:=hid (show Below w.heap.size w w5 /\ ∃ P,w5.ownsRow w.heap.size 39 2 (.slice a5 (k+1) c5) (k+1) (cellsP P)/\RdW w w5 w.heap.size P (Ps.take (k+1)) by
      refine ⟨(HBw.out.alloc HBw.out.size _).grown hgrow (by have:=HBw.out.size;simp at this ⊢;omega) (fun k hk=>(HO4.out.lt k hk).1),P++[(.slice a2 j c2,rp)],?_,?_⟩
      ·rw [cellsP_app,cellsP_one]
       exact hown
      ·rw [HTk.out]
       refine RdW.app ((HR4.out.kept hb6).keptB hk5) (RdW.one ?_);exact (HON.out.keptB (w':=wr.alloc (.cells #[.slice a2 j c2,.bool rp] 39)) fun k _ _ hk2=>hb6.block k (Array.getElem?_eq_some_iff.1 hk2).1).keptB hk5)
     clear hown hgrow hnil HON d3 d4 hk5 hb6
     go_wp2_with fail
     go_roundw
     case rel=>
      first
       | exact ⟨k+1,a5,c5,by omega,by go_num,rfl,HR5.out⟩
       | ((repeat apply Exists.intro);refine ⟨?_,rfl⟩;exact ⟨k+1,a5,c5,by omega,by go_num,rfl,HR5.out⟩)
       | ((repeat apply Exists.intro);exact ⟨⟨k+1,a5,c5,by omega,by go_num,rfl,HR5.out⟩,rfl⟩)
     case measure=>simp [intOf];omega
  ·have hke:k=n:=by omega
   subst hke;have hkn: ¬ ((k:Int)<(k:Int)):=by omega
   go_wp2_with fail
   go_ret
   obtain ⟨hB0,P,hO,hRd⟩:=HR.out
   rw [HN.out,List.take_length] at hRd
   first
    | exact ⟨_,rfl,P,hO,hRd,hB0⟩
    | exact ⟨_,P,rfl,hO,hRd,hB0⟩
    | exact ⟨P,rfl,hO,hRd,hB0⟩
    | exact ⟨P,hO,hRd,hB0⟩
    | (refine ⟨_,⟨P,rfl,hO,hRd,hB0⟩⟩)
    | trace_state
theorem sameV12_any (v1 v2:Value) (L:List Vio) (w:World) (h1:VlAt w v1 L) (h2:VlAt w v2 L) (hl:L.length<=1000000000):
 Calls Tryz.prog 12 #[v1,v2] w fun e w'=>e = .returned (.bool true)/\Below w.heap.size w w':=by
 obtain ⟨a1,c1,rfl,_,_,hv1⟩:=h1.view
 obtain ⟨a2,c2,rfl,_,_,hv2⟩:=h2.view
 have V1:=hid hv1;have V2:=hid hv2;obtain ⟨n,hn⟩: ∃ n,n=L.length:=⟨_,rfl⟩
 have HN:=hid hn;rw [<- hn] at hl ⊢;clear h1 h2 hv1 hv2 hn
 go_enter Tryz.func12,Tryz.ntmps12
 go_wp2_with fail
 go_loopw [5] (fun v5 wr=> ∃ k:Nat,k<=n/\v5 = .int .i64 k/\Hid (Below w.heap.size w wr)) (fun v5 _=>n - (intOf v5).toNat)
 case atStart=>exact ⟨0,Nat.zero_le _,rfl,Below.refl _ w⟩
 case round=>
  obtain ⟨k,hk,rfl,HR⟩:=hrel
  by_cases hlt:k<n
  ·have hin:(k:Int)<(n:Int):=by omega
   have hkL:k<L.length:=by have:=HN.out;omega
   obtain ⟨b1,o1,rfl,e1⟩:=V1.out k hkL
   obtain ⟨b2,o2,rfl,e2⟩:=V2.out k hkL
   have e3:=range_kept e1 HR.out;have e4:=range_kept e2 HR.out;obtain ⟨x,hx⟩: ∃ x,x=L[k]:=⟨_,rfl⟩
   rw [<- hx] at e3 e4;obtain ⟨P,X',Y',r⟩:=x
   obtain ⟨X,hX⟩: ∃ V:ByteArray,(⟨X'.toArray⟩:ByteArray)=V:=⟨_,rfl⟩
   obtain ⟨Y,hY⟩: ∃ V:ByteArray,(⟨Y'.toArray⟩:ByteArray)=V:=⟨_,rfl⟩
   have hcs:vioCells ⟨P,X',Y',r⟩=[.int .i64 P,.string X,.string Y,.bool r]:=by unfold vioCells;rw [<- hX,<- hY]
   rw [hcs] at e3 e4;have HR1:=hid (fun (Z:World) (hZ:Below wr.heap.size wr Z)=>range_kept e3 hZ);have HR2:=hid (fun (Z:World) (hZ:Below wr.heap.size wr Z)=>range_kept e4 hZ);have HQ0:=hid ((Below.refl wr.heap.size wr).drew);clear e1 e2 e3 e4 hx hX hY hcs hkL
   go_upto_region 6 with fail
   refine wp_region_held_drew (S:=(fun wx=>Below wr.heap.size wr wx)) (by kernel_rfl) HQ0.out (fun hHeld=> ?_)
   refine wpAnyH_to (fuel':=9) (listed':= #[false,false,false,false,false,false,false,false,false]) rfl rfl ?_
   refine' wpAnyH_take (i:=0) (oi:=⟨some 17,_,_,_,_,_⟩) (v:=_) rfl (by kernel_rfl) (by kernel_rfl) (by kernel_rfl) (fun _ _ _ h=>h) (Or.inl ⟨by kernel_rfl,?hyv1⟩) (by assumption) ?restv1
   case hyv1=>(intro wx hSw;(try dsimp only at hSw);go_simp;first | done | with_reducible rfl)
   (try simp only [Act.put,List.setIfInBounds_toArray,List.set_cons_zero,List.set_cons_succ])
   refine' wpAnyH_take (i:=1) (oi:=⟨some 18,_,_,_,_,_⟩) (v:=_) rfl (by kernel_rfl) (by kernel_rfl) (by kernel_rfl) (fun _ _ _ h=>h) (Or.inl ⟨by kernel_rfl,?hyv2⟩) (by assumption) ?restv2
   case hyv2=>(intro wx hSw;(try dsimp only at hSw);go_simp;first | done | with_reducible rfl)
   (try simp only [Act.put,List.setIfInBounds_toArray,List.set_cons_zero,List.set_cons_succ])
   refine' wpAnyH_take (i:=2) (oi:=⟨some 19,_,_,_,_,_⟩) (v:=_) rfl (by kernel_rfl) (by kernel_rfl) (by kernel_rfl) (fun _ _ _ h=>h) (Or.inl ⟨by kernel_rfl,?hyv3⟩) (by assumption) ?restv3
   case hyv3=>(intro wx hSw;(try dsimp only at hSw);go_simp;first | done | with_reducible rfl)
   (try simp only [Act.put,List.setIfInBounds_toArray,List.set_cons_zero,List.set_cons_succ])
   refine wpAnyH_take (i:=3) (oi:=⟨some 20,_,_,_,_,_⟩) rfl (by kernel_rfl) (by kernel_rfl) (by kernel_rfl) (fun _ _ _ h=>h) (yieldsIf_load_mid (by kernel_rfl) 44 (.tmp 19) rfl (b1) (o1+k*4) rfl [.int .i64 P,.string X,.string Y,.bool r] _ HR1.out Tryz.underlying44 rfl sizeV) (by assumption) ?_
   (try simp only [Act.put,List.setIfInBounds_toArray,List.set_cons_zero,List.set_cons_succ])
   refine' wpAnyH_take (i:=4) (oi:=⟨some 21,_,_,_,_,_⟩) (v:=_) rfl (by kernel_rfl) (by kernel_rfl) (by kernel_rfl) (fun _ _ _ h=>h) (Or.inl ⟨by kernel_rfl,?hyv4⟩) (by assumption) ?restv4
   case hyv4=>(intro wx hSw;(try dsimp only at hSw);go_simp;first | done | with_reducible rfl)
   (try simp only [Act.put,List.setIfInBounds_toArray,List.set_cons_zero,List.set_cons_succ])
   refine' wpAnyH_take (i:=5) (oi:=⟨some 22,_,_,_,_,_⟩) (v:=_) rfl (by kernel_rfl) (by kernel_rfl) (by kernel_rfl) (fun _ _ _ h=>h) (Or.inl ⟨by kernel_rfl,?hyv5⟩) (by assumption) ?restv5
   case hyv5=>(intro wx hSw;(try dsimp only at hSw);go_simp;first | done | with_reducible rfl)
   (try simp only [Act.put,List.setIfInBounds_toArray,List.set_cons_zero,List.set_cons_succ])
   refine' wpAnyH_take (i:=6) (oi:=⟨some 23,_,_,_,_,_⟩) (v:=_) rfl (by kernel_rfl) (by kernel_rfl) (by kernel_rfl) (fun _ _ _ h=>h) (Or.inl ⟨by kernel_rfl,?hyv6⟩) (by assumption) ?restv6
   case hyv6=>(intro wx hSw;(try dsimp only at hSw);go_simp;first | done | with_reducible rfl)
   (try simp only [Act.put,List.setIfInBounds_toArray,List.set_cons_zero,List.set_cons_succ])
   refine wpAnyH_take (i:=7) (oi:=⟨some 24,_,_,_,_,_⟩) rfl (by kernel_rfl) (by kernel_rfl) (by kernel_rfl) (fun _ _ _ h=>h) (yieldsIf_load_mid (by kernel_rfl) 44 (.tmp 23) rfl (b2) (o2+k*4) rfl [.int .i64 P,.string X,.string Y,.bool r] _ HR2.out Tryz.underlying44 rfl sizeV) (by assumption) ?_
   (try simp only [Act.put,List.setIfInBounds_toArray,List.set_cons_zero,List.set_cons_succ])
   refine' wpAnyH_take (i:=8) (oi:=⟨some 25,_,_,_,_,_⟩) (v:=_) rfl (by kernel_rfl) (by kernel_rfl) (by kernel_rfl) (fun _ _ _ h=>h) (Or.inl ⟨by kernel_rfl,?hyv7⟩) (by assumption) ?restv7
   case hyv7=>(intro wx hSw;(try dsimp only at hSw);go_simp;first | done | with_reducible rfl)
   (try simp only [Act.put,List.setIfInBounds_toArray,List.set_cons_zero,List.set_cons_succ])
   refine wpAnyH_done (by kernel_rfl) ?_ _
   go_wp2
   go_roundw
   case rel=>exact ⟨k+1,by omega,by go_num,below2 HR.out HQ0.out⟩
   case measure=>simp [intOf];omega
  ·have hin:decide ((k:Int)<(n:Int))=false:=by rw [decide_eq_false_iff_not];omega
   go_wp2
   go_ret
   exact ⟨rfl,HR.out⟩
def repA (Ps:List (List Ru×Bool)):List (List Ru×Bool):=Ps.map fun q=>(q.1,true)
theorem repA_len (Ps:List (List Ru×Bool)):(repA Ps).length=Ps.length:=List.length_map ..
theorem chkF_replen (T:List UInt8) (c:AskR) (i:Nat) (q:List Ru×Bool):(chkF T c i (q.1,true)).length=(chkF T c i q).length:=by
 unfold chkF;dsimp only;split<;>rfl
theorem chkF_rep (T:List UInt8) (c:AskR) (i:Nat) (l:List Ru):blkV12 (chkF T c i (l,true))=false:=by
 unfold chkF blkV12;dsimp only;split<;>rfl
theorem blk_app12 (a b:List Vio):blkV12 (a++b)=(blkV12 a||blkV12 b):=by unfold blkV12;rw [List.any_append]
theorem chkT_rep (T:List UInt8) (c:AskR) (Ps:List (List Ru×Bool)): ∀ k,k<=Ps.length->(chkT T c ((repA Ps).take k)).length=(chkT T c (Ps.take k)).length/\blkV12 (chkT T c ((repA Ps).take k))=false:=by
 intro k
 induction k with
 | zero=>intro _;exact ⟨rfl,rfl⟩
 | succ k ih=>
   intro hk;obtain ⟨h1,h2⟩:=ih (by omega)
   have e:(repA Ps)[k]'(by rw [repA_len];omega)=((Ps[k]'(by omega)).1,true):=by simp [repA]
   rw [chkT_take T c Ps k (by omega),chkT_take T c (repA Ps) k (by rw [repA_len];omega),e,List.length_append,List.length_append,chkF_replen,h1,blk_app12,h2,chkF_rep];exact ⟨rfl,rfl⟩
theorem chkV_rep_len (Ps:List (List Ru×Bool)) (a:AskR):(chkV (repA Ps) a).length=(chkV Ps a).length:=by
 have h:=(chkT_rep (toldV12 a.url a.page) (countA a) Ps Ps.length (Nat.le_refl _)).1;rw [List.take_length,<- repA_len Ps,List.take_length] at h
 exact h
theorem chkV_rep_blk (Ps:List (List Ru×Bool)) (a:AskR):blkV12 (chkV (repA Ps) a)=false:=by
 have h:=(chkT_rep (toldV12 a.url a.page) (countA a) Ps Ps.length (Nat.le_refl _)).2;rw [<- repA_len Ps,List.take_length] at h;exact h
theorem chkV_snoc12 (Ps:List (List Ru×Bool)) (q:List Ru×Bool) (a:AskR): ∃ X,chkV (Ps++[q]) a=chkV Ps a++X/\X.length<=1:=by
 refine ⟨_,chkT_snoc _ _ _ _,?_⟩
 unfold chkF;split<;>simp
theorem chkV_more (Ps:List (List Ru×Bool)) (q:List Ru×Bool) (a:AskR):(chkV Ps a).length<=(chkV (Ps++[q]) a).length/\(chkV (Ps++[q]) a).take (chkV Ps a).length=chkV Ps a/\(blkV12 (chkV Ps a)=true->blkV12 (chkV (Ps++[q]) a)=true):=by
 obtain ⟨X,e,_⟩:=chkV_snoc12 Ps q a
 rw [e];refine ⟨by simp,by simp,fun h=> ?_⟩
 rw [blk_app12,h,Bool.true_or]
theorem chkV_le (Ps:List (List Ru×Bool)) (a:AskR):(chkV Ps a).length<=Ps.length:=by
 have H: ∀ k,k<=Ps.length->(chkT (toldV12 a.url a.page) (countA a) (Ps.take k)).length<=k:=by
  intro k
  induction k with
  | zero=>intro _;exact Nat.le_refl _
  | succ k ih=>
    intro hk;have h1:=ih (by omega)
    rw [chkT_take _ _ Ps k (by omega),List.length_append];have h2:(chkF (toldV12 a.url a.page) (countA a) k (Ps[k]'(by omega))).length<=1:=by unfold chkF;split<;>simp
    omega
 have:=H Ps.length (Nat.le_refl _);rw [List.take_length] at this;exact this
def repK (Ps:List (List Ru×Bool)) (k:Nat):List (List Ru×Bool):=repA (Ps.take k)++Ps.drop k
theorem repK_zero (Ps:List (List Ru×Bool)):repK Ps 0=Ps:=rfl
theorem repK_all (Ps:List (List Ru×Bool)):repK Ps Ps.length=repA Ps:=by unfold repK;rw [List.take_length,List.drop_length,List.append_nil]
theorem repK_len (Ps:List (List Ru×Bool)) (k:Nat):(repK Ps k).length=Ps.length:=by unfold repK;rw [List.length_append,repA_len,<- List.length_append,List.take_append_drop]
theorem repK_at (Ps:List (List Ru×Bool)) (k j:Nat) (h:j<Ps.length):(repK Ps k)[j]'(by rw [repK_len];exact h)=(Ps[j].1,if j<k then true else Ps[j].2):=by
 unfold repK repA;by_cases hj:j<k
 ·rw [List.getElem_append_left (by rw [List.length_map,List.length_take];omega)]
  simp [hj]
 ·rw [List.getElem_append_right (by rw [List.length_map,List.length_take];omega)]
  simp only [List.length_map,List.length_take,List.getElem_drop,if_neg hj]
  have e:k+(j - min k Ps.length)=j:=by omega
  simp only [e]
theorem own_set12 {w:World} {B size n i b cap:Nat} {e:TypeId} {xs:List Value} {u:Value} (h:w.ownsRow B e size (.slice (some ⟨b,0,none⟩) n cap) n xs) (hi:i<n*size):(w.setCell ⟨b,i,none⟩ u).ownsRow B e size (.slice (some ⟨b,0,none⟩) n cap) n (xs.set i u):=by
 rcases h.2 with ⟨hv,_⟩ | ⟨g,c2,cur,hv,hbg,hg,hnc,hcm,hcs,htake⟩
 ·cases hv
 ·injection hv with e1 e2 e3
  injection e1 with e1
  injection e1 with e1
  subst e1;subst e3;refine ⟨by rw [List.length_set];exact h.1,Or.inr ⟨b,cap,cur.setIfInBounds i u,rfl,hbg,Lib.heap_setCell_same hg (i:=i) u,hnc,hcm,by rw [Array.size_setIfInBounds];exact hcs,?_⟩⟩
  rw [Array.toList_setIfInBounds,<- htake,List.take_set]
theorem RdW.rep {w0 w:World} {B B' b k:Nat} {cap:Nat} {P:List (Value×Bool)} {Ps:List (List Ru×Bool)} (hown:w.ownsRow B 39 2 (.slice (some ⟨b,0,none⟩) Ps.length cap) Ps.length (cellsP P)) (hr:RdW w0 w B' P (repK Ps k)) (hk:k<Ps.length):
 ∃ P',(w.setCell ⟨b,k*2+1,none⟩ (.bool true)).ownsRow B 39 2 (.slice (some ⟨b,0,none⟩) Ps.length cap) Ps.length (cellsP P')/\RdW w0 (w.setCell ⟨b,k*2+1,none⟩ (.bool true)) B' P' (repK Ps (k+1)):=by
 have hP:P.length=Ps.length:=by rw [hr.1,repK_len]
 have hkP:k<P.length:=by omega
 obtain ⟨cur0,hcur0⟩:=ownsRow_kind hown b rfl
 refine ⟨P.set k (P[k].1,true),?_,by rw [List.length_set,hP,repK_len],fun j h1 h2=> ?_⟩
 ·have e:cellsP (P.set k (P[k].1,true))=(cellsP P).set (k*2+1) (.bool true):=by
   refine List.ext_getElem? fun i=> ?_
   rcases Nat.lt_or_ge i (P.length*2) with hi | hi
   ·have hq:i / 2<P.length:=by omega
    have hq2:i / 2<(P.set k (P[k].1,true)).length:=by rw [List.length_set];exact hq
    obtain ⟨a1,a2⟩:=cellsP_at P (i / 2) hq
    obtain ⟨b1,b2⟩:=cellsP_at (P.set k (P[k].1,true)) (i / 2) hq2
    rw [List.getElem_set] at b1 b2;rcases Nat.mod_two_eq_zero_or_one i with hm | hm
    ·have ei:i=i / 2*2:=by omega
     rw [List.getElem?_set_ne (by omega)];rw [ei,a1,b1]
     split
     ·rename_i h;subst h;rfl
     ·rfl
    ·have ei:i=i / 2*2+1:=by omega
     by_cases hki:k=i / 2
     ·rw [if_pos hki] at b2
      have:k*2+1=i:=by omega
      rw [this,List.getElem?_set_self (by rw [cellsP_len];omega)]
      rw [ei,b2]
     ·rw [if_neg hki] at b2
      rw [List.getElem?_set_ne (by omega)];rw [ei,a2,b2]
   ·rw [List.getElem?_eq_none (by rw [cellsP_len,List.length_set];omega),List.getElem?_eq_none (by rw [List.length_set,cellsP_len];omega)]
  rw [e];exact own_set12 hown (by omega)
 ·have hj:j<P.length:=by rw [List.length_set] at h1;exact h1
  have hj2:j<(repK Ps k).length:=by rw [<- hr.1];exact hj
  have hjp:j<Ps.length:=by omega
  obtain ⟨g1,g2⟩:=hr.2 j hj hj2
  have r1:=repK_at Ps k j hjp;have r2:=repK_at Ps (k+1) j hjp;rw [r1] at g1 g2;rw [r2];have hkeep:OnW w0 (w.setCell ⟨b,k*2+1,none⟩ (.bool true)) B' P[j].1 Ps[j].1:=g2.keptB fun g cur fz hg=>by
   refine heap_setCell_other _ _ _ _ fun e=> ?_
   have e2:g=b:=e;subst e2;rw [hcur0] at hg;injection hg with hg
   injection hg with _ hg _
   exact absurd hg (by decide)
  rw [List.getElem_set];split
  ·rename_i h;subst h
   exact ⟨by simp,hkeep⟩
  ·rename_i h
   refine ⟨?_,hkeep⟩
   rw [g1];by_cases hjk:j<k
   ·simp [hjk,Nat.lt_succ_of_lt hjk]
   ·have: ¬ j<k+1:=by omega
    simp [hjk,this]
end Go.Proofs.YtijpkalkfbejeaaGreatDoor
