/- Walks and plain facts. -/
import Derived.Test.YtijpkalkfbejeaaGreatDoorQm34
import Derived.Test.YtijpkalkfbejeaaGreatDoorQm35
set_option linter.unusedSimpArgs false
set_option linter.unusedVariables false
set_option maxHeartbeats 16000000
set_option maxRecDepth 100000

namespace Go.Proofs.YtijpkalkfbejeaaGreatDoor
open Go.RowKit
theorem PlAt.view12 {w:World} {v:Value} {Ps:List (List Ru×Bool)} (h:PlAt w v Ps): ∃ a cap,v = .slice a Ps.length cap/\Ps.length<=cap/\cap<=maxLen /\ ∀ j (hj:j<Ps.length),∃ b off ua uc,a=some ⟨b,off,none⟩/\w.cell? ⟨b,off+j*2,none⟩=some (.slice ua Ps[j].1.length uc)/\w.cell? ⟨b,off+j*2+1,none⟩=some (.bool Ps[j].2)/\PoAt w (.slice ua Ps[j].1.length uc) Ps[j].1:=h
theorem enters_add12: ∀ args w,(callFunc 18 args).run Tryz.prog w = .ok (.enter 18 args) w:=enters_of Tryz.func18 (by kernel_rfl) rfl
def chkF (T:List UInt8) (c:AskR) (i:Nat) (q:List Ru×Bool):List Vio:=match brkA q.1 c with
 | none=>[]
 | some r=>[⟨(i:Int),r,T,q.2⟩]
def chkT (T:List UInt8) (c:AskR) (Ps:List (List Ru×Bool)):List Vio:=Ps.zipIdx.flatMap fun x=>chkF T c x.2 x.1
def chkV (Ps:List (List Ru×Bool)) (a:AskR):List Vio:=chkT (toldV12 a.url a.page) (countA a) Ps
theorem chkT_snoc (T:List UInt8) (c:AskR) (Ps:List (List Ru×Bool)) (q:List Ru×Bool):chkT T c (Ps++[q])=chkT T c Ps++chkF T c Ps.length q:=by
 unfold chkT;rw [List.zipIdx_append,List.flatMap_append]
 simp
theorem chkT_take (T:List UInt8) (c:AskR) (Ps:List (List Ru×Bool)) (k:Nat) (h:k<Ps.length):chkT T c (Ps.take (k+1))=chkT T c (Ps.take k)++chkF T c k Ps[k]:=by
 rw [List.take_add_one,List.getElem?_eq_getElem h]
 show chkT T c (Ps.take k++[Ps[k]])=_;rw [chkT_snoc,List.length_take,Nat.min_eq_left (Nat.le_of_lt h)]
theorem chkF_none {T:List UInt8} {c:AskR} {i:Nat} {q:List Ru×Bool} (h:brkA q.1 c=none):chkF T c i q=[]:=by unfold chkF;rw [h]
theorem chkF_some {T:List UInt8} {c:AskR} {i:Nat} {q:List Ru×Bool} {r:List UInt8} (h:brkA q.1 c=some r):chkF T c i q=[⟨(i:Int),r,T,q.2⟩]:=by unfold chkF;rw [h]
theorem chkF_len (T:List UInt8) (c:AskR) (i:Nat) (q:List Ru×Bool):(chkF T c i q).length<=1:=by
 unfold chkF;split<;>simp
theorem chkT_len (T:List UInt8) (c:AskR) (Ps:List (List Ru×Bool)): ∀ k,k<=Ps.length->(chkT T c (Ps.take k)).length<=k:=by
 intro k
 induction k with
 | zero=>intro _;simp [chkT]
 | succ k ih=>
   intro hk;rw [chkT_take T c Ps k (by omega),List.length_append];have:=ih (by omega)
   have:=chkF_len T c k (Ps[k]'(by omega))
   omega
theorem GvI.same {w w':World} {p:Nat} {L:List Vio} (h:GvI w p L) (hk: ∀ (k:Nat) (cur:Array Value) (U:TypeId) (fz:Nat×Nat),w.heap[k]? = some (Obj.cells cur U fz)->(U=58∨U=44)->w'.heap[k]? = w.heap[k]?):GvI w' p L:=by
 obtain ⟨a,c,h1,h2⟩:=h
 refine ⟨a,c,(hk _ _ _ _ h1 (.inl rfl)).trans h1,ownsRow_same h2 fun g hg=> ?_⟩
 obtain ⟨cur,hc⟩:=ownsRow_kind h2 g hg
 exact hk _ _ _ _ hc (.inr rfl)
theorem GvI.kept {w w':World} {p:Nat} {L:List Vio} (h:GvI w p L) (hb:Below w.heap.size w w'):GvI w' p L:=h.same fun k _ _ _ hk _=>hb.block k (Array.getElem?_eq_some_iff.1 hk).1
def HlI (w0:World) (p b0:Nat) (c:AskR) (L:List Vio) (wr:World):Prop:=
 GvI wr p L/\Below w0.heap.size w0 wr/\wr.heap[b0]? = some (.cells (askCells c).toArray 34 (0,0))
theorem HlI.kept {w0 wr w':World} {p b0:Nat} {c:AskR} {L:List Vio} (h:HlI w0 p b0 c L wr) (hb:Below wr.heap.size wr w'):HlI w0 p b0 c L w':=
 ⟨h.1.kept hb,below2 h.2.1 hb,row_kept h.2.2 hb⟩
theorem HlI.add {w0 wr w':World} {p b0:Nat} {c:AskR} {L M:List Vio} (h:HlI w0 p b0 c L wr) (hI:GvI w' p M) (hK:GvK p wr w') (hp:w0.heap.size<=p) (hne:b0≠p):HlI w0 p b0 c M w':=
 ⟨hI,h.2.1.trans (hK.1.mono hp),(hK.2 _ _ _ _ h.2.2 (by decide) hne).trans h.2.2⟩
theorem setCells_all12 {w:World} {b:Nat} {t:TypeId} {D:Array Value} (vs:List Value) (h:w.heap[b]? = some (.cells D t (0,0))) (hs:D.size=vs.length):(w.setCells b 0 vs).heap[b]? = some (.cells vs.toArray t (0,0)):=by
 obtain ⟨E,e1,e2,_,e4⟩:=setCells_heap b t (0,0) vs 0 w D h
 rw [e1];have:E=vs.toArray:=by
  refine Array.ext_getElem? fun j=> ?_
  by_cases hj:j<vs.length
  ·have:=e4 j hj (by omega)
   rw [Nat.zero_add] at this;rw [this];simp
  ·rw [Array.getElem?_eq_none (by omega),Array.getElem?_eq_none (by simpa using Nat.le_of_not_lt hj)]
 rw [this]
theorem countA_same (a:AskR): ∃ n2 m2,countA a={ a with nonce:=n2,data:=m2 }/\(a.nonce.size<=1000000->n2.size<=1000000)/\(a.data.size<=1000000->m2.size<=1000000):=by
 unfold countA;split
 ·exact ⟨a.nonce,a.data,rfl,fun h=>h,fun h=>h⟩
 ·exact ⟨⟨#[]⟩,⟨#[]⟩,rfl,fun _=>by decide,fun _=>by decide⟩
theorem hold12_any (v:Value) (Ps:List (List Ru×Bool)) (a:AskR) (p:Nat) (w0 w:World) (hp0:w0.heap.size<=p) (hb0:Below w0.heap.size w0 w) (hI:GvI w p []) (hg:Gd w0) (hv:PlAt w0 v Ps) (hl:Ps.length<=1000) (hz: ∀ q ∈ Ps,SzL q.1) (ha:AskAt w0 a) (hk:AkOk a):
 Calls Tryz.prog 17 #[v,askVal a,.func (.func 18) #[.pointer (some ⟨p,0,none⟩)] #[]] w fun e w'=>e = .returned (.tuple #[])/\GvI w' p (chkV Ps a)/\Below w0.heap.size w0 w':=by
 have eg:=enters_add12;obtain ⟨la,lc,rfl,_,_,_⟩:=hv.view12
 have HPl:=hid hv;obtain ⟨page,pv,url,uv,dt,hp,nn,mm⟩:=a
 have HAa:=hid ha;have HAk:=hid hk;obtain ⟨hp1,hp2⟩:=ha
 obtain ⟨kp,ku,kn,km⟩:=hk
 dsimp only at hp1 hp2 kp ku kn km;obtain ⟨pa,pn,pc,rfl⟩:=path_sl hp1
 obtain ⟨ya,yn,yc,rfl⟩:=path_sl hp2
 obtain ⟨n2,m2,hco,hn2,hm2⟩:=countA_same ⟨page,.slice pa pn pc,url,.slice ya yn yc,dt,hp,nn,mm⟩
 dsimp only at hco hn2 hm2;have HAc:Hid (∀ Z:World,Below w0.heap.size w0 Z->AskAt Z ⟨page,.slice pa pn pc,url,.slice ya yn yc,dt,hp,n2,m2⟩):=fun Z hZ=>⟨hp1.kept hZ,hp2.kept hZ⟩
 have HKc:=hid (show AkOk ⟨page,.slice pa pn pc,url,.slice ya yn yc,dt,hp,n2,m2⟩ from ⟨kp,ku,hn2 kn,hm2 km⟩);have HCo:=hid (fun (Z:World) (hZ:Below w0.heap.size w0 Z)=>counted12_any ⟨page,.slice pa pn pc,url,.slice ya yn yc,dt,hp,nn,mm⟩ Z ⟨hp1.kept hZ,hp2.kept hZ⟩);rw [hco] at HCo;have HTo:=hid (fun (Z:World) (hZ:Below w0.heap.size w0 Z)=>told12_any url page (.slice ya yn yc) (.slice pa pn pc) Z (hg.kept hZ) (hp2.kept hZ) (hp1.kept hZ) ku.tl kp.tl.tr);obtain ⟨TB,hTB⟩: ∃ B:ByteArray,⟨(toldV12 url page).toArray⟩=B:=⟨_,rfl⟩
 rw [hTB] at HTo;have HGo:=hid (show chkV Ps ⟨page,.slice pa pn pc,url,.slice ya yn yc,dt,hp,nn,mm⟩=chkT TB.data.toList ⟨page,.slice pa pn pc,url,.slice ya yn yc,dt,hp,n2,m2⟩ Ps by unfold chkV;rw [hco,<- hTB]);have HBr:=hid (fun (x:Value) (q:List Ru×Bool) (Z:World) (hZ:Below w0.heap.size w0 Z) (hx:PoAt Z x q.1) (hq:SzL q.1)=>breaks12_any x q.2 q.1 ⟨page,.slice pa pn pc,url,.slice ya yn yc,dt,hp,n2,m2⟩ Z (hg.kept hZ) hx hq (HAc.out Z hZ) HKc.out);obtain ⟨p0,p1,p2,p3,p4,p5,p6,p8,p9,p10,p11,hxp⟩:=adr_cells page pa pn pc
 obtain ⟨y0,y1,y2,y3,y4,y5,y6,y8,y9,y10,y11,hxu⟩:=adr_cells url ya yn yc
 have hxa: ∀ x y:ByteArray,askCells ⟨page,.slice pa pn pc,url,.slice ya yn yc,dt,hp,x,y⟩=[.string p0,.string p1,.string p2,.string p3,.bool p4,.int .i64 p5,.bool p6,.slice pa pn pc,.string p8,.string p9,.bool p10,.bool p11,.string y0,.string y1,.string y2,.string y3,.bool y4,.int .i64 y5,.bool y6,.slice ya yn yc,.string y8,.string y9,.bool y10,.bool y11,.int .i64 dt,.int .i64 hp,.string x,.string y]:=fun x y=>by
  unfold askCells;dsimp only;rw [hxp,hxu];rfl
 have hva: ∀ x y:ByteArray,askVal ⟨page,.slice pa pn pc,url,.slice ya yn yc,dt,hp,x,y⟩ = .agg #[.string p0,.string p1,.string p2,.string p3,.bool p4,.int .i64 p5,.bool p6,.slice pa pn pc,.string p8,.string p9,.bool p10,.bool p11,.string y0,.string y1,.string y2,.string y3,.bool y4,.int .i64 y5,.bool y6,.slice ya yn yc,.string y8,.string y9,.bool y10,.bool y11,.int .i64 dt,.int .i64 hp,.string x,.string y]:=fun x y=>by unfold askVal;rw [hxa]
 have hvp:adrVal page (.slice pa pn pc) = .agg #[.string p0,.string p1,.string p2,.string p3,.bool p4,.int .i64 p5,.bool p6,.slice pa pn pc,.string p8,.string p9,.bool p10,.bool p11]:=by unfold adrVal;rw [hxp]
 have hvu:adrVal url (.slice ya yn yc) = .agg #[.string y0,.string y1,.string y2,.string y3,.bool y4,.int .i64 y5,.bool y6,.slice ya yn yc,.string y8,.string y9,.bool y10,.bool y11]:=by unfold adrVal;rw [hxu]
 rw [hva] at HCo ⊢;rw [hva] at HCo;rw [hva] at HBr;rw [hvu,hvp] at HTo
 obtain ⟨N,hN⟩: ∃ N,N=Ps.length:=⟨_,rfl⟩
 have HN:=hid hN;rw [<- hN] at hl ⊢;obtain ⟨W1,hW1⟩: ∃ X,(w.alloc (.cells #[.string p0,.string p1,.string p2,.string p3,.bool p4,.int .i64 p5,.bool p6,.slice pa pn pc,.string p8,.string p9,.bool p10,.bool p11,.string y0,.string y1,.string y2,.string y3,.bool y4,.int .i64 y5,.bool y6,.slice ya yn yc,.string y8,.string y9,.bool y10,.bool y11,.int .i64 dt,.int .i64 hp,.string nn,.string mm] 34))=X:=⟨_,rfl⟩
 have hb1:Below w.heap.size w W1:=by rw [<- hW1];exact (Below.refl _ w).alloc (Nat.le_refl _) _
 have hr1:W1.heap[w.heap.size]? = some (.cells ([.string p0,.string p1,.string p2,.string p3,.bool p4,.int .i64 p5,.bool p6,.slice pa pn pc,.string p8,.string p9,.bool p10,.bool p11,.string y0,.string y1,.string y2,.string y3,.bool y4,.int .i64 y5,.bool y6,.slice ya yn yc,.string y8,.string y9,.bool y10,.bool y11,.int .i64 dt,.int .i64 hp,.string nn,.string mm]:List Value).toArray 34 (0,0)):=by rw [<- hW1];exact heap_alloc_new w _
 have HRa:=hid (range_row hr1);have hpw:p<w.heap.size:=by obtain ⟨_,_,h1,_⟩:=hI;exact (Array.getElem?_eq_some_iff.1 h1).1
 have HNe:=hid (show w.heap.size≠p by omega);have HP0:=hid hp0;have HS0:=hid hb0.size;have HI1:=hid (hI.kept hb1);have HB1:=hid (below2 hb0 hb1);have HR1:=hid hr1;have HXc:=hid (hxa n2 m2);have HOne:=hid (show (#[.string p0,.string p1,.string p2,.string p3,.bool p4,.int .i64 p5,.bool p6,.slice pa pn pc,.string p8,.string p9,.bool p10,.bool p11,.string y0,.string y1,.string y2,.string y3,.bool y4,.int .i64 y5,.bool y6,.slice ya yn yc,.string y8,.string y9,.bool y10,.bool y11,.int .i64 dt,.int .i64 hp,.string n2,.string m2]:Array Value).all (·.oneCell')=true by
  have:=all_oneCell_toArray (askCells_one ⟨page,.slice pa pn pc,url,.slice ya yn yc,dt,hp,n2,m2⟩ ⟨_,_,_,rfl⟩ ⟨_,_,_,rfl⟩);rw [hxa] at this;exact this)
 have HXp:=hid hxp;have HXu:=hid hxu;have HZ:=hid hz;clear hp1 hp2 kp ku kn km hco hn2 hm2 hxp hxu hxa hva hvp hvu hN hb1 hr1 hpw hp0 hI hb0 hg hv hTB hz
 go_enter Tryz.func17,Tryz.ntmps17
 go_wp2_with (refine wpList_load_mid rfl 34 (.tmp 4) rfl w.heap.size 0 rfl [.string p0,.string p1,.string p2,.string p3,.bool p4,.int .i64 p5,.bool p6,.slice pa pn pc,.string p8,.string p9,.bool p10,.bool p11,.string y0,.string y1,.string y2,.string y3,.bool y4,.int .i64 y5,.bool y6,.slice ya yn yc,.string y8,.string y9,.bool y10,.bool y11,.int .i64 dt,.int .i64 hp,.string nn,.string mm] _ HRa.out Tryz.underlying34 rfl sizeA ?_)
 refine (HCo.out _ HB1.out).mono ?_;rintro e w2 ⟨rfl,hb2⟩
 have hr2:=row_kept HR1.out hb2;have HTh:=hid (show w2.there w.heap.size 0 28 from fun j hj=>⟨by rw [Nat.zero_add,Lib.cell_of_heap hr2];simp;omega,Lib.frozen_of_heap hr2 _⟩);obtain ⟨W3,hW3⟩: ∃ X,w2.setCells w.heap.size 0 [.string p0,.string p1,.string p2,.string p3,.bool p4,.int .i64 p5,.bool p6,.slice pa pn pc,.string p8,.string p9,.bool p10,.bool p11,.string y0,.string y1,.string y2,.string y3,.bool y4,.int .i64 y5,.bool y6,.slice ya yn yc,.string y8,.string y9,.bool y10,.bool y11,.int .i64 dt,.int .i64 hp,.string n2,.string m2]=X:=⟨_,rfl⟩
 have HW3:=hid hW3.symm;have HQ3:=hid (show HlI w0 p w.heap.size ⟨page,.slice pa pn pc,url,.slice ya yn yc,dt,hp,n2,m2⟩ [] W3 by
  have hb3:=below2 HB1.out hb2;have hI2:=HI1.out.kept hb2;refine ⟨hI2.same fun k cur U fz hk hU=> ?_,?_,?_⟩
  ·rw [<- hW3]
   refine setCells_far (fun e=> ?_) _ _ _;subst e;rw [hr2] at hk;injection hk with hk
   injection hk with _ hk _
   rcases hU with rfl | rfl
   ·exact absurd hk (by decide)
   ·exact absurd hk (by decide)
  ·rw [<- hW3]
   exact below_setCells (b:=w.heap.size) HS0.out _ 0 _ hb3
  ·rw [HXc.out,<- hW3]
   exact setCells_all12 _ hr2 (by simp))
 have HRu3:=hid (show W3.rangeAt w.heap.size 12 [.string y0,.string y1,.string y2,.string y3,.bool y4,.int .i64 y5,.bool y6,.slice ya yn yc,.string y8,.string y9,.bool y10,.bool y11] by
  have:=ask_url_rg HQ3.out.2.2;dsimp only at this;rw [HXu.out] at this;exact this)
 have HRp3:=hid (show W3.rangeAt w.heap.size 0 [.string p0,.string p1,.string p2,.string p3,.bool p4,.int .i64 p5,.bool p6,.slice pa pn pc,.string p8,.string p9,.bool p10,.bool p11] by
  have:=ask_page_rg HQ3.out.2.2;dsimp only at this;rw [HXp.out] at this;exact this)
 clear hb2 hr2 hW3 HCo HI1 HR1
 go_wp2_with (first | (refine wpList_store_mid rfl 34 (.tmp 4) (.tmp 12) rfl w.heap.size 0 #[.string p0,.string p1,.string p2,.string p3,.bool p4,.int .i64 p5,.bool p6,.slice pa pn pc,.string p8,.string p9,.bool p10,.bool p11,.string y0,.string y1,.string y2,.string y3,.bool y4,.int .i64 y5,.bool y6,.slice ya yn yc,.string y8,.string y9,.bool y10,.bool y11,.int .i64 dt,.int .i64 hp,.string n2,.string m2] rfl rfl HTh.out sizeA HOne.out ?_;refine wpList_worldO HW3.out ?_) | (refine wpList_load_mid rfl 24 (.tmp 13) rfl w.heap.size 12 rfl [.string y0,.string y1,.string y2,.string y3,.bool y4,.int .i64 y5,.bool y6,.slice ya yn yc,.string y8,.string y9,.bool y10,.bool y11] _ HRu3.out Tryz.underlying24 rfl sizeU ?_) | (refine wpList_load_mid rfl 24 (.tmp 15) rfl w.heap.size 0 rfl [.string p0,.string p1,.string p2,.string p3,.bool p4,.int .i64 p5,.bool p6,.slice pa pn pc,.string p8,.string p9,.bool p10,.bool p11] _ HRp3.out Tryz.underlying24 rfl sizeU ?_))
 refine (HTo.out _ HQ3.out.2.1).mono ?_;rintro e w4 ⟨rfl,hb4⟩
 have HJ:=hid (show HlI w0 p w.heap.size ⟨page,.slice pa pn pc,url,.slice ya yn yc,dt,hp,n2,m2⟩ (chkT TB.data.toList ⟨page,.slice pa pn pc,url,.slice ya yn yc,dt,hp,n2,m2⟩ (Ps.take 0)) w4 from HQ3.out.kept hb4);clear hb4 HTo HRu3 HRp3 HTh HW3 HQ3
 go_wp2_with fail
 go_loopw [20] (fun vi wr=> ∃ k:Nat,k<=N/\vi = .int .i64 k/\Hid (HlI w0 p w.heap.size ⟨page,.slice pa pn pc,url,.slice ya yn yc,dt,hp,n2,m2⟩ (chkT TB.data.toList ⟨page,.slice pa pn pc,url,.slice ya yn yc,dt,hp,n2,m2⟩ (Ps.take k)) wr)) (fun vi _=>N - (intOf vi).toNat)
 case atStart=>exact ⟨0,Nat.zero_le _,rfl,HJ.out⟩
 case round=>
  clear HJ;obtain ⟨k,hk,rfl,HR⟩:=hrel
  by_cases hlt:k<N
  ·have hkP:k<Ps.length:=by have:=HN.out;omega
   have hlt':(k:Int)<(N:Int):=by omega
   obtain ⟨la',lc',e1,_,_,hcell⟩:=(HPl.out.kept HR.out.2.1).view12
   injection e1 with e1 e2 e3
   clear e2 e3;subst e1;obtain ⟨g,o,xa,xc,rfl,c0,c1,hpo⟩:=hcell k hkP
   obtain ⟨LR,hLR⟩: ∃ x,Ps[k].1=x:=⟨_,rfl⟩
   obtain ⟨rp,hrp⟩: ∃ x,Ps[k].2=x:=⟨_,rfl⟩
   have hq:Ps[k]=(LR,rp):=by rw [<- hLR,<- hrp]
   have HD0:=hid (show chkT TB.data.toList ⟨page,.slice pa pn pc,url,.slice ya yn yc,dt,hp,n2,m2⟩ (Ps.take (k+1))=chkT TB.data.toList ⟨page,.slice pa pn pc,url,.slice ya yn yc,dt,hp,n2,m2⟩ (Ps.take k)++chkF TB.data.toList ⟨page,.slice pa pn pc,url,.slice ya yn yc,dt,hp,n2,m2⟩ k (LR,rp) by rw [chkT_take _ _ Ps k hkP,hq]);have hsz:=HZ.out _ (List.getElem_mem hkP);rw [hLR] at hpo c0 hsz;rw [hrp] at c1;obtain ⟨xn,hxn⟩: ∃ x,LR.length=x:=⟨_,rfl⟩
   rw [hxn] at hpo c0;obtain ⟨W5,hW5⟩: ∃ X,(wr.alloc (.cells #[.slice xa xn xc,.bool rp] 39))=X:=⟨_,rfl⟩
   have hb5:Below wr.heap.size wr W5:=by rw [<- hW5];exact (Below.refl _ wr).alloc (Nat.le_refl _) _
   have hr5:W5.heap[wr.heap.size]? = some (.cells #[.slice xa xn xc,.bool rp] 39 (0,0)):=by rw [<- hW5];exact heap_alloc_new wr _
   have HQ5:=hid (HR.out.kept hb5);have HR5:=hid hr5;have dd0:W5.cell? ⟨wr.heap.size,0,none⟩=some (.slice xa xn xc):=by rw [Lib.cell_of_heap hr5];rfl
   have dd1:W5.cell? ⟨wr.heap.size,1,none⟩=some (.bool rp):=by rw [Lib.cell_of_heap hr5];rfl
   have HRc:=hid (show W5.rangeAt w.heap.size 0 [.string p0,.string p1,.string p2,.string p3,.bool p4,.int .i64 p5,.bool p6,.slice pa pn pc,.string p8,.string p9,.bool p10,.bool p11,.string y0,.string y1,.string y2,.string y3,.bool y4,.int .i64 y5,.bool y6,.slice ya yn yc,.string y8,.string y9,.bool y10,.bool y11,.int .i64 dt,.int .i64 hp,.string n2,.string m2] by
    have:=range_row HQ5.out.2.2;rw [HXc.out] at this;exact this)
   have HBk:=hid (HBr.out (.slice xa xn xc) (LR,rp) W5 HQ5.out.2.1 (hpo.kept hb5) hsz);dsimp only at HBk;obtain ⟨ro,hro⟩: ∃ x,brkA LR ⟨page,.slice pa pn pc,url,.slice ya yn yc,dt,hp,n2,m2⟩=x:=⟨_,rfl⟩
   rw [hro] at HBk;have HRo:=hid hro;have HKP:=hid hkP;unfold BrPost at HBk;clear hcell hLR hrp hq hsz hxn hpo hb5 hr5 hkP hro
   cases ro with
   | none=>
     have HD:=hid (show chkT TB.data.toList ⟨page,.slice pa pn pc,url,.slice ya yn yc,dt,hp,n2,m2⟩ (Ps.take (k+1))=chkT TB.data.toList ⟨page,.slice pa pn pc,url,.slice ya yn yc,dt,hp,n2,m2⟩ (Ps.take k) by rw [HD0.out,chkF_none HRo.out,List.append_nil]);clear HD0
     go_wp2_with (refine wpList_load_mid rfl 34 (.tmp 4) rfl w.heap.size 0 rfl [.string p0,.string p1,.string p2,.string p3,.bool p4,.int .i64 p5,.bool p6,.slice pa pn pc,.string p8,.string p9,.bool p10,.bool p11,.string y0,.string y1,.string y2,.string y3,.bool y4,.int .i64 y5,.bool y6,.slice ya yn yc,.string y8,.string y9,.bool y10,.bool y11,.int .i64 dt,.int .i64 hp,.string n2,.string m2] _ HRc.out Tryz.underlying34 rfl sizeA ?_)
     refine HBk.out.mono ?_;rintro e w6 ⟨rfl,hb6⟩
     have HQ6:=hid (HQ5.out.kept hb6);clear hb6
     go_wp2_with fail
     go_roundw
     case rel=>
      first
       | exact ⟨k+1,by omega,by go_num,by rw [HD.out];exact HQ6.out⟩
       | ((repeat apply Exists.intro);refine ⟨?_,rfl⟩;exact ⟨k+1,by omega,by go_num,by rw [HD.out];exact HQ6.out⟩)
       | ((repeat apply Exists.intro);exact ⟨⟨k+1,by omega,by go_num,by rw [HD.out];exact HQ6.out⟩,rfl⟩)
     case measure=>simp [intOf];omega
   | some r=>
     have HD:=hid (show chkT TB.data.toList ⟨page,.slice pa pn pc,url,.slice ya yn yc,dt,hp,n2,m2⟩ (Ps.take (k+1))=chkT TB.data.toList ⟨page,.slice pa pn pc,url,.slice ya yn yc,dt,hp,n2,m2⟩ (Ps.take k)++[⟨(k:Int),r,TB.data.toList,rp⟩] by rw [HD0.out,chkF_some HRo.out]);clear HD0;obtain ⟨RB,hRB⟩: ∃ B:ByteArray,⟨r.toArray⟩=B:=⟨_,rfl⟩
     have hgd:(⟨((some r).getD []).toArray⟩:ByteArray)=RB:=hRB;rw [hgd] at HBk;have HVi:=hid (show vioVal ⟨(k:Int),r,TB.data.toList,rp⟩ = .agg #[.int .i64 (k:Int),.string RB,.string TB,.bool rp] by
      unfold vioVal vioCells;rw [<- hRB])
     clear hgd hRB
     go_wp2_with (refine wpList_load_mid rfl 34 (.tmp 4) rfl w.heap.size 0 rfl [.string p0,.string p1,.string p2,.string p3,.bool p4,.int .i64 p5,.bool p6,.slice pa pn pc,.string p8,.string p9,.bool p10,.bool p11,.string y0,.string y1,.string y2,.string y3,.bool y4,.int .i64 y5,.bool y6,.slice ya yn yc,.string y8,.string y9,.bool y10,.bool y11,.int .i64 dt,.int .i64 hp,.string n2,.string m2] _ HRc.out Tryz.underlying34 rfl sizeA ?_)
     refine HBk.out.mono ?_;rintro e w6 ⟨rfl,hb6⟩
     have HQ6:=hid (HQ5.out.kept hb6);have hr6:=row_kept HR5.out hb6;have d1:w6.cell? ⟨wr.heap.size,1,none⟩=some (.bool rp):=by rw [Lib.cell_of_heap hr6];rfl
     have HAd:=hid (add12_any p (chkT TB.data.toList ⟨page,.slice pa pn pc,url,.slice ya yn yc,dt,hp,n2,m2⟩ (Ps.take k)) ⟨(k:Int),r,TB.data.toList,rp⟩ w6 HQ6.out.1 (by have:=chkT_len TB.data.toList ⟨page,.slice pa pn pc,url,.slice ya yn yc,dt,hp,n2,m2⟩ Ps k (Nat.le_of_lt HKP.out);omega));rw [HVi.out] at HAd;clear hb6 hr6
     go_wp2_with fail
     refine HAd.out.mono ?_;rintro e w7 ⟨rfl,hI7,hK7⟩
     have HQ7:=hid (HQ6.out.add hI7 hK7 HP0.out HNe.out);clear hI7 hK7
     go_wp2_with fail
     go_roundw
     case rel=>
      first
       | exact ⟨k+1,by omega,by go_num,by rw [HD.out];exact HQ7.out⟩
       | ((repeat apply Exists.intro);refine ⟨?_,rfl⟩;exact ⟨k+1,by omega,by go_num,by rw [HD.out];exact HQ7.out⟩)
       | ((repeat apply Exists.intro);exact ⟨⟨k+1,by omega,by go_num,by rw [HD.out];exact HQ7.out⟩,rfl⟩)
     case measure=>simp [intOf];omega
  ·obtain rfl:k=N:=by omega
   have hall:Ps.take k=Ps:=List.take_of_length_le (by have:=HN.out;omega)
   rw [hall] at HR;clear hall
   go_wp2_with fail
   go_end0
   exact ⟨rfl,by rw [HGo.out];exact HR.out.1,HR.out.2.1⟩
def CkPost (L:List Vio) (w:World) (e:Ending) (w':World):Prop:= ∃ u,e = .returned u/\VlAt w' u L/\Below w.heap.size w w'
theorem check12_any (v:Value) (Ps:List (List Ru×Bool)) (a:AskR) (w:World) (hg:Gd w) (hv:PlAt w v Ps) (hl:Ps.length<=1000) (hz: ∀ q ∈ Ps,SzL q.1) (ha:AskAt w a) (hk:AkOk a):
 Calls Tryz.prog 9 #[v,askVal a] w (CkPost (chkV Ps a) w):=by
 have hmf: ∀ (fn:Fn) (first cap:Array Value) (w:World),(Instr.makeFunc fn first cap).run Tryz.prog w = .ok (.func fn first cap) w:=fun _ _ _ _=>rfl
 have HHo:=hid (fun (p:Nat) (Z:World) (h1:w.heap.size<=p) (h2:Below w.heap.size w Z) (h3:GvI Z p [])=>hold12_any v Ps a p w Z h1 h2 h3 hg hv hl hz ha hk);obtain ⟨la,lc,rfl,_,_,_⟩:=hv.view12
 obtain ⟨VS,hVS⟩: ∃ x,chkV Ps a=x:=⟨_,rfl⟩
 rw [hVS] at HHo ⊢;obtain ⟨page,pv,url,uv,dt,hp,nn,mm⟩:=a
 obtain ⟨hp1,hp2⟩:=ha
 dsimp only at hp1 hp2;obtain ⟨pa,pn,pc,rfl⟩:=path_sl hp1
 obtain ⟨ya,yn,yc,rfl⟩:=path_sl hp2
 obtain ⟨p0,p1,p2,p3,p4,p5,p6,p8,p9,p10,p11,hxp⟩:=adr_cells page pa pn pc
 obtain ⟨y0,y1,y2,y3,y4,y5,y6,y8,y9,y10,y11,hxu⟩:=adr_cells url ya yn yc
 have hxa:askCells ⟨page,.slice pa pn pc,url,.slice ya yn yc,dt,hp,nn,mm⟩=[.string p0,.string p1,.string p2,.string p3,.bool p4,.int .i64 p5,.bool p6,.slice pa pn pc,.string p8,.string p9,.bool p10,.bool p11,.string y0,.string y1,.string y2,.string y3,.bool y4,.int .i64 y5,.bool y6,.slice ya yn yc,.string y8,.string y9,.bool y10,.bool y11,.int .i64 dt,.int .i64 hp,.string nn,.string mm]:=by
  unfold askCells;dsimp only;rw [hxp,hxu];rfl
 have hva:askVal ⟨page,.slice pa pn pc,url,.slice ya yn yc,dt,hp,nn,mm⟩ = .agg #[.string p0,.string p1,.string p2,.string p3,.bool p4,.int .i64 p5,.bool p6,.slice pa pn pc,.string p8,.string p9,.bool p10,.bool p11,.string y0,.string y1,.string y2,.string y3,.bool y4,.int .i64 y5,.bool y6,.slice ya yn yc,.string y8,.string y9,.bool y10,.bool y11,.int .i64 dt,.int .i64 hp,.string nn,.string mm]:=by unfold askVal;rw [hxa]
 rw [hva] at HHo ⊢;obtain ⟨N,hN⟩: ∃ N,Ps.length=N:=⟨_,rfl⟩
 rw [hN] at HHo ⊢;obtain ⟨W1,hW1⟩: ∃ X,(w.alloc (.cells #[.string p0,.string p1,.string p2,.string p3,.bool p4,.int .i64 p5,.bool p6,.slice pa pn pc,.string p8,.string p9,.bool p10,.bool p11,.string y0,.string y1,.string y2,.string y3,.bool y4,.int .i64 y5,.bool y6,.slice ya yn yc,.string y8,.string y9,.bool y10,.bool y11,.int .i64 dt,.int .i64 hp,.string nn,.string mm] 34))=X:=⟨_,rfl⟩
 have hb1:Below w.heap.size w W1:=by rw [<- hW1];exact (Below.refl _ w).alloc (Nat.le_refl _) _
 have hs1:W1.heap.size=w.heap.size+1:=by rw [<- hW1];simp
 have hr1:W1.heap[w.heap.size]? = some (.cells ([.string p0,.string p1,.string p2,.string p3,.bool p4,.int .i64 p5,.bool p6,.slice pa pn pc,.string p8,.string p9,.bool p10,.bool p11,.string y0,.string y1,.string y2,.string y3,.bool y4,.int .i64 y5,.bool y6,.slice ya yn yc,.string y8,.string y9,.bool y10,.bool y11,.int .i64 dt,.int .i64 hp,.string nn,.string mm]:List Value).toArray 34 (0,0)):=by rw [<- hW1];exact heap_alloc_new w _
 obtain ⟨W2,hW2⟩: ∃ X,(W1.alloc (.cells #[.slice none 0 0] 58))=X:=⟨_,rfl⟩
 have hb2:Below W1.heap.size W1 W2:=by rw [<- hW2];exact (Below.refl _ W1).alloc (Nat.le_refl _) _
 have hI2:GvI W2 W1.heap.size []:=⟨none,0,by rw [<- hW2];exact heap_alloc_new W1 _,World.ownsRow_nil _ _ _ _⟩
 have HRa:=hid (range_row (row_kept hr1 hb2));have HH2:=hid (HHo.out W1.heap.size W2 (by omega) (below2 hb1 hb2) hI2);clear HHo hVS hp1 hp2 hxp hxu hxa hva hN hb1 hs1 hr1 hb2 hI2 hg hv hl hz hk
 go_enter Tryz.func9,Tryz.ntmps9
 go_wp2_with (refine wpList_load_mid rfl 34 (.tmp 3) rfl w.heap.size 0 rfl [.string p0,.string p1,.string p2,.string p3,.bool p4,.int .i64 p5,.bool p6,.slice pa pn pc,.string p8,.string p9,.bool p10,.bool p11,.string y0,.string y1,.string y2,.string y3,.bool y4,.int .i64 y5,.bool y6,.slice ya yn yc,.string y8,.string y9,.bool y10,.bool y11,.int .i64 dt,.int .i64 hp,.string nn,.string mm] _ HRa.out Tryz.underlying34 rfl sizeA ?_)
 refine HH2.out.mono ?_;rintro e w3 ⟨rfl,hI3,hb3⟩
 obtain ⟨ra,rc,hrow,hown⟩:=hI3
 have k0:w3.cell? ⟨W1.heap.size,0,none⟩=some (.slice ra VS.length rc):=by rw [Lib.cell_of_heap hrow];rfl
 have HVl:=hid (own_vl hown);clear hrow hown
 go_wp2_with fail
 go_ret
 exact ⟨_,rfl,HVl.out,hb3⟩
def chkW (Ps:List (List Ru×Bool)) (u p:Adr) (dt hops:Int) (n m:List UInt8):List Vio:=
 Ps.zipIdx.flatMap fun x=>match brkV x.1.1 u p dt hops (if dt=2∨dt=3 then n else []) (if dt=2∨dt=3 then m else []) with
  | none=>[]
  | some r=>[⟨(x.2:Int),r,toldV12 u p,x.1.2⟩]
theorem chkV_eq (Ps:List (List Ru×Bool)) (a:AskR):chkV Ps a=chkW Ps a.url a.page a.dest a.hops a.nonce.data.toList a.data.data.toList:=by
 unfold chkV chkT chkW chkF brkA countA;split
 ·rfl
 ·rfl
theorem szl_pol (s:List UInt8) (h:s.length<=1000000):SzL (polV s):=by
 refine ⟨by have:=polV_len s;omega,fun r hr=> ?_⟩
 have:=polV_sz s r hr;exact ⟨by omega,fun x hx=>by have:=this.2.2 x hx;omega⟩
theorem check_at12 (v:Value) (Ps:List (List Ru×Bool)) (a:AskR) (L:List Vio) (k:Nat) (w:World) (hg:Gd w) (hv:PlAt w v Ps) (hl:Ps.length<=1000) (hz: ∀ q ∈ Ps,SzL q.1) (ha:AskAt w a) (hk:AkOk a) (h:chkV Ps a=L) (hk2:L.length=k):
 Calls Tryz.prog 9 #[v,askVal a] w fun e w'=> ∃ b c,e = .returned (.slice b k c)/\VlAt w' (.slice b k c) L/\Below w.heap.size w w':=by
 refine (check12_any v Ps a w hg hv hl hz ha hk).mono ?_;rintro e w' ⟨u,rfl,hu,hb⟩
 rw [h] at hu;obtain ⟨b,c,rfl,h1,h2,h3⟩:=hu.view
 subst hk2;exact ⟨b,c,rfl,⟨b,c,rfl,h1,h2,h3⟩,hb⟩
theorem pl_one12 {w:World} {a:Option Addr} {n c:Nat} {L:List Ru} (rp:Bool) (h:PoAt w (.slice a n c) L) (hn:L.length=n):PlAt (w.alloc (.cells #[.slice a n c,.bool rp] 39)) (.slice (some ⟨w.heap.size,0,none⟩) 1 1) [(L,rp)]:=by
 have hr:=heap_alloc_new w (.cells #[.slice a n c,.bool rp] 39);refine ⟨_,1,rfl,Nat.le_refl _,by decide,fun j hj=> ?_⟩
 obtain rfl:j=0:=by simp at hj;omega
 refine ⟨_,0,a,c,rfl,?_,?_,?_⟩
 ·rw [Lib.cell_of_heap hr];simp [hn]
 ·rw [Lib.cell_of_heap hr];simp
 ·have:=h.kept ((Below.refl _ w).alloc (Nat.le_refl _) (.cells #[.slice a n c,.bool rp] 39))
  rw [<- hn] at this;rw [<- hn];exact this
theorem VlAt.at12 {w:World} {b:Option Addr} {k c:Nat} {L:List Vio} (h:VlAt w (.slice b k c) L) (i:Nat) (hi:i<L.length): ∃ g o,b=some ⟨g,o,none⟩/\w.cell? ⟨g,o+i*4,none⟩=some (.int .i64 L[i].pol)/\w.cell? ⟨g,o+i*4+1,none⟩=some (.string ⟨L[i].rule.toArray⟩)/\w.cell? ⟨g,o+i*4+2,none⟩=some (.string ⟨L[i].url.toArray⟩)/\w.cell? ⟨g,o+i*4+3,none⟩=some (.bool L[i].rep):=by
 obtain ⟨a,c2,e,_,_,h3⟩:=h.view
 injection e with e1 _ _
 subst e1;obtain ⟨g,o,rfl,hr⟩:=h3 i hi
 exact ⟨g,o,rfl,by simpa using hr 0 _ rfl,hr 1 _ rfl,hr 2 _ rfl,hr 3 _ rfl⟩
theorem ak_of (u:List UInt8) (pv uv:Value) (dt:Int):AkOk (askOf (adrOf (urlV u)) pv uv dt):=by
 have h1:GuU pageP:=gu_read _;have h2:GuU (adrOf (urlV u)):=gu_read _;exact ⟨h1,h2,show (⟨#[]⟩:ByteArray).size<=1000000 by decide,show (⟨#[]⟩:ByteArray).size<=1000000 by decide⟩
def polsL (L:List (List UInt8)):List (List Ru×Bool):=L.flatMap fun s=>(ofL (polV (s.take 400))).map (·,false)
theorem polsL_take (L:List (List UInt8)) (k:Nat) (h:k<L.length):polsL (L.take (k+1))=polsL (L.take k)++(ofL (polV (L[k].take 400))).map (·,false):=by
 unfold polsL;rw [List.take_add_one,List.getElem?_eq_getElem h,List.flatMap_append]
 simp
theorem ofL_len (L:List Ru):(ofL L).length<=1:=by unfold ofL;split<;>simp
theorem polsL_len (L:List (List UInt8)): ∀ k,k<=L.length->(polsL (L.take k)).length<=k:=by
 intro k
 induction k with
 | zero=>intro _;simp [polsL]
 | succ k ih=>
   intro hk;rw [polsL_take L k (by omega),List.length_append,List.length_map];have:=ih (by omega)
   have:=ofL_len (polV ((L[k]'(by omega)).take 400));omega
theorem polsL_sz (L:List (List UInt8)): ∀ q ∈ polsL L,SzL q.1/\q.2=false:=by
 intro q hq;unfold polsL at hq;obtain ⟨s,_,hq⟩:=List.mem_flatMap.1 hq
 obtain ⟨l,hl,rfl⟩:=List.mem_map.1 hq
 refine ⟨?_,rfl⟩
 have e:l=polV (s.take 400):=by
  unfold ofL at hl;split at hl
  ·cases hl
  ·rename_i r t he
   rw [List.mem_singleton.1 hl,he]
 rw [e];exact szl_pol _ (by rw [List.length_take];omega)
theorem cells_pr {w:World} {b:Nat} {x y:Value} (h:w.heap[b]? = some (.cells #[x,y] 52 (0,0))):w.cell? ⟨b,0,none⟩=some x/\w.cell? ⟨b,1,none⟩=some y:=⟨by rw [Lib.cell_of_heap h];rfl,by rw [Lib.cell_of_heap h];rfl⟩
theorem policies12_any (v:Value) (L:List (List UInt8)) (w:World) (hv:TxAt w v L) (hz: ∀ x ∈ L,x.length<=maxLen):
 Calls Tryz.prog 8 #[v,.slice none 0 0] w (RPolPost (polsL (L.take 4)) w):=by
 obtain ⟨i0,hi,hz0,hz1,hz2⟩:=info_parts infoPoR
 obtain ⟨la,lc,rfl,_,_,_⟩:=hv.view
 have HV:=hid hv;have HZ:=hid hz;obtain ⟨n,hn⟩: ∃ n,n=L.length:=⟨_,rfl⟩
 have HN:=hid hn;rw [<- hn];clear hv hz hn
 go_enter Tryz.func8,Tryz.ntmps8
 go_wp2_with fail
 go_loopw [5,6] (fun v5 vi wr=> ∃ (k m:Nat) (a:Option Addr) (c:Nat),k<=n/\k<=4/\m<=4/\vi = .int .i64 k/\v5 = .slice a m c/\Hid (m=(polsL (L.take k)).length/\Below w.heap.size w wr /\ ∃ P,wr.ownsRow w.heap.size 52 2 (.slice a m c) m (cellsP P)/\RdPr wr w.heap.size P (polsL (L.take k)))) (fun _ vi _=>n - (intOf vi).toNat)
 case atStart=>exact ⟨0,0,none,0,Nat.zero_le _,Nat.zero_le _,Nat.zero_le _,rfl,rfl,rfl,Below.refl _ _,[],World.ownsRow_nil _ _ _ _,RdPr.nil _ _⟩
 case round=>
  obtain ⟨k,m,a,c,hk,hk4,hm4,rfl,rfl,HR⟩:=hrel
  have fin:k=n∨k=4->polsL (L.take k)=polsL (L.take 4):=fun h=>by
   rcases h with h | h
   ·rw [h,HN.out,List.take_of_length_le (Nat.le_refl _),List.take_of_length_le (by have:=HN.out;omega)]
   ·rw [h]
  have HFin:=hid fin;clear fin;by_cases hlt:k<n
  ·have hlt':(k:Int)<(n:Int):=by omega
   by_cases h4:k<4
   ·have h4':(k:Int)<4:=by omega
    have hk0: ¬ ((k:Int)<0):=by omega
    have hkL:k<L.length:=by have:=HN.out;omega
    obtain ⟨la',lc',e1,_,_,hcell⟩:=HV.out.view
    injection e1 with e1 e2 e3
    clear e2 e3;subst e1;obtain ⟨pb,po,rfl,hpc0⟩:=hcell k hkL
    have hpc:=(HR.out.2.1.cell (World.block_lt_of_cell? w _ hpc0)).trans hpc0;obtain ⟨X,hX⟩: ∃ X:ByteArray,X=⟨L[k].toArray⟩:=⟨_,rfl⟩
    rw [<- hX] at hpc;have hXl:X.data.toList=L[k]:=by rw [hX]
    have hXs:X.size<=9223372036854775807:=by rw [Lib.size_eq,hXl];exact HZ.out _ (List.getElem_mem hkL)
    obtain ⟨Y,hY⟩: ∃ Y:ByteArray,⟨(X.data.toList.take 400).toArray⟩=Y:=⟨_,rfl⟩
    have hYl:Y.data.toList=L[k].take 400:=by rw [<- hY,hXl]
    have hYs:Y.size<=1000000:=by rw [Lib.size_eq,hYl,List.length_take];omega
    have HFw:Hid (∀ Z:World,Calls Tryz.prog 11 #[.string X,.int .i64 400] Z fun e w'=>e = .returned (.string Y)/\Z=w'):=fun Z=>by
     rw [<- hY];exact few_any X 400 Z (by omega) hXs
    have HPa:=hid (fun (Z:World)=>rparse10 Y false Z hYs);unfold RParsePost at HPa;obtain ⟨LP,hLP⟩: ∃ l,polV Y.data.toList=l:=⟨_,rfl⟩
    rw [hLP] at HPa;have HD:=hid (show polsL (L.take (k+1))=polsL (L.take k)++(ofL LP).map (·,false) by rw [polsL_take L k hkL,<- hYl,hLP]);obtain ⟨ln,hln⟩: ∃ l,LP.length=l:=⟨_,rfl⟩
    rw [hln] at HPa;have HLn:=hid hln;clear hcell hpc0 hX hXl hXs hY hYl hYs hLP hkL hln HFin
    go_wp2_with fail
    refine (HFw.out _).mono ?_;rintro e wz ⟨rfl,hwz⟩
    rw [<- hwz];clear hwz
    go_wp2_with fail
    refine (HPa.out _).mono ?_;rintro e w3 ⟨v3,Q3,rfl,hown3,hrd3,hb3⟩
    obtain ⟨a3,c3,rfl,hc3,hm3⟩:=own_form10 hown3
    have hb4:Below w3.heap.size w3 (w3.alloc (.cells #[.slice a3 ln c3,.bool false] 52)):=(Below.refl _ w3).alloc (Nat.le_refl _) _;have hwr:=HR.out.2.1.size;have HON:=hid (show OnRr (w3.alloc (.cells #[.slice a3 ln c3,.bool false] 52)) w.heap.size (.slice a3 ln c3) LP from
     ⟨Q3,by rw [HLn.out];exact own_low10 (own_kept hown3 hb4) hwr,(hrd3.kept hb4).low hwr⟩)
    have HMM:=hid (heap_alloc_new w3 (.cells #[.slice a3 ln c3,.bool false] 52));have hB34:=below2 hb3 hb4;obtain ⟨hm0,hB0,P,hO,hRd⟩:=HR.out
    have HO4:=hid (own_kept hO hB34);have HR4:=hid (hRd.kept hB34);have HB4:=hid (below2 hB0 hB34);have HM0:=hid hm0;clear hown3 hrd3 hb3 hb4 hB34 hm0 hB0 hO hRd HR hwr hc3 hm3;by_cases hz:ln=0
    ·have HD2:=hid (show polsL (L.take (k+1))=polsL (L.take k) by
      have h0:LP=[]:=List.eq_nil_of_length_eq_zero (by rw [HLn.out];exact hz)
      rw [HD.out,h0];simp [ofL])
     have hz': ¬ ((0:Int)<(ln:Int)):=by omega
     have hz'': ¬ (0<ln):=by omega
     clear hz HD
     go_wp2_with fail
     go_roundw
     case rel=>
      first
       | exact ⟨k+1,m,a,c,by omega,by omega,hm4,by go_num,rfl,by rw [HD2.out];exact ⟨HM0.out,HB4.out,P,HO4.out,HR4.out⟩⟩
       | ((repeat apply Exists.intro);refine ⟨?_,rfl⟩;exact ⟨k+1,m,a,c,by omega,by omega,hm4,by go_num,rfl,by rw [HD2.out];exact ⟨HM0.out,HB4.out,P,HO4.out,HR4.out⟩⟩)
       | ((repeat apply Exists.intro);exact ⟨⟨k+1,m,a,c,by omega,by omega,hm4,by go_num,rfl,by rw [HD2.out];exact ⟨HM0.out,HB4.out,P,HO4.out,HR4.out⟩⟩,rfl⟩)
     case measure=>simp [intOf];omega
    ·have HD2:=hid (show polsL (L.take (k+1))=polsL (L.take k)++[(LP,false)] by
      rw [HD.out]
      cases hl:LP with
      | nil=>have:=HLn.out;rw [hl] at this;exact absurd this.symm hz
      | cons r t=>rfl)
     have hz':(0:Int)<(ln:Int):=by omega
     have hz'':0<ln:=by omega
     have HM5:=hid (show m+1=(polsL (L.take (k+1))).length by rw [HD2.out,List.length_append,<- HM0.out];rfl);have hm5:m+1<=4:=by
      have h1:=HM5.out;have h2:=polsL_len L (k+1) (by have:=HN.out;omega)
      omega
     obtain ⟨d0,d1⟩:=cells_pr HMM.out
     clear hz HD
     go_wp2_with (at_builtin;refine wpList_append_own _ rfl _ _ 31 rfl w.heap.size 52 i0 _ 2 32 Tryz.underlying31 hi hz0 hz1 hz2 rfl (by decide) _ _ _ rfl (HO4.out.alloc _) ⟨w3.heap.size+1,0,none⟩ 1 1 [.slice a3 ln c3,.bool false] rfl rfl ?c1 ?c2 (by unfold maxLen;omega) (by omega) (by have:=HB4.out.size;simp at this ⊢;omega) ?_)
     case c1=>
      intro q u hq
      match q,hq with
      | 0,hq=>simp at hq;subst hq;simp [Addr.add]
      | 1,hq=>simp at hq;subst hq;simp [Addr.add]
     case c2=>intro u hu;simp at hu;rcases hu with rfl | rfl<;>rfl
     intro v5 w5 hown hgrow hnil;obtain ⟨a5,c5,rfl,_,_⟩:=own_form10 hown
     have hk5:=grown_rr (HO4.out.alloc (.cells #[.slice a3 ln c3,.bool false] 52)) hgrow;have hb6:=(Below.refl _ (w3.alloc (.cells #[.slice a3 ln c3,.bool false] 52))).alloc (Nat.le_refl _) (.cells #[.slice a3 ln c3,.bool false] 52);have HR5:=hid (show Below w.heap.size w w5 /\ ∃ P,w5.ownsRow w.heap.size 52 2 (.slice a5 (m+1) c5) (m+1) (cellsP P)/\RdPr w5 w.heap.size P (polsL (L.take (k+1))) by
      refine ⟨(HB4.out.alloc HB4.out.size _).grown hgrow (by have:=HB4.out.size;simp at this ⊢;omega) (fun k hk=>(HO4.out.lt k hk).1),P++[(.slice a3 ln c3,false)],?_,?_⟩
      ·rw [cellsP_app,cellsP_one]
       exact hown
      ·rw [HD2.out]
       refine RdPr.app ((HR4.out.kept hb6).keptB hk5) (RdPr.one ?_);exact (HON.out.keptB (w':=(w3.alloc (.cells #[.slice a3 ln c3,.bool false] 52)).alloc (.cells #[.slice a3 ln c3,.bool false] 52)) fun k _ _ _ hk2 _=>hb6.block k (Array.getElem?_eq_some_iff.1 hk2).1).keptB hk5)
     clear hown hgrow hnil HON d0 d1 hk5 hb6
     go_wp2_with fail
     go_roundw
     case rel=>
      first
       | exact ⟨k+1,m+1,a5,c5,by omega,by omega,hm5,by go_num,rfl,HM5.out,HR5.out⟩
       | ((repeat apply Exists.intro);refine ⟨?_,rfl⟩;exact ⟨k+1,m+1,a5,c5,by omega,by omega,hm5,by go_num,rfl,HM5.out,HR5.out⟩)
       | ((repeat apply Exists.intro);exact ⟨⟨k+1,m+1,a5,c5,by omega,by omega,hm5,by go_num,rfl,HM5.out,HR5.out⟩,rfl⟩)
     case measure=>simp [intOf];omega
   ·have h4': ¬ ((k:Int)<4):=by omega
    have HE:=hid (HFin.out (.inr (by omega)));clear HFin h4
    go_wp2_with fail
    go_ret
    obtain ⟨hm0,hB0,P,hO,hRd⟩:=HR.out
    rw [HE.out] at hm0 hRd;exact ⟨_,P,rfl,by rw [<- hm0];exact hO,hRd,hB0⟩
  ·have HE:=hid (HFin.out (.inl (by omega)))
   clear HFin
   go_wp2_with fail
   go_ret
   obtain ⟨hm0,hB0,P,hO,hRd⟩:=HR.out
   rw [HE.out] at hm0 hRd;exact ⟨_,P,rfl,by rw [<- hm0];exact hO,hRd,hB0⟩
end Go.Proofs.YtijpkalkfbejeaaGreatDoor
