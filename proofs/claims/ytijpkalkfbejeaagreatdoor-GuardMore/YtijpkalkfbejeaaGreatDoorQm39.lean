/- Walks and plain facts. -/
import Derived.Test.YtijpkalkfbejeaaGreatDoorQm37
import Derived.Test.YtijpkalkfbejeaaGreatDoorQm38
set_option linter.unusedSimpArgs false
set_option linter.unusedVariables false
set_option maxHeartbeats 16000000
set_option maxRecDepth 100000

namespace Go.Proofs.YtijpkalkfbejeaaGreatDoor
open Go.RowKit
theorem step_append_row12 {P:Program} {ops:Array Oper} {o:Oper} {a:Act} {w:World} {K:Act->World->Prop} {Q:Exit->Act->World->Prop} {E:Prop} (hgd:o.guard=none) (s x:Operand) (t:TypeId)
 (ho:o.op = .call { callee:= .builtin .append,args:= #[s,x],argTypes:= #[t,t] })
 (base:Nat) (e:TypeId) (i:TypeInfo) (z:Value) (size bytes:Nat) (ht:P.underlying t=some (.slice e)) (hi:P.info? e=some i) (hz:i.zero=some z)
 (hsize:i.size=size) (hby:i.bytes=bytes) (hzs:z.cells.size=size) (hsz:0<size)
 (v:Value) (n:Nat) (xs:List Value) (hs:a.eval s=v) (hown:w.ownsRow base e size v n xs)
 (qa:Option Addr) (m c:Nat) (news:List Value) (bx:Nat) (hx:a.eval x = .slice qa m c) (hrow:w.ownsRow bx e size (.slice qa m c) m news) (h1: ∀ u ∈ news,u.oneCell'=true)
 (h63:n+m<=maxLen) (hbytes:(n+m)*bytes<=140737488355328) (hbase:base<=w.heap.size)
 (h: ∀ v' w',w'.ownsRow base e size v' (n+m) (xs++news)->w.grownBy w' v.ownBlock->K (a.put o.dst v') w'):
 if Region.wanted o (yielded ops a.tmps)=true then Oper.wp P o a w K Q else E:=by
 rcases hrow.2 with ⟨e0,hm⟩ | ⟨g,cap,cur,e0,_⟩
 ·injection e0 with ea _ ec
  subst ea;subst ec;subst hm;have hn:news=[]:=List.eq_nil_of_length_eq_zero (by have:=hrow.1;omega)
  subst hn;rw [if_pos (by simp [Region.wanted,hgd])];have hrun:=run_append_owned_none (P:=P) w base t o.type e i size ht hi v n xs hown;unfold Oper.wp;simp [execOp,ho,resolve,invoke,builtin,hs,hx,hrun,Result.andThen]
  exact h v w (by simpa using hown) (World.grownBy.refl _ _)
 ·injection e0 with ea
  subst ea;exact step_append_own12 hgd s x t ho base e i z size bytes ht hi hz hsize hby hzs hsz v n xs hs hown ⟨g,0,none⟩ m c news hx hrow.1 (fun j u hj=>by
   have hl:j<news.length:=(List.getElem?_eq_some_iff.1 hj).1;rw [Addr.add_mid,Nat.zero_add,hrow.cellAt j (by rw [<- hrow.1];exact hl)]
   exact hj) h1 h63 hbytes hbase (fun v' w' a b _=>h v' w' a b)
theorem cellsP_cell {P:List (Value×Bool)} (h: ∀ q ∈ P,q.1.oneCell'=true): ∀ u ∈ cellsP P,u.oneCell'=true:=by
 intro u hu;unfold cellsP at hu;obtain ⟨q,hq,hu⟩:=List.mem_flatMap.1 hu
 simp at hu;rcases hu with rfl | rfl
 ·exact h q hq
 ·rfl
theorem pl_snoc12 {w5 w8 w:World} {B B' B2 n:Nat} {v x:Value} {P:List (Value×Bool)} {PS:List (List Ru×Bool)} {LM:List Ru} (hn:PS.length=n) (h:w.ownsRow B 39 2 v (n+1) (cellsP (P++[(x,false)]))) (hr:RdW w5 w8 B' P PS) (h5:Below w5.heap.size w5 w8) (h8:Below w8.heap.size w8 w) (hx:OnR w B2 x LM):PlAt w v (PS++[(LM,false)]):=by
 subst hn;rcases h.2 with ⟨hv,hn⟩ | ⟨g,cap,cur,rfl,hg,hrow,hnc,hcm,hcs,htake⟩
 ·omega
 ·refine ⟨some ⟨g,0,none⟩,cap,by rw [List.length_append];rfl,by rw [List.length_append];exact hnc,hcm,fun j hj=> ?_⟩
  have hPl:P.length=PS.length:=hr.1;have hjP:j<(P++[(x,false)]).length:=by rw [List.length_append] at hj ⊢;rw [hPl];exact hj
  have hj1:j<PS.length+1:=by rw [List.length_append] at hj;exact hj
  have H: ∃ ua uc,(P++[(x,false)])[j].1 = .slice ua ((PS++[(LM,false)])[j].1).length uc/\(P++[(x,false)])[j].2=(PS++[(LM,false)])[j].2/\PoAt w (P++[(x,false)])[j].1 (PS++[(LM,false)])[j].1:=by
   by_cases hjl:j<PS.length
   ·have hjp:j<P.length:=by omega
    obtain ⟨e1,hon⟩:=hr.2 j hjp hjl
    have hpo:=(hon.po h5).kept h8;obtain ⟨Q,hq,_⟩:=hon
    obtain ⟨ua,uc,hu,_,_⟩:=own_form10 hq
    rw [List.getElem_append_left hjp,List.getElem_append_left hjl];exact ⟨ua,uc,hu,e1,hpo⟩
   ·have e:j=PS.length:=by omega
    subst e;rw [List.getElem_append_right (by omega),List.getElem_append_right (by omega)];have hpo:=hx.po;obtain ⟨Q,hq,_⟩:=hx
    obtain ⟨ua,uc,hu,_,_⟩:=own_form10 hq
    simp only [hPl,Nat.sub_self,List.getElem_cons_zero]
    exact ⟨ua,uc,hu,trivial,hpo⟩
  obtain ⟨ua,uc,hu,e2,hpo⟩:=H
  obtain ⟨c1,c2⟩:=cellsP_at _ j hjP
  refine ⟨g,0,ua,uc,rfl,?_,?_,?_⟩
  ·rw [Nat.zero_add,h.cellAt _ (by omega),c1,hu]
  ·rw [Nat.zero_add,h.cellAt _ (by omega),c2,e2]
  ·rw [<- hu];exact hpo
theorem guardMore_walk (v:Value) (L:List (List UInt8)) (M S T:ByteArray) (dt:Int) (w:World) (hv:TxAt w v L) (hz: ∀ x ∈ L,x.length<=maxLen) (hm:M.size<=140737488351232) (hs:S.size<=140737488351232) (ht:T.size<=140737488351232) (hg:Gd w):
 Calls Tryz.prog 3 #[v,.string M,.string S,.string T,.int .i64 dt] w fun e w'=>e = .returned (.bool true)/\Below w.heap.size w w':=by
 have HPg:=hid (fun w=>page_any S w (by omega));have HUr:=hid (fun w=>url_k T w (by omega));have HKn:=hid (fun (w:World) (hg:Gd w)=>known12_any w hg);have HG0:=hid hg;have HPo:=hid (fun (Z:World) (hZ:Below w.heap.size w Z)=>policies12_any v L Z (hv.kept hZ) hz);unfold RPolPost at HPo;have HGa:=hid (gu_page S.data.toList);generalize pageV S.data.toList=A at HPg HGa;have HGb:=hid (show ∀ B,urlV T.data.toList = .ok B->GuU B from fun B h=>by
  have:=gu_read (T.data.toList.take 300);have e:readV (T.data.toList.take 300) none = .ok B:=h;rw [e] at this;exact this)
 unfold PgPost at HPg;unfold UPost at HUr;generalize urlV T.data.toList=r at HUr HGb;have hsz:=polsL_sz (L.take 4);have hm4:(polsL (L.take 4)).length<=4:=by
  have:=polsL_len (L.take 4) (L.take 4).length (Nat.le_refl _);rw [List.take_length,List.length_take] at this
  omega
 generalize polsL (L.take 4)=PS at HPo hsz hm4;obtain ⟨m,hmm⟩: ∃ m,PS.length=m:=⟨_,rfl⟩
 have HPl:=hid (fun (u:Value) (Z:World) (hu:PlAt Z u PS)=>plain12_any u PS Z hu (by omega) (fun q hq=>(hsz q hq).1.1));unfold PlainPost at HPl;rw [hmm] at HPo HPl hm4;obtain ⟨Y,hY⟩: ∃ Y:ByteArray,⟨(M.data.toList.take 300).toArray⟩=Y:=⟨_,rfl⟩
 have hYs:Y.size<=1000000:=by rw [Lib.size_eq,<- hY];simp;omega
 have HFw:Hid (∀ Z:World,Calls Tryz.prog 11 #[.string M,.int .i64 300] Z fun e w'=>e = .returned (.string Y)/\Z=w'):=fun Z=>by
  rw [<- hY];exact few_any M 300 Z (by omega) (by omega)
 have HPa:=hid (fun (Z:World)=>parse10 Y false Z (by omega));unfold ParsePost10 at HPa;have HSl:=hid (szl_pol Y.data.toList (by rw [<- Lib.size_eq];exact hYs));generalize polV Y.data.toList=LM at HPa HSl;obtain ⟨ln,hln⟩: ∃ l,LM.length=l:=⟨_,rfl⟩
 rw [hln] at HPa;have HLn:=hid hln;obtain ⟨i0,hi,hz0,hz1,hz2⟩:=info_parts infoPo
 clear hY hYs hln;have HSz:=hid hsz;have HMm:=hid hmm;obtain ⟨la,lc,rfl,_,_,_⟩:=hv.view
 clear hv hz hg hsz hmm
 cases r with
 | error x=>
   simp only [isOk,adrOf] at HUr
   go_enter Tryz.func3,Tryz.ntmps3
   go_wp2_with fail
   refine (HUr.out _).mono ?_;rintro e w3 ⟨qv,rfl,hown,hb3⟩
   obtain ⟨ya,yn,yc,rfl⟩:=own_sl hown
   obtain ⟨y0,y1,y2,y3,y4,y5,y6,y8,y9,y10,y11,hxy⟩:=adr_cells Adr.zero ya yn yc
   have hvy:adrVal Adr.zero (.slice ya yn yc) = .agg #[.string y0,.string y1,.string y2,.string y3,.bool y4,.int .i64 y5,.bool y6,.slice ya yn yc,.string y8,.string y9,.bool y10,.bool y11]:=by unfold adrVal;rw [hxy]
   rw [hvy];obtain ⟨W4,hW4⟩: ∃ X,(w3.alloc (.cells #[.string y0,.string y1,.string y2,.string y3,.bool y4,.int .i64 y5,.bool y6,.slice ya yn yc,.string y8,.string y9,.bool y10,.bool y11] 24))=X:=⟨_,rfl⟩
   have hbW4:Below w3.heap.size w3 W4:=by rw [<- hW4];exact (Below.refl _ w3).alloc (Nat.le_refl _) _
   have hsW4:W4.heap.size=w3.heap.size+1:=by rw [<- hW4];simp
   have hAW4:AdrIn W4 w3.heap.size Adr.zero (.slice ya yn yc):=by
    unfold AdrIn;rw [hxy,<- hW4]
    exact heap_alloc_new w3 _
   have HB4:=hid (below2 hb3 hbW4);clear hown hb3 hbW4 hAW4 hxy hvy hsW4
   go_wp2_with fail
   refine (HKn.out _ (HG0.out.kept HB4.out)).mono ?_;rintro e w5 ⟨rfl,hb5⟩
   go_wp2
   go_ret
   exact ⟨rfl,below2 HB4.out hb5⟩
 | ok B=>
   simp only [isOk,adrOf] at HUr
   have hgb:=HGb.out B rfl;have HCk:=hid (fun (Ps:List (List Ru×Bool)) (x:Value) (pv uv:Value) (Z:World) (h1:Below w.heap.size w Z) (h2:PlAt Z x Ps) (h3:AskAt Z ⟨A,pv,B,uv,dt,0,⟨#[]⟩,⟨#[]⟩⟩) (hl:Ps.length<=1000) (hz: ∀ q ∈ Ps,SzL q.1)=>check12_any x Ps ⟨A,pv,B,uv,dt,0,⟨#[]⟩,⟨#[]⟩⟩ Z (HG0.out.kept h1) h2 hl hz h3 ⟨HGa.out,hgb,show (⟨#[]⟩:ByteArray).size<=1000000 by decide,show (⟨#[]⟩:ByteArray).size<=1000000 by decide⟩);unfold CkPost at HCk;have HV0:=hid (fun (Ps:List (List Ru×Bool)) (pv uv pv2 uv2:Value)=>(show chkV Ps ⟨A,pv,B,uv,dt,0,⟨#[]⟩,⟨#[]⟩⟩=chkW Ps B A dt 0 [] [] from chkV_eq _ _))
   clear hgb HGb
   go_enter Tryz.func3,Tryz.ntmps3
   go_wp2_with fail
   refine (HUr.out _).mono ?_;rintro e w1 ⟨uv,rfl,hown,hb1⟩
   obtain ⟨ya,yn,yc,rfl⟩:=own_sl hown
   obtain ⟨y0,y1,y2,y3,y4,y5,y6,y8,y9,y10,y11,hxy⟩:=adr_cells B ya yn yc
   have hvy:adrVal B (.slice ya yn yc) = .agg #[.string y0,.string y1,.string y2,.string y3,.bool y4,.int .i64 y5,.bool y6,.slice ya yn yc,.string y8,.string y9,.bool y10,.bool y11]:=by unfold adrVal;rw [hxy]
   rw [hvy];obtain ⟨W2,hW2⟩: ∃ X,(w1.alloc (.cells #[.string y0,.string y1,.string y2,.string y3,.bool y4,.int .i64 y5,.bool y6,.slice ya yn yc,.string y8,.string y9,.bool y10,.bool y11] 24))=X:=⟨_,rfl⟩
   have hbW2:Below w1.heap.size w1 W2:=by rw [<- hW2];exact (Below.refl _ w1).alloc (Nat.le_refl _) _
   have hsW2:W2.heap.size=w1.heap.size+1:=by rw [<- hW2];simp
   have hAW2:AdrIn W2 w1.heap.size B (.slice ya yn yc):=by
    unfold AdrIn;rw [hxy,<- hW2]
    exact heap_alloc_new w1 _
   have HB2:=hid (below2 hb1 hbW2);have HU2:=hid (own_kept hown hbW2);have HA2:=hid hAW2;have HXu:=hid hxy;clear hown hb1 hbW2 hAW2 hxy hvy hsW2
   go_wp2_with fail
   refine (HPg.out _).mono ?_;rintro e w3 ⟨pv,rfl,hpp,hb3⟩
   obtain ⟨pa,pn,pc,rfl⟩:=path_sl hpp
   obtain ⟨p0,p1,p2,p3,p4,p5,p6,p8,p9,p10,p11,hxp⟩:=adr_cells A pa pn pc
   have hvp:adrVal A (.slice pa pn pc) = .agg #[.string p0,.string p1,.string p2,.string p3,.bool p4,.int .i64 p5,.bool p6,.slice pa pn pc,.string p8,.string p9,.bool p10,.bool p11]:=by unfold adrVal;rw [hxp]
   rw [hvp];obtain ⟨W4,hW4⟩: ∃ X,(w3.alloc (.cells #[.string p0,.string p1,.string p2,.string p3,.bool p4,.int .i64 p5,.bool p6,.slice pa pn pc,.string p8,.string p9,.bool p10,.bool p11] 24))=X:=⟨_,rfl⟩
   have hbW4:Below w3.heap.size w3 W4:=by rw [<- hW4];exact (Below.refl _ w3).alloc (Nat.le_refl _) _
   have hsW4:W4.heap.size=w3.heap.size+1:=by rw [<- hW4];simp
   have hAW4:AdrIn W4 w3.heap.size A (.slice pa pn pc):=by
    unfold AdrIn;rw [hxp,<- hW4]
    exact heap_alloc_new w3 _
   have hb34:=below2 hb3 hbW4;have HB4:=hid (below2 HB2.out hb34);have HU4:=hid (own_kept HU2.out hb34);have HP4:=hid (hpp.kept hbW4);have HAu:=hid (HA2.out.kept hb34);have HAp:=hid hAW4;have HXp:=hid hxp;clear hpp hb3 hbW4 hAW4 hxp hvp hb34 hsW4
   go_wp2_with fail
   refine (HPo.out _ HB4.out).mono ?_;rintro e w5 ⟨v5,P5,rfl,hown5,hrd5,hb5⟩
   have hpl5:=own_plr (by rw [HMm.out];exact hown5) hrd5
   obtain ⟨ra,rc,rfl,_,_⟩:=own_form10 hown5
   have HB5:=hid (below2 HB4.out hb5);have HD5:=hid hb5;have HPl5:=hid (HPl.out _ w5 hpl5);clear hown5 hrd5 hb5 hpl5
   go_wp2_with fail
   refine HPl5.out.mono ?_;rintro e w6 ⟨v6,P6,rfl,hown6,hrd6,hb6⟩
   obtain ⟨qa,qc,rfl,_,_⟩:=own_form10 hown6
   have HO6:=hid hown6;have HR6:=hid hrd6;have HB6:=hid (below2 HB5.out hb6);have HD6:=hid (below2 HD5.out hb6);have HBl6:=hid hb6;have HU6:=hid (own_kept HU4.out HD6.out);have HP6:=hid (HP4.out.kept HD6.out);have HRu:=hid (show w6.rangeAt w1.heap.size 0 [.string y0,.string y1,.string y2,.string y3,.bool y4,.int .i64 y5,.bool y6,.slice ya yn yc,.string y8,.string y9,.bool y10,.bool y11] by
    have:=range_row (HAu.out.kept HD6.out);rw [HXu.out] at this;exact this)
   have HRp:=hid (show w6.rangeAt w3.heap.size 0 [.string p0,.string p1,.string p2,.string p3,.bool p4,.int .i64 p5,.bool p6,.slice pa pn pc,.string p8,.string p9,.bool p10,.bool p11] by
    have:=range_row (HAp.out.kept HD6.out);rw [HXp.out] at this;exact this)
   have HXa:=hid (show askCells ⟨A,.slice pa pn pc,B,.slice ya yn yc,dt,0,⟨#[]⟩,⟨#[]⟩⟩=[.string p0,.string p1,.string p2,.string p3,.bool p4,.int .i64 p5,.bool p6,.slice pa pn pc,.string p8,.string p9,.bool p10,.bool p11,.string y0,.string y1,.string y2,.string y3,.bool y4,.int .i64 y5,.bool y6,.slice ya yn yc,.string y8,.string y9,.bool y10,.bool y11,.int .i64 dt,.int .i64 0,.string ⟨#[]⟩,.string ⟨#[]⟩] by
    unfold askCells;dsimp only;rw [HXp.out,HXu.out];rfl)
   have HVa:=hid (show askVal ⟨A,.slice pa pn pc,B,.slice ya yn yc,dt,0,⟨#[]⟩,⟨#[]⟩⟩ = .agg #[.string p0,.string p1,.string p2,.string p3,.bool p4,.int .i64 p5,.bool p6,.slice pa pn pc,.string p8,.string p9,.bool p10,.bool p11,.string y0,.string y1,.string y2,.string y3,.bool y4,.int .i64 y5,.bool y6,.slice ya yn yc,.string y8,.string y9,.bool y10,.bool y11,.int .i64 dt,.int .i64 0,.string ⟨#[]⟩,.string ⟨#[]⟩] by unfold askVal;rw [HXa.out])
   obtain ⟨Wz,hWz⟩: ∃ X,(w6.alloc (.cells #[.string ⟨#[]⟩,.string ⟨#[]⟩,.string ⟨#[]⟩,.string ⟨#[]⟩,.bool false,.int .i64 0,.bool false,.slice none 0 0,.string ⟨#[]⟩,.string ⟨#[]⟩,.bool false,.bool false,.string ⟨#[]⟩,.string ⟨#[]⟩,.string ⟨#[]⟩,.string ⟨#[]⟩,.bool false,.int .i64 0,.bool false,.slice none 0 0,.string ⟨#[]⟩,.string ⟨#[]⟩,.bool false,.bool false,.int .i64 0,.int .i64 0,.string ⟨#[]⟩,.string ⟨#[]⟩] 34))=X:=⟨_,rfl⟩
   have hbWz:Below w6.heap.size w6 Wz:=by rw [<- hWz];exact (Below.refl _ w6).alloc (Nat.le_refl _) _
   have hrz:Wz.heap[w6.heap.size]? = some (.cells #[.string ⟨#[]⟩,.string ⟨#[]⟩,.string ⟨#[]⟩,.string ⟨#[]⟩,.bool false,.int .i64 0,.bool false,.slice none 0 0,.string ⟨#[]⟩,.string ⟨#[]⟩,.bool false,.bool false,.string ⟨#[]⟩,.string ⟨#[]⟩,.string ⟨#[]⟩,.string ⟨#[]⟩,.bool false,.int .i64 0,.bool false,.slice none 0 0,.string ⟨#[]⟩,.string ⟨#[]⟩,.bool false,.bool false,.int .i64 0,.int .i64 0,.string ⟨#[]⟩,.string ⟨#[]⟩] 34 (0,0)):=by rw [<- hWz];exact heap_alloc_new w6 _
   obtain ⟨W7,hW7⟩: ∃ X,Wz.setCells w6.heap.size 0 [.string p0,.string p1,.string p2,.string p3,.bool p4,.int .i64 p5,.bool p6,.slice pa pn pc,.string p8,.string p9,.bool p10,.bool p11,.string y0,.string y1,.string y2,.string y3,.bool y4,.int .i64 y5,.bool y6,.slice ya yn yc,.string y8,.string y9,.bool y10,.bool y11,.int .i64 dt,.int .i64 0,.string ⟨#[]⟩,.string ⟨#[]⟩]=X:=⟨_,rfl⟩
   have HW7:=hid hW7.symm;have HTh:=hid (show Wz.there w6.heap.size 0 28 from fun j hj=>⟨by rw [Nat.zero_add,Lib.cell_of_heap hrz];simp;omega,Lib.frozen_of_heap hrz _⟩);have HOne:=hid (show (#[.string p0,.string p1,.string p2,.string p3,.bool p4,.int .i64 p5,.bool p6,.slice pa pn pc,.string p8,.string p9,.bool p10,.bool p11,.string y0,.string y1,.string y2,.string y3,.bool y4,.int .i64 y5,.bool y6,.slice ya yn yc,.string y8,.string y9,.bool y10,.bool y11,.int .i64 dt,.int .i64 0,.string ⟨#[]⟩,.string ⟨#[]⟩]:Array Value).all (·.oneCell')=true by
    have:=all_oneCell_toArray (askCells_one ⟨A,.slice pa pn pc,B,.slice ya yn yc,dt,0,⟨#[]⟩,⟨#[]⟩⟩ ⟨_,_,_,rfl⟩ ⟨_,_,_,rfl⟩);rw [HXa.out] at this;exact this)
   have hbW7:Below w6.heap.size w6 W7:=by rw [<- hW7];exact below_setCells (b:=w6.heap.size) (Nat.le_refl _) _ 0 _ hbWz
   have HR7:=hid (show W7.heap[w6.heap.size]? = some (.cells (askCells ⟨A,.slice pa pn pc,B,.slice ya yn yc,dt,0,⟨#[]⟩,⟨#[]⟩⟩).toArray 34 (0,0)) by rw [HXa.out,<- hW7];exact setCells_all12 _ hrz (by simp));have HK7:=hid (show ∀ Z:World,Below w6.heap.size w6 Z->AskAt Z ⟨A,.slice pa pn pc,B,.slice ya yn yc,dt,0,⟨#[]⟩,⟨#[]⟩⟩ from fun Z hZ=>⟨HP6.out.kept hZ,own_path (own_kept HU6.out hZ)⟩);have HB7:=hid (below2 HB6.out hbW7);have HD7:=hid hbW7;have HO7:=hid (own_kept HO6.out hbW7);have HRd7:=hid (HR6.out.kept hbW7);have HBl7:=hid (below2 HBl6.out hbW7)
   have HRg7:=hid (show W7.rangeAt w6.heap.size 0 [.string p0,.string p1,.string p2,.string p3,.bool p4,.int .i64 p5,.bool p6,.slice pa pn pc,.string p8,.string p9,.bool p10,.bool p11,.string y0,.string y1,.string y2,.string y3,.bool y4,.int .i64 y5,.bool y6,.slice ya yn yc,.string y8,.string y9,.bool y10,.bool y11,.int .i64 dt,.int .i64 0,.string ⟨#[]⟩,.string ⟨#[]⟩] by
    have:=range_row HR7.out;rw [HXa.out] at this;exact this)
   have HCh7:=hid (HCk.out PS (.slice qa m qc) (.slice pa pn pc) (.slice ya yn yc) W7 HB7.out (own_plw (by rw [HMm.out];exact HO7.out) HRd7.out HBl7.out) (HK7.out _ HD7.out) (by have:=HMm.out;omega) (fun q hq=>(HSz.out q hq).1));rw [HVa.out] at HCh7;clear hW7 hbWz hrz hbW7 hown6 hrd6 hb6
   go_wp2_with (first | (refine wpList_load_mid rfl 24 (.tmp 13) rfl w3.heap.size 0 rfl [.string p0,.string p1,.string p2,.string p3,.bool p4,.int .i64 p5,.bool p6,.slice pa pn pc,.string p8,.string p9,.bool p10,.bool p11] _ HRp.out Tryz.underlying24 rfl sizeU ?_) | (refine wpList_load_mid rfl 24 (.tmp 11) rfl w1.heap.size 0 rfl [.string y0,.string y1,.string y2,.string y3,.bool y4,.int .i64 y5,.bool y6,.slice ya yn yc,.string y8,.string y9,.bool y10,.bool y11] _ HRu.out Tryz.underlying24 rfl sizeU ?_) | (refine wpList_store_mid rfl 34 (.tmp 15) (.tmp 35) rfl w6.heap.size 0 #[.string p0,.string p1,.string p2,.string p3,.bool p4,.int .i64 p5,.bool p6,.slice pa pn pc,.string p8,.string p9,.bool p10,.bool p11,.string y0,.string y1,.string y2,.string y3,.bool y4,.int .i64 y5,.bool y6,.slice ya yn yc,.string y8,.string y9,.bool y10,.bool y11,.int .i64 dt,.int .i64 0,.string ⟨#[]⟩,.string ⟨#[]⟩] rfl rfl HTh.out sizeA HOne.out ?_;refine wpList_worldO HW7.out ?_) | (refine wpList_load_mid rfl 34 (.tmp 15) rfl w6.heap.size 0 rfl [.string p0,.string p1,.string p2,.string p3,.bool p4,.int .i64 p5,.bool p6,.slice pa pn pc,.string p8,.string p9,.bool p10,.bool p11,.string y0,.string y1,.string y2,.string y3,.bool y4,.int .i64 y5,.bool y6,.slice ya yn yc,.string y8,.string y9,.bool y10,.bool y11,.int .i64 dt,.int .i64 0,.string ⟨#[]⟩,.string ⟨#[]⟩] _ HRg7.out Tryz.underlying34 rfl sizeA ?_))
   refine HCh7.out.mono ?_;rintro e w8 ⟨u8,rfl,hvl8,hb8⟩
   obtain ⟨V,hV⟩: ∃ V,chkV PS ⟨A,.slice pa pn pc,B,.slice ya yn yc,dt,0,⟨#[]⟩,⟨#[]⟩⟩=V:=⟨_,rfl⟩
   rw [hV] at hvl8;obtain ⟨va,vc,rfl,_,_,_⟩:=hvl8.view
   obtain ⟨vn,hvn⟩: ∃ n,V.length=n:=⟨_,rfl⟩
   rw [hvn] at hvl8;rw [hvn];have HV:=hid hV;have HVn:=hid hvn;have HVl8:=hid hvl8;have HB8:=hid (below2 HB7.out hb8);have HD8:=hid (below2 HD7.out hb8);have HO8:=hid (own_kept HO7.out hb8);have HRd8:=hid (HRd7.out.kept hb8);have HBl8:=hid (below2 HBl7.out hb8);have HR8:=hid (row_kept HR7.out hb8)
   have HRz:=hid (show ∀ Z,Below w8.heap.size w8 Z->Z.rangeAt (w6.heap.size) 0 [.string p0,.string p1,.string p2,.string p3,.bool p4,.int .i64 p5,.bool p6,.slice pa pn pc,.string p8,.string p9,.bool p10,.bool p11,.string y0,.string y1,.string y2,.string y3,.bool y4,.int .i64 y5,.bool y6,.slice ya yn yc,.string y8,.string y9,.bool y10,.bool y11,.int .i64 dt,.int .i64 0,.string ⟨#[]⟩,.string ⟨#[]⟩] from fun Z hZ=>by
    have:=range_row (row_kept HR8.out hZ);rw [HXa.out] at this;exact this)
   have HQ0:=hid (show Below w8.heap.size w8 w8.drew from (Below.refl _ _).drew);clear hV hvn hvl8 hb8 HCh7 HRg7
   go_upto_region 8 with fail
   refine wp_region_held_drew (S:=(fun wx=>Below w8.heap.size w8 wx)) (by kernel_rfl) HQ0.out (fun hHeld=> ?_)
   refine wpAnyH_to (fuel':=11) (listed':= #[false,false,false,false,false,false,false,false,false,false,false]) rfl rfl ?_
   refine' wpAnyH_take (i:=1) (oi:=⟨some 40,_,_,_,_,_⟩) (v:=_) rfl (by kernel_rfl) (by kernel_rfl) (by kernel_rfl) (fun _ _ _ h=>h) (Or.inl ⟨by kernel_rfl,?hyrg1⟩) (by assumption) ?restrg1
   case hyrg1=>(intro wx hSw;(try dsimp only at hSw);go_simp;first | done | with_reducible rfl)
   (try simp only [Act.put,List.setIfInBounds_toArray,List.set_cons_zero,List.set_cons_succ])
   refine' wpAnyH_take (i:=3) (oi:=⟨some 42,_,_,_,_,_⟩) (v:=_) rfl (by kernel_rfl) (by kernel_rfl) (by kernel_rfl) (fun _ _ _ h=>h) (Or.inl ⟨by kernel_rfl,?hyrg2⟩) (by assumption) ?restrg2
   case hyrg2=>(intro wx hSw;(try dsimp only at hSw);go_simp;first | done | with_reducible rfl)
   (try simp only [Act.put,List.setIfInBounds_toArray,List.set_cons_zero,List.set_cons_succ])
   refine wpAnyH_take (i:=8) (oi:=⟨some 47,_,_,_,_,_⟩) rfl (by kernel_rfl) (by kernel_rfl) (by kernel_rfl) (fun _ _ _ h=>h) (yieldsIf_load_mid (by kernel_rfl) 34 (.tmp 15) rfl (w6.heap.size) 0 rfl [.string p0,.string p1,.string p2,.string p3,.bool p4,.int .i64 p5,.bool p6,.slice pa pn pc,.string p8,.string p9,.bool p10,.bool p11,.string y0,.string y1,.string y2,.string y3,.bool y4,.int .i64 y5,.bool y6,.slice ya yn yc,.string y8,.string y9,.bool y10,.bool y11,.int .i64 dt,.int .i64 0,.string ⟨#[]⟩,.string ⟨#[]⟩] _ HRz.out Tryz.underlying34 rfl sizeA) (by assumption) ?_
   (try simp only [Act.put,List.setIfInBounds_toArray,List.set_cons_zero,List.set_cons_succ])
   refine wpAnyH_ready (rs:=[0]) (by kernel_rfl) (by simp) ?_
   refine AllReadyH.cons rfl (fun K9 hK=> ?_) AllReadyH.nil;rw [if_pos (by kernel_rfl)]
   go_simp
   have HQ1:=hid (show Below w8.heap.size w8 (w8.alloc (.cells #[] 39)).drew from ((Below.refl _ w8).alloc (Nat.le_refl _) _).drew);refine hK.out _ _ HQ1.out (fun hHeld2=> ?_);clear hK K9 hHeld
   rename _=>hHeld
   have HOe:=hid (show (w8.alloc (.cells #[] 39)).drew.ownsRow w8.heap.size 39 2 (.slice (some ⟨w8.heap.size,0,none⟩) 0 0) 0 [] from World.ownsRow_lit w8 #[] 0 (Nat.le_refl _) (by decide) rfl);have HOs:=hid (own_kept HO8.out HQ1.out);refine wpAnyH_ready (rs:=[2]) (by kernel_rfl) (by simp) ?_
   refine AllReadyH.cons rfl (fun K9 hK=> ?_) AllReadyH.nil;refine step_append_row12 rfl (.tmp 39) (.tmp 40) 29 rfl w8.heap.size 39 i0 _ 2 32 Tryz.underlying29 hi hz0 hz1 hz2 rfl (by decide) (.slice (some ⟨w8.heap.size,0,none⟩) 0 0) 0 [] rfl HOe.out qa m qc (cellsP P6) _ rfl HOs.out (cellsP_cell HRd8.out.oneCell) (by unfold maxLen;omega) (by omega) (by have:=HQ1.out.size;omega) ?_
   intro v9 w9 hown9 hgrow9;rw [Nat.zero_add,List.nil_append] at hown9
   obtain ⟨xa,xc,rfl,_,_⟩:=own_form10 hown9
   have HQ2:=hid (show Below w8.heap.size w8 w9 from HQ1.out.grown hgrow9 HQ1.out.size (fun k hk=>(HOe.out.lt k hk).1));have HO9:=hid hown9;clear hown9 hgrow9;refine hK.out _ _ HQ2.out (fun hHeld2=> ?_);clear hK K9 hHeld
   rename _=>hHeld
   refine wpAnyH_ready (rs:=[4]) (by kernel_rfl) (by simp) ?_
   refine AllReadyH.cons rfl (fun K9 hK=> ?_) AllReadyH.nil;rw [if_pos (by kernel_rfl)]
   go_simp
   go_wp2_with (go_at_call 11;refine (HFw.out _).mono ?_;rintro e wz ⟨rfl,hwz⟩;rw [<- hwz];clear hwz)
   refine hK.out _ _ HQ2.out (fun hHeld2=> ?_);clear hK K9 hHeld
   rename _=>hHeld
   refine wpAnyH_ready (rs:=[5]) (by kernel_rfl) (by simp) ?_
   refine AllReadyH.cons rfl (fun K9 hK=> ?_) AllReadyH.nil;rw [if_pos (by kernel_rfl)]
   go_simp
   go_wp2_with (go_at_call 10;refine (HPa.out _).mono ?_;rintro e w11 ⟨v11,Q11,rfl,hown11,hrd11,hba⟩)
   obtain ⟨na,nc,rfl,_,_⟩:=own_form10 hown11
   have HQ3:=hid (below2 HQ2.out hba);have HO11:=hid (own_kept HO9.out hba);have HON:=hid (show OnR w11 w8.heap.size (.slice na ln nc) LM from ⟨Q11,by rw [HLn.out];exact own_low10 hown11 HQ2.out.size,hrd11.low HQ2.out.size⟩);clear hown11 hrd11 hba;refine hK.out _ _ HQ3.out (fun hHeld2=> ?_);clear hK K9 hHeld
   rename _=>hHeld
   refine wpAnyH_ready (rs:=[6]) (by kernel_rfl) (by simp) ?_
   refine AllReadyH.cons rfl (fun K9 hK=> ?_) AllReadyH.nil;rw [if_pos (by kernel_rfl)]
   go_simp
   have HQ4:=hid (show Below w8.heap.size w8 (w11.alloc (.cells #[.slice na ln nc,.bool false] 39)) from HQ3.out.alloc HQ3.out.size _);refine hK.out _ _ HQ4.out (fun hHeld2=> ?_);clear hK K9 hHeld
   rename _=>hHeld
   refine wpAnyH_ready (rs:=[7]) (by kernel_rfl) (by simp) ?_
   refine AllReadyH.cons rfl (fun K9 hK=> ?_) AllReadyH.nil;refine step_append_own12 rfl (.tmp 41) (.tmp 45) 29 rfl w8.heap.size 39 i0 _ 2 32 Tryz.underlying29 hi hz0 hz1 hz2 rfl (by decide) (.slice xa m xc) m (cellsP P6) rfl (HO11.out.alloc _) ⟨w11.heap.size,0,none⟩ 1 1 [.slice na ln nc,.bool false] rfl rfl ?d1 ?d2 (by unfold maxLen;omega) (by omega) (by have:=HQ4.out.size;omega) ?_
   case d1=>
    intro q u hq;rw [Addr.add_mid];exact range_row (heap_alloc_new w11 _) q u hq
   case d2=>intro u hu;simp at hu;rcases hu with rfl | rfl<;>rfl
   intro v12 w12 hown12 hgrow12 hnil12;obtain ⟨za,zc,rfl,_,_⟩:=own_form10 hown12
   have HQ5:=hid (show Below w8.heap.size w8 w12 from HQ4.out.grown hgrow12 HQ4.out.size (fun k hk=>(HO11.out.lt k hk).1));have hk12:=grown_rt (HO11.out.alloc (.cells #[.slice na ln nc,.bool false] 39)) hgrow12;have hb12:=(Below.refl _ w11).alloc (Nat.le_refl _) (.cells #[.slice na ln nc,.bool false] 39);have HPL12:=hid (pl_snoc12 HMm.out (by rw [cellsP_app,cellsP_one];exact hown12) HRd8.out HBl8.out HQ5.out ((HON.out.keptB (w':=w11.alloc (.cells #[.slice na ln nc,.bool false] 39)) fun k _ _ _ hk2 _=>hb12.block k (Array.getElem?_eq_some_iff.1 hk2).1).keptB hk12))
   have HCh12:=hid (HCk.out (PS++[(LM,false)]) (.slice za (m+1) zc) (.slice pa pn pc) (.slice ya yn yc) w12 (below2 HB8.out HQ5.out) HPL12.out (HK7.out _ (below2 HD8.out HQ5.out)) (by rw [List.length_append,HMm.out];simp;omega) (fun q hq=>by
    rcases List.mem_append.1 hq with h | h
    ·exact (HSz.out q h).1
    ·rw [List.mem_singleton.1 h];exact HSl.out))
   rw [HVa.out] at HCh12;clear hown12 hgrow12 hnil12 hk12 hb12;refine hK.out _ _ HQ5.out (fun hHeld2=> ?_);clear hK K9 hHeld
   rename _=>hHeld
   refine wpAnyH_ready (rs:=[9]) (by kernel_rfl) (by simp) ?_
   refine AllReadyH.cons rfl (fun K9 hK=> ?_) AllReadyH.nil;rw [if_pos (by kernel_rfl)]
   go_simp
   go_wp2_with (go_at_call 9;refine HCh12.out.mono ?_;rintro e w13 ⟨u13,rfl,hvl13,hba⟩)
   obtain ⟨V2,hV2⟩: ∃ V,chkV (PS++[(LM,false)]) ⟨A,.slice pa pn pc,B,.slice ya yn yc,dt,0,⟨#[]⟩,⟨#[]⟩⟩=V:=⟨_,rfl⟩
   rw [hV2] at hvl13;obtain ⟨ea,ec,rfl,_,_,_⟩:=hvl13.view
   obtain ⟨en,hen⟩: ∃ n,V2.length=n:=⟨_,rfl⟩
   rw [hen] at hvl13;rw [hen];have HV2:=hid hV2;have HEn:=hid hen;have HVl13:=hid hvl13;have HQ6:=hid (below2 HQ5.out hba);clear hV2 hen hvl13 hba;refine hK.out _ _ HQ6.out (fun hHeld2=> ?_);clear hK K9 hHeld
   rename _=>hHeld
   refine' wpAnyH_take (i:=10) (oi:=⟨some 17,_,_,_,_,_⟩) (v:=_) rfl (by kernel_rfl) (by kernel_rfl) (by kernel_rfl) (fun _ _ _ h=>h) (Or.inl ⟨by kernel_rfl,?hyrg3⟩) (by assumption) ?restrg3
   case hyrg3=>(intro wx hSw;(try dsimp only at hSw);go_simp;first | done | with_reducible rfl)
   (try simp only [Act.put,List.setIfInBounds_toArray,List.set_cons_zero,List.set_cons_succ])
   refine wpAnyH_done (by kernel_rfl) ?_ _
   have hmo:=chkV_more PS (LM,false) ⟨A,.slice pa pn pc,B,.slice ya yn yc,dt,0,⟨#[]⟩,⟨#[]⟩⟩
   rw [HV.out,HV2.out,HVn.out,HEn.out] at hmo
   have hle:=hmo.1;have hv4:vn<=4:=by
    have:=chkV_le PS ⟨A,.slice pa pn pc,B,.slice ya yn yc,dt,0,⟨#[]⟩,⟨#[]⟩⟩
    rw [HV.out,HVn.out,HMm.out] at this
    omega
   have hnl: ¬ ((en:Int)<(vn:Int)):=by omega
   have hv0: ¬ ((vn:Int)<0):=by omega
   have hvt:=HVl13.out.take vn (by rw [HEn.out];exact hle)
   rw [hmo.2.1] at hvt;have HSm:=hid (sameV12_any (.slice ea vn ec) (.slice va vn vc) V w13 hvt (HVl8.out.kept HQ6.out) (by rw [HVn.out];omega));obtain ⟨qb,hqb⟩: ∃ q,blkV12 V=q:=⟨_,rfl⟩
   have HBk:=hid (fun (Z:World) (hZ:Below w8.heap.size w8 Z)=>blocks12_any (.slice va vn vc) V Z (HVl8.out.kept hZ) (by rw [HVn.out];omega));rw [hqb] at HBk;have HB2k:=hid (show qb=true->blkV12 V2=true from fun h=>hmo.2.2 (by rw [hqb];exact h));obtain ⟨hec1,hec2⟩:vn<=ec/\en<=ec:=by
    obtain ⟨_,_,e0,h1,_⟩:=HVl13.out.view
    injection e0 with _ _ e3
    subst e3;rw [HEn.out] at h1;exact ⟨by omega,h1⟩
   have HBw:=hid (fun (Z:World) (hZ:Below w13.heap.size w13 Z) (h:qb=true)=>(show Calls Tryz.prog 13 #[.slice ea en ec] Z fun e w'=>e = .returned (.bool true)/\Below Z.heap.size Z w' by
    have:=blocks12_any (.slice ea en ec) V2 Z (HVl13.out.kept hZ) (by
     obtain ⟨X,eX,hX⟩:=chkV_snoc12 PS (LM,false) ⟨A,.slice pa pn pc,B,.slice ya yn yc,dt,0,⟨#[]⟩,⟨#[]⟩⟩
     rw [HV.out,HV2.out] at eX
     rw [eX,List.length_append,HVn.out]
     omega)
    rw [HB2k.out h] at this;exact this))
   clear hmo hvt hqb
   go_wp2_with fail
   refine HSm.out.mono ?_;rintro e w14 ⟨rfl,hb14⟩
   have HQ7:=hid (below2 HQ6.out hb14);have HB14:=hid hb14;clear hb14
   go_wp2_with fail
   refine (HBk.out _ HQ7.out).mono ?_;rintro e w15 ⟨rfl,hb15⟩
   have HQ8:=hid (below2 HQ7.out hb15);have HB15:=hid (below2 HB14.out hb15);clear hb15
   cases qb with
   | false=>
     obtain ⟨wS,hwS⟩: ∃ W,W=w15:=⟨_,rfl⟩
     subst hwS;have HQn:=HQ8;have hbs:=HQn.out;have HLs:=hid (show Below w5.heap.size w5 wS/\wS.heap[w6.heap.size]? = some (.cells (askCells ⟨A,.slice pa pn pc,B,.slice ya yn yc,dt,0,⟨#[]⟩,⟨#[]⟩⟩).toArray 34 (0,0)) /\ ∃ P,wS.ownsRow w5.heap.size 39 2 (.slice qa m qc) m (cellsP P)/\RdW w5 wS w5.heap.size P (repK PS 0) from
      ⟨below2 HBl8.out hbs,row_kept HR8.out hbs,P6,own_kept HO8.out hbs,by rw [repK_zero];exact HRd8.out.kept hbs⟩)
     clear hbs
     go_wp2_with fail
     go_loopw [18] (fun v18 wr=> ∃ i:Nat,i<=m/\v18 = .int .i64 i/\Hid (Below w5.heap.size w5 wr/\wr.heap[w6.heap.size]? = some (.cells (askCells ⟨A,.slice pa pn pc,B,.slice ya yn yc,dt,0,⟨#[]⟩,⟨#[]⟩⟩).toArray 34 (0,0)) /\ ∃ P,wr.ownsRow w5.heap.size 39 2 (.slice qa m qc) m (cellsP P)/\RdW w5 wr w5.heap.size P (repK PS i))) (fun v18 _=>m - (intOf v18).toNat)
     case atStart=>exact ⟨0,Nat.zero_le _,rfl,HLs.out⟩
     case round=>
      clear HLs;obtain ⟨i,him,rfl,HJ⟩:=hrel
      obtain ⟨hb,hrow,P,hown,hrd⟩:=HJ.out
      have HBj:=hid hb;have HRow:=hid hrow;have HOwn:=hid hown;have HRd:=hid hrd;clear HJ;by_cases hlt:i<m
      ·have hlt':(i:Int)<(m:Int):=by omega
       have hi0: ¬ ((i:Int)<0):=by omega
       rcases hown.2 with ⟨_,h0⟩ | ⟨g,cap,cur,e0,hgb,hgh,_⟩
       ·omega
       ·injection e0 with ea _ ec
        subst ea;have hPi:i<P.length:=by rw [hrd.1,repK_len,HMm.out];exact hlt
        have d0:wr.cell? ⟨g,i*2+1,none⟩=some (.bool (P[i].2)):=by rw [HOwn.out.cellAt _ (by omega)];exact (cellsP_at P i hPi).2
        have z0:wr.frozen? ⟨g,i*2+1,none⟩=false:=Lib.frozen_of_heap hgh _
        have hrep:=RdW.rep (by rw [HMm.out];exact HOwn.out) HRd.out (by rw [HMm.out];exact hlt)
        rw [HMm.out] at hrep;have HN:=hid (show Below w5.heap.size w5 (wr.setCell ⟨g,i*2+1,none⟩ (.bool true))/\(wr.setCell ⟨g,i*2+1,none⟩ (.bool true)).heap[w6.heap.size]? = some (.cells (askCells ⟨A,.slice pa pn pc,B,.slice ya yn yc,dt,0,⟨#[]⟩,⟨#[]⟩⟩).toArray 34 (0,0)) /\ ∃ P,(wr.setCell ⟨g,i*2+1,none⟩ (.bool true)).ownsRow w5.heap.size 39 2 (.slice (some ⟨g,0,none⟩) m qc) m (cellsP P)/\RdW w5 (wr.setCell ⟨g,i*2+1,none⟩ (.bool true)) w5.heap.size P (repK PS (i+1)) from
         ⟨HBj.out.setCell (p:=⟨g,i*2+1,none⟩) hgb _,by
           rw [heap_setCell_other _ _ _ _ (fun e=>by
            have e2:w6.heap.size=g:=e;have:=(HO6.out.lt g rfl).2
            omega)]
           exact HRow.out,hrep⟩)
        clear hb hrow hown hrd hgh hrep
        go_wp2_with fail
        go_roundw
        case rel=>
         first
          | exact ⟨i+1,by omega,by go_num,HN.out⟩
          | ((repeat apply Exists.intro);refine ⟨?_,rfl⟩;exact ⟨i+1,by omega,by go_num,HN.out⟩)
          | ((repeat apply Exists.intro);exact ⟨⟨i+1,by omega,by go_num,HN.out⟩,rfl⟩)
        case measure=>simp [intOf];omega
      ·have hie:i=m:=by omega
       subst hie;have hin: ¬ ((i:Int)<(i:Int)):=by omega
       have hrd':=HRd.out;rw [<- HMm.out,repK_all] at hrd';have hplr:=own_plw (by rw [repA_len,HMm.out];exact HOwn.out) hrd' HBj.out
       have HAs:=hid (fun (Z:World) (hZ:Below wr.heap.size wr Z)=>(show AskAt Z ⟨A,.slice pa pn pc,B,.slice ya yn yc,dt,0,⟨#[]⟩,⟨#[]⟩⟩ from ⟨(HP4.out.kept HD5.out).kept (below2 HBj.out hZ),own_path (own_kept (own_kept HU4.out HD5.out) (below2 HBj.out hZ))⟩));have HChE:=hid (fun (Z:World) (hZ:Below wr.heap.size wr Z)=>HCk.out (repA PS) (.slice qa i qc) (.slice pa pn pc) (.slice ya yn yc) Z (below2 HB5.out (below2 HBj.out hZ)) (hplr.kept hZ) (HAs.out Z hZ) (by rw [repA_len,HMm.out];omega) (fun q hq=>by
        unfold repA at hq;obtain ⟨q0,h0,rfl⟩:=List.mem_map.1 hq
        exact (HSz.out q0 h0).1))
       rw [HVa.out] at HChE;obtain ⟨VR,hVR⟩: ∃ V,chkV (repA PS) ⟨A,.slice pa pn pc,B,.slice ya yn yc,dt,0,⟨#[]⟩,⟨#[]⟩⟩=V:=⟨_,rfl⟩
       have hRl:VR.length=vn:=by rw [<- hVR,chkV_rep_len,HV.out,HVn.out]
       have hRb:blkV12 VR=false:=by rw [<- hVR];exact chkV_rep_blk _ _
       rw [hVR] at HChE;have HRl:=hid hRl;have HRb:=hid hRb;have HRgE:=hid (fun (Z:World) (hZ:Below wr.heap.size wr Z)=>(show Z.rangeAt w6.heap.size 0 [.string p0,.string p1,.string p2,.string p3,.bool p4,.int .i64 p5,.bool p6,.slice pa pn pc,.string p8,.string p9,.bool p10,.bool p11,.string y0,.string y1,.string y2,.string y3,.bool y4,.int .i64 y5,.bool y6,.slice ya yn yc,.string y8,.string y9,.bool y10,.bool y11,.int .i64 dt,.int .i64 0,.string ⟨#[]⟩,.string ⟨#[]⟩] by
        have:=range_row (row_kept HRow.out hZ);rw [HXa.out] at this;exact this))
       have HE0:=hid (Below.refl wr.heap.size wr);have HRg0:=hid (HRgE.out wr HE0.out);clear hb hrow hown hrd hrd' hplr hVR hRl hRb
       go_wp2_with (refine wpList_load_mid rfl 34 (.tmp 15) rfl w6.heap.size 0 rfl [.string p0,.string p1,.string p2,.string p3,.bool p4,.int .i64 p5,.bool p6,.slice pa pn pc,.string p8,.string p9,.bool p10,.bool p11,.string y0,.string y1,.string y2,.string y3,.bool y4,.int .i64 y5,.bool y6,.slice ya yn yc,.string y8,.string y9,.bool y10,.bool y11,.int .i64 dt,.int .i64 0,.string ⟨#[]⟩,.string ⟨#[]⟩] _ HRg0.out Tryz.underlying34 rfl sizeA ?_)
       refine (HChE.out wr HE0.out).mono ?_;rintro e w16 ⟨u16,rfl,hvl16,hb16⟩
       obtain ⟨fa,fc,rfl,_,_,_⟩:=hvl16.view
       rw [HRl.out] at hvl16 ⊢;have HE1:=hid hb16;have HBkE:=hid (blocks12_any (.slice fa vn fc) VR w16 hvl16 (by have:=HRl.out;omega));rw [HRb.out] at HBkE;clear hvl16 hb16
       go_wp2_with fail
       refine HBkE.out.mono ?_;rintro e w17 ⟨rfl,hb17⟩
       have HE2:=hid (below2 HE1.out hb17);have HRg2:=hid (HRgE.out w17 HE2.out);clear hb17
       go_wp2_with (refine load_mid_g12 (by kernel_rfl) 34 (.tmp 15) rfl w6.heap.size 0 rfl [.string p0,.string p1,.string p2,.string p3,.bool p4,.int .i64 p5,.bool p6,.slice pa pn pc,.string p8,.string p9,.bool p10,.bool p11,.string y0,.string y1,.string y2,.string y3,.bool y4,.int .i64 y5,.bool y6,.slice ya yn yc,.string y8,.string y9,.bool y10,.bool y11,.int .i64 dt,.int .i64 0,.string ⟨#[]⟩,.string ⟨#[]⟩] _ HRg2.out Tryz.underlying34 rfl sizeA ?_)
       refine (HChE.out w17 HE2.out).mono ?_;rintro e w18 ⟨u18,rfl,hvl18,hb18⟩
       obtain ⟨ka,kc,rfl,_,_,_⟩:=hvl18.view
       rw [HRl.out];have HE3:=hid (below2 HE2.out hb18);clear hvl18 hb18
       go_wp2_with fail
       refine (HKn.out _ (HG0.out.kept (below2 HB5.out (below2 HBj.out HE3.out)))).mono ?_;rintro e w19 ⟨rfl,hb19⟩
       go_wp2
       go_ret
       exact ⟨rfl,below2 HB5.out (below2 HBj.out (below2 HE3.out hb19))⟩
   | true=>
     have HBt:=hid (HBw.out _ HB15.out rfl)
     go_wp2_with fail
     refine HBt.out.mono ?_;rintro e wS ⟨rfl,hbS⟩
     have HQn:=hid (below2 HQ8.out hbS);clear hbS;have hbs:=HQn.out;have HLs:=hid (show Below w5.heap.size w5 wS/\wS.heap[w6.heap.size]? = some (.cells (askCells ⟨A,.slice pa pn pc,B,.slice ya yn yc,dt,0,⟨#[]⟩,⟨#[]⟩⟩).toArray 34 (0,0)) /\ ∃ P,wS.ownsRow w5.heap.size 39 2 (.slice qa m qc) m (cellsP P)/\RdW w5 wS w5.heap.size P (repK PS 0) from
      ⟨below2 HBl8.out hbs,row_kept HR8.out hbs,P6,own_kept HO8.out hbs,by rw [repK_zero];exact HRd8.out.kept hbs⟩)
     clear hbs
     go_wp2_with fail
     go_loopw [18] (fun v18 wr=> ∃ i:Nat,i<=m/\v18 = .int .i64 i/\Hid (Below w5.heap.size w5 wr/\wr.heap[w6.heap.size]? = some (.cells (askCells ⟨A,.slice pa pn pc,B,.slice ya yn yc,dt,0,⟨#[]⟩,⟨#[]⟩⟩).toArray 34 (0,0)) /\ ∃ P,wr.ownsRow w5.heap.size 39 2 (.slice qa m qc) m (cellsP P)/\RdW w5 wr w5.heap.size P (repK PS i))) (fun v18 _=>m - (intOf v18).toNat)
     case atStart=>exact ⟨0,Nat.zero_le _,rfl,HLs.out⟩
     case round=>
      clear HLs;obtain ⟨i,him,rfl,HJ⟩:=hrel
      obtain ⟨hb,hrow,P,hown,hrd⟩:=HJ.out
      have HBj:=hid hb;have HRow:=hid hrow;have HOwn:=hid hown;have HRd:=hid hrd;clear HJ;by_cases hlt:i<m
      ·have hlt':(i:Int)<(m:Int):=by omega
       have hi0: ¬ ((i:Int)<0):=by omega
       rcases hown.2 with ⟨_,h0⟩ | ⟨g,cap,cur,e0,hgb,hgh,_⟩
       ·omega
       ·injection e0 with ea _ ec
        subst ea;have hPi:i<P.length:=by rw [hrd.1,repK_len,HMm.out];exact hlt
        have d0:wr.cell? ⟨g,i*2+1,none⟩=some (.bool (P[i].2)):=by rw [HOwn.out.cellAt _ (by omega)];exact (cellsP_at P i hPi).2
        have z0:wr.frozen? ⟨g,i*2+1,none⟩=false:=Lib.frozen_of_heap hgh _
        have hrep:=RdW.rep (by rw [HMm.out];exact HOwn.out) HRd.out (by rw [HMm.out];exact hlt)
        rw [HMm.out] at hrep;have HN:=hid (show Below w5.heap.size w5 (wr.setCell ⟨g,i*2+1,none⟩ (.bool true))/\(wr.setCell ⟨g,i*2+1,none⟩ (.bool true)).heap[w6.heap.size]? = some (.cells (askCells ⟨A,.slice pa pn pc,B,.slice ya yn yc,dt,0,⟨#[]⟩,⟨#[]⟩⟩).toArray 34 (0,0)) /\ ∃ P,(wr.setCell ⟨g,i*2+1,none⟩ (.bool true)).ownsRow w5.heap.size 39 2 (.slice (some ⟨g,0,none⟩) m qc) m (cellsP P)/\RdW w5 (wr.setCell ⟨g,i*2+1,none⟩ (.bool true)) w5.heap.size P (repK PS (i+1)) from
         ⟨HBj.out.setCell (p:=⟨g,i*2+1,none⟩) hgb _,by
           rw [heap_setCell_other _ _ _ _ (fun e=>by
            have e2:w6.heap.size=g:=e;have:=(HO6.out.lt g rfl).2
            omega)]
           exact HRow.out,hrep⟩)
        clear hb hrow hown hrd hgh hrep
        go_wp2_with fail
        go_roundw
        case rel=>
         first
          | exact ⟨i+1,by omega,by go_num,HN.out⟩
          | ((repeat apply Exists.intro);refine ⟨?_,rfl⟩;exact ⟨i+1,by omega,by go_num,HN.out⟩)
          | ((repeat apply Exists.intro);exact ⟨⟨i+1,by omega,by go_num,HN.out⟩,rfl⟩)
        case measure=>simp [intOf];omega
      ·have hie:i=m:=by omega
       subst hie;have hin: ¬ ((i:Int)<(i:Int)):=by omega
       have hrd':=HRd.out;rw [<- HMm.out,repK_all] at hrd';have hplr:=own_plw (by rw [repA_len,HMm.out];exact HOwn.out) hrd' HBj.out
       have HAs:=hid (fun (Z:World) (hZ:Below wr.heap.size wr Z)=>(show AskAt Z ⟨A,.slice pa pn pc,B,.slice ya yn yc,dt,0,⟨#[]⟩,⟨#[]⟩⟩ from ⟨(HP4.out.kept HD5.out).kept (below2 HBj.out hZ),own_path (own_kept (own_kept HU4.out HD5.out) (below2 HBj.out hZ))⟩));have HChE:=hid (fun (Z:World) (hZ:Below wr.heap.size wr Z)=>HCk.out (repA PS) (.slice qa i qc) (.slice pa pn pc) (.slice ya yn yc) Z (below2 HB5.out (below2 HBj.out hZ)) (hplr.kept hZ) (HAs.out Z hZ) (by rw [repA_len,HMm.out];omega) (fun q hq=>by
        unfold repA at hq;obtain ⟨q0,h0,rfl⟩:=List.mem_map.1 hq
        exact (HSz.out q0 h0).1))
       rw [HVa.out] at HChE;obtain ⟨VR,hVR⟩: ∃ V,chkV (repA PS) ⟨A,.slice pa pn pc,B,.slice ya yn yc,dt,0,⟨#[]⟩,⟨#[]⟩⟩=V:=⟨_,rfl⟩
       have hRl:VR.length=vn:=by rw [<- hVR,chkV_rep_len,HV.out,HVn.out]
       have hRb:blkV12 VR=false:=by rw [<- hVR];exact chkV_rep_blk _ _
       rw [hVR] at HChE;have HRl:=hid hRl;have HRb:=hid hRb;have HRgE:=hid (fun (Z:World) (hZ:Below wr.heap.size wr Z)=>(show Z.rangeAt w6.heap.size 0 [.string p0,.string p1,.string p2,.string p3,.bool p4,.int .i64 p5,.bool p6,.slice pa pn pc,.string p8,.string p9,.bool p10,.bool p11,.string y0,.string y1,.string y2,.string y3,.bool y4,.int .i64 y5,.bool y6,.slice ya yn yc,.string y8,.string y9,.bool y10,.bool y11,.int .i64 dt,.int .i64 0,.string ⟨#[]⟩,.string ⟨#[]⟩] by
        have:=range_row (row_kept HRow.out hZ);rw [HXa.out] at this;exact this))
       have HE0:=hid (Below.refl wr.heap.size wr);have HRg0:=hid (HRgE.out wr HE0.out);clear hb hrow hown hrd hrd' hplr hVR hRl hRb
       go_wp2_with (refine wpList_load_mid rfl 34 (.tmp 15) rfl w6.heap.size 0 rfl [.string p0,.string p1,.string p2,.string p3,.bool p4,.int .i64 p5,.bool p6,.slice pa pn pc,.string p8,.string p9,.bool p10,.bool p11,.string y0,.string y1,.string y2,.string y3,.bool y4,.int .i64 y5,.bool y6,.slice ya yn yc,.string y8,.string y9,.bool y10,.bool y11,.int .i64 dt,.int .i64 0,.string ⟨#[]⟩,.string ⟨#[]⟩] _ HRg0.out Tryz.underlying34 rfl sizeA ?_)
       refine (HChE.out wr HE0.out).mono ?_;rintro e w16 ⟨u16,rfl,hvl16,hb16⟩
       obtain ⟨fa,fc,rfl,_,_,_⟩:=hvl16.view
       rw [HRl.out] at hvl16 ⊢;have HE1:=hid hb16;have HBkE:=hid (blocks12_any (.slice fa vn fc) VR w16 hvl16 (by have:=HRl.out;omega));rw [HRb.out] at HBkE;clear hvl16 hb16
       go_wp2_with fail
       refine HBkE.out.mono ?_;rintro e w17 ⟨rfl,hb17⟩
       have HE2:=hid (below2 HE1.out hb17);have HRg2:=hid (HRgE.out w17 HE2.out);clear hb17
       go_wp2_with (refine load_mid_g12 (by kernel_rfl) 34 (.tmp 15) rfl w6.heap.size 0 rfl [.string p0,.string p1,.string p2,.string p3,.bool p4,.int .i64 p5,.bool p6,.slice pa pn pc,.string p8,.string p9,.bool p10,.bool p11,.string y0,.string y1,.string y2,.string y3,.bool y4,.int .i64 y5,.bool y6,.slice ya yn yc,.string y8,.string y9,.bool y10,.bool y11,.int .i64 dt,.int .i64 0,.string ⟨#[]⟩,.string ⟨#[]⟩] _ HRg2.out Tryz.underlying34 rfl sizeA ?_)
       refine (HChE.out w17 HE2.out).mono ?_;rintro e w18 ⟨u18,rfl,hvl18,hb18⟩
       obtain ⟨ka,kc,rfl,_,_,_⟩:=hvl18.view
       rw [HRl.out];have HE3:=hid (below2 HE2.out hb18);clear hvl18 hb18
       go_wp2_with fail
       refine (HKn.out _ (HG0.out.kept (below2 HB5.out (below2 HBj.out HE3.out)))).mono ?_;rintro e w19 ⟨rfl,hb19⟩
       go_wp2
       go_ret
       exact ⟨rfl,below2 HB5.out (below2 HBj.out (below2 HE3.out hb19))⟩
theorem spot_none15 {w:World} {x:Addr} {v:Value} (h:w.cell? x=some v):x.spot=none:=by
 unfold World.cell? at h
 cases hs:x.spot with
 | none=>rfl
 | some y=>
   rw [hs] at h;split at h
   ·simp at h
   ·cases h
theorem tx_arg {w:World} {x:Addr} {len cap:Nat} {ss:List ByteArray} (hl:len<=cap) (hm:cap<=maxLen) (hz:ss.length=cap) (hcell: ∀ i,i<ss.length->w.cell? (x.add i)=some (.string (ss.getD i ByteArray.empty))) (hws: ∀ s ∈ ss,s.size<=maxLen):
 ∃ L,TxAt w (.slice (some x) len cap) L /\ ∀ y ∈ L,y.length<=maxLen:=by
 have hL:((ss.take len).map (·.data.toList)).length=len:=by simp;omega
 refine ⟨(ss.take len).map (·.data.toList),⟨some x,cap,by rw [hL],by omega,hm,fun j hj=> ?_⟩,fun y hy=> ?_⟩
 ·rw [hL] at hj
  have h0:=hcell 0 (by omega)
  have hsp:x.spot=none:=spot_none15 (by simpa [Addr.add] using h0)
  refine ⟨x.block,x.off,by rw [<- hsp],?_⟩
  have hc:=hcell j (by omega)
  have e:x.add j=⟨x.block,x.off+j,none⟩:=by
   unfold Addr.add;split
   ·subst_vars;rw [<- hsp];rfl
   ·rfl
  rw [e] at hc;rw [hc];have hjs:j<ss.length:=by omega
  simp [List.getD,hjs]
 ·simp only [List.mem_map] at hy
  obtain ⟨s,hs,rfl⟩:=hy
  have:=hws s (List.mem_of_mem_take hs);simpa using this
end Go.Proofs.YtijpkalkfbejeaaGreatDoor
