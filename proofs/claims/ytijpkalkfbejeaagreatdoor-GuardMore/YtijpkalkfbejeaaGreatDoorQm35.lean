/- Walks and plain facts. -/
import Derived.Test.YtijpkalkfbejeaaGreatDoorQm31
set_option linter.unusedSimpArgs false
set_option linter.unusedVariables false
set_option maxHeartbeats 16000000
set_option maxRecDepth 100000

namespace Go.Proofs.YtijpkalkfbejeaaGreatDoor
open Go.RowKit
theorem infoVi:(Tryz.prog.info? 44).map (fun i=>(i.zero,i.size,i.bytes))=some (some (.agg #[.int .i64 0,.string ByteArray.empty,.string ByteArray.empty,.bool false]),4,48):=by kernel_rfl
theorem step_append_own12 {P:Program} {ops:Array Oper} {o:Oper} {a:Act} {w:World} {K:Act->World->Prop} {Q:Exit->Act->World->Prop} {E:Prop} (hgd:o.guard=none) (s x:Operand) (t:TypeId)
 (ho:o.op = .call { callee:= .builtin .append,args:= #[s,x],argTypes:= #[t,t] })
 (base:Nat) (e:TypeId) (i:TypeInfo) (z:Value) (size bytes:Nat) (ht:P.underlying t=some (.slice e)) (hi:P.info? e=some i) (hz:i.zero=some z)
 (hsize:i.size=size) (hby:i.bytes=bytes) (hzs:z.cells.size=size) (hsz:0<size)
 (v:Value) (n:Nat) (xs:List Value) (hs:a.eval s=v) (hown:w.ownsRow base e size v n xs)
 (ad:Addr) (m c:Nat) (news:List Value) (hx:a.eval x = .slice (some ad) m c) (hl:news.length=m*size) (hnews: ∀ j u,news[j]? = some u->w.cell? (ad.add j)=some u) (h1: ∀ u ∈ news,u.oneCell'=true)
 (h63:n+m<=maxLen) (hbytes:(n+m)*bytes<=140737488355328) (hbase:base<=w.heap.size)
 (h: ∀ v' w',w'.ownsRow base e size v' (n+m) (xs++news)->w.grownBy w' v.ownBlock->(v' = .slice none 0 0 ↔ v = .slice none 0 0/\m=0)->K (a.put o.dst v') w'):
 if Region.wanted o (yielded ops a.tmps)=true then Oper.wp P o a w K Q else E:=by
 rw [if_pos (by simp [Region.wanted,hgd])];exact wp_append_own w s x t ho base e i z size bytes ht hi hz hsize hby hzs hsz v n xs hs hown ad m c news hx hl hnews h1 h63 hbytes hbase h
def GvI (w:World) (p:Nat) (L:List Vio):Prop:= ∃ a c,w.heap[p]? = some (.cells #[.slice a L.length c] 58 (0,0))/\w.ownsRow (p+1) 44 4 (.slice a L.length c) L.length (cellsV L)
def GvK (p:Nat) (w w':World):Prop:=Below p w w' /\ ∀ k cur U fz,w.heap[k]? = some (Obj.cells cur U fz)->U≠44->k≠p->w'.heap[k]? = w.heap[k]?
theorem add12_any (p:Nat) (L:List Vio) (x:Vio) (w:World) (hI:GvI w p L) (hl:L.length<=1000000):
 Calls Tryz.prog 18 #[.pointer (some ⟨p,0,none⟩),vioVal x] w fun e w'=>e = .returned (.tuple #[])/\GvI w' p (L++[x])/\GvK p w w':=by
 obtain ⟨i0,hi,hz0,hz1,hz2⟩:=info3 infoVi
 obtain ⟨a,c,hrow,hown⟩:=hI
 obtain ⟨n,hn⟩: ∃ n,n=L.length:=⟨_,rfl⟩
 rw [<- hn] at hrow hown hl;have HN:=hid hn;have HOwn0:=hid hown;obtain ⟨P,X',Y',r⟩:=x
 obtain ⟨X,hX⟩: ∃ V:ByteArray,(⟨X'.toArray⟩:ByteArray)=V:=⟨_,rfl⟩
 obtain ⟨Y,hY⟩: ∃ V:ByteArray,(⟨Y'.toArray⟩:ByteArray)=V:=⟨_,rfl⟩
 have hcs:vioCells ⟨P,X',Y',r⟩=[.int .i64 P,.string X,.string Y,.bool r]:=by unfold vioCells;rw [<- hX,<- hY]
 have hvv:vioVal ⟨P,X',Y',r⟩ = .agg #[.int .i64 P,.string X,.string Y,.bool r]:=by unfold vioVal;rw [hcs]
 rw [hvv];have HCs:=hid hcs;have hpl:p<w.heap.size:=(Array.getElem?_eq_some_iff.1 hrow).1;obtain ⟨W1,hW1⟩: ∃ Z,(w.alloc (.cells #[.int .i64 P,.string X,.string Y,.bool r] 44))=Z:=⟨_,rfl⟩
 have hb1:Below w.heap.size w W1:=by rw [<- hW1];exact (Below.refl _ w).alloc (Nat.le_refl _) _
 have hr1:W1.heap[w.heap.size]? = some (.cells #[.int .i64 P,.string X,.string Y,.bool r] 44 (0,0)):=by rw [<- hW1];exact heap_alloc_new w _
 have hs1:W1.heap.size=w.heap.size+1:=by rw [<- hW1];simp
 have hrow1:W1.heap[p]? = some (.cells #[.slice a n c] 58 (0,0)):=by rw [hb1.block p hpl];exact hrow
 have HRow:=hid (fun (Z:World) (hZ:Below W1.heap.size W1 Z)=>(show Z.heap[p]? = some (.cells #[.slice a n c] 58 (0,0)) by rw [hZ.block p (by omega)];exact hrow1));have HOwn:=hid (fun (Z:World) (hZ:Below W1.heap.size W1 Z)=>own_kept (own_kept hown hb1) hZ);have HSK:=hid (show ∀ Z,Below W1.heap.size W1 Z->(fun wx:World=>wx.cell? ⟨p,0,none⟩=some (.slice a n c)/\wx.cell? ⟨w.heap.size,0,none⟩=some (.int .i64 P)/\wx.cell? ⟨w.heap.size,1,none⟩=some (.string X)/\wx.cell? ⟨w.heap.size,2,none⟩=some (.string Y)/\wx.cell? ⟨w.heap.size,3,none⟩=some (.bool r)) Z from fun Z hZ=>by
  have h1:=HRow.out Z hZ;have h2:Z.heap[w.heap.size]? = _:=(hZ.block w.heap.size (by omega)).trans hr1;exact ⟨by rw [Lib.cell_of_heap h1];rfl,by rw [Lib.cell_of_heap h2];rfl,by rw [Lib.cell_of_heap h2];rfl,by rw [Lib.cell_of_heap h2];rfl,by rw [Lib.cell_of_heap h2];rfl⟩)
 have HB1:=hid hb1;have HS1:=hid hs1;have HPl:=hid hpl;have HQ0:=hid ((Below.refl W1.heap.size W1).drew);have HS:=hid (HSK.out W1.drew HQ0.out);clear hrow hown hn hX hY hcs hvv hpl hb1 hr1 hs1 hrow1
 go_enter Tryz.func18,Tryz.ntmps18
 go_wp2_with fail
 refine AnyBut.start (n:=8) (S:=(fun wx:World=>wx.cell? ⟨p,0,none⟩=some (.slice a n c)/\wx.cell? ⟨w.heap.size,0,none⟩=some (.int .i64 P)/\wx.cell? ⟨w.heap.size,1,none⟩=some (.string X)/\wx.cell? ⟨w.heap.size,2,none⟩=some (.string Y)/\wx.cell? ⟨w.heap.size,3,none⟩=some (.bool r))) (by kernel_rfl) ?_
 refine' AnyBut.take (i:=0) (oi:=⟨some 4,_,_,_,_,_⟩) (v:=_) rfl (by kernel_rfl) (by kernel_rfl) (fun _ _ _ h=>h) _ _ _ _ (by kernel_rfl) (by kernel_rfl) (Or.inl ⟨by kernel_rfl,?hy0⟩) HS.out ?rest0
 case hy0=>(intro wx hSw;(try dsimp only at hSw);obtain ⟨s0,b0,b1,b2,b3⟩:=hSw;go_simp;first | done | with_reducible rfl)
 (try simp only [Act.put,List.setIfInBounds_toArray,List.set_cons_zero,List.set_cons_succ])
 refine' AnyBut.take (i:=1) (oi:=⟨some 5,_,_,_,_,_⟩) (v:=_) rfl (by kernel_rfl) (by kernel_rfl) (fun _ _ _ h=>h) _ _ _ _ (by kernel_rfl) (by kernel_rfl) (Or.inl ⟨by kernel_rfl,?hy1⟩) HS.out ?rest1
 case hy1=>(intro wx hSw;(try dsimp only at hSw);obtain ⟨s0,b0,b1,b2,b3⟩:=hSw;go_simp;first | done | with_reducible rfl)
 (try simp only [Act.put,List.setIfInBounds_toArray,List.set_cons_zero,List.set_cons_succ])
 refine' AnyBut.take (i:=2) (oi:=⟨some 6,_,_,_,_,_⟩) (v:=_) rfl (by kernel_rfl) (by kernel_rfl) (fun _ _ _ h=>h) _ _ _ _ (by kernel_rfl) (by kernel_rfl) (Or.inl ⟨by kernel_rfl,?hy2⟩) HS.out ?rest2
 case hy2=>(intro wx hSw;(try dsimp only at hSw);obtain ⟨s0,b0,b1,b2,b3⟩:=hSw;go_simp;first | done | with_reducible rfl)
 (try simp only [Act.put,List.setIfInBounds_toArray,List.set_cons_zero,List.set_cons_succ])
 refine' AnyBut.take (i:=3) (oi:=⟨some 7,_,_,_,_,_⟩) (v:=_) rfl (by kernel_rfl) (by kernel_rfl) (fun _ _ _ h=>h) _ _ _ _ (by kernel_rfl) (by kernel_rfl) (Or.inl ⟨by kernel_rfl,?hy3⟩) HS.out ?rest3
 case hy3=>(intro wx hSw;(try dsimp only at hSw);obtain ⟨s0,b0,b1,b2,b3⟩:=hSw;go_simp;first | done | with_reducible rfl)
 (try simp only [Act.put,List.setIfInBounds_toArray,List.set_cons_zero,List.set_cons_succ])
 refine' AnyBut.take (i:=4) (oi:=⟨some 8,_,_,_,_,_⟩) (v:=_) rfl (by kernel_rfl) (by kernel_rfl) (fun _ _ _ h=>h) _ _ _ _ (by kernel_rfl) (by kernel_rfl) (Or.inl ⟨by kernel_rfl,?hy4⟩) HS.out ?rest4
 case hy4=>(intro wx hSw;(try dsimp only at hSw);obtain ⟨s0,b0,b1,b2,b3⟩:=hSw;go_simp;first | done | with_reducible rfl)
 (try simp only [Act.put,List.setIfInBounds_toArray,List.set_cons_zero,List.set_cons_succ])
 refine AnyBut.one (i:=5) (by kernel_rfl) rfl (fun K' hK=> ?_)
 rw [if_pos (by kernel_rfl)]
 go_simp
 have HQ2:=hid (show Below W1.heap.size W1 (W1.alloc (.cells #[.int .i64 P,.string X,.string Y,.bool r] 44)).drew from ((Below.refl W1.heap.size W1).alloc (Nat.le_refl _) _).drew);clear HS;have HS:=hid (HSK.out _ HQ2.out);refine hK.out _ _ HS.out ?_;clear hK K';have HOw3:=hid (HOwn.out _ HQ2.out);have HRow3:=hid (HRow.out _ HQ2.out);have hsz3:(W1.alloc (.cells #[.int .i64 P,.string X,.string Y,.bool r] 44)).drew.heap.size=W1.heap.size+1:=by
  show (W1.alloc _).heap.size=_;simp
 have HSz3:=hid hsz3;clear hsz3;refine AnyBut.one (i:=6) (by kernel_rfl) rfl (fun K' hK=> ?_)
 refine step_append_own12 rfl (.tmp 7) (.tmp 9) 58 rfl (p+1) 44 i0 _ 4 48 Tryz.underlying58 hi hz0 hz1 hz2 rfl (by decide) (.slice a n c) n (cellsV L) rfl HOw3.out ⟨W1.heap.size,0,none⟩ 1 1 [.int .i64 P,.string X,.string Y,.bool r] rfl rfl ?c1 ?c2 (by unfold maxLen;omega) (by omega) (by have:=HSz3.out;have:=HPl.out;have:=HS1.out;omega) ?_
 case c1=>
  intro q u hq;rw [Addr.add_mid];exact range_row (heap_alloc_new W1 _) q u hq
 case c2=>intro u hu;simp at hu;rcases hu with rfl | rfl | rfl | rfl<;>rfl
 intro v4 w4 hown4 hgrow4 hnil4;have hform: ∃ g4 c4,v4 = .slice (some ⟨g4,0,none⟩) (n+1) c4:=by
  rcases hown4.2 with ⟨_,h0⟩ | ⟨g,cap,cur,hv,_⟩
  ·omega
  ·exact ⟨g,cap,hv⟩
 obtain ⟨g4,c4,rfl⟩:=hform
 have hblk:w4.heap[p]? = some (.cells #[.slice a n c] 58 (0,0)):=by
  have h1:=(Array.getElem?_eq_some_iff.1 HRow3.out).1;rw [hgrow4.block _ h1 (fun e=>by have:=(HOw3.out.lt p e.symm).1;omega)];exact HRow3.out
 have HGI:=hid (show GvI (w4.setCell ⟨p,0,none⟩ (.slice (some ⟨g4,0,none⟩) (n+1) c4)) p (L++[⟨P,X',Y',r⟩]) by
  have hlen:(L++[(⟨P,X',Y',r⟩:Vio)]).length=n+1:=by rw [List.length_append,<- HN.out];rfl
  refine ⟨some ⟨g4,0,none⟩,c4,?_,?_⟩
  ·rw [hlen];exact Lib.heap_setCell_same hblk (i:=0) _
  ·rw [hlen,cellsV_app,cellsV_one,HCs.out]
   refine ownsRow_same hown4 fun g hg=> ?_
   have:=(hown4.lt g hg).1;exact heap_setCell_other _ _ _ _ (fun e=>by have e2:g=p:=e;omega))
 have HGK:=hid (show GvK p w (w4.setCell ⟨p,0,none⟩ (.slice (some ⟨g4,0,none⟩) (n+1) c4)) by
  have hpl:=HPl.out;have hb3:Below p w (W1.alloc (.cells #[.int .i64 P,.string X,.string Y,.bool r] 44)).drew:=(below2 HB1.out HQ2.out).mono (by omega)
  refine ⟨(hb3.grown hgrow4 (by have:=HSz3.out;have:=HS1.out;omega) (fun k hk=>by have:=(HOw3.out.lt k hk).1;omega)).setCell (p:=⟨p,0,none⟩) (Nat.le_refl _) _,fun k cur U fz hk hU hne=> ?_⟩;have hkl:k<w.heap.size:=(Array.getElem?_eq_some_iff.1 hk).1;have e1:(W1.alloc (.cells #[.int .i64 P,.string X,.string Y,.bool r] 44)).drew.heap[k]? = w.heap[k]? :=(below2 HB1.out HQ2.out).block k hkl;rw [heap_setCell_other _ _ _ _ (fun e=>hne (by simpa using e)),hgrow4.block k (by have:=HSz3.out;have:=HS1.out;omega) (fun e=> ?_),e1];obtain ⟨c2,hc2⟩:=ownsRow_kind HOw3.out k e.symm
  rw [e1,hk] at hc2
  injection hc2 with hc2
  injection hc2 with _ hc2 _
  exact hU hc2)
 have HC4:=hid (show ((fun wx:World=>wx.cell? ⟨p,0,none⟩=some (.slice a n c)/\wx.cell? ⟨w.heap.size,0,none⟩=some (.int .i64 P)/\wx.cell? ⟨w.heap.size,1,none⟩=some (.string X)/\wx.cell? ⟨w.heap.size,2,none⟩=some (.string Y)/\wx.cell? ⟨w.heap.size,3,none⟩=some (.bool r))) w4 by
  have hb:w4.heap[w.heap.size]? = (W1.alloc (.cells #[.int .i64 P,.string X,.string Y,.bool r] 44)).drew.heap[w.heap.size]? :=hgrow4.block _ (by have:=HSz3.out;have:=HS1.out;omega) (fun e=>by
   obtain ⟨cur,hcur⟩:=ownsRow_kind HOwn0.out w.heap.size e.symm
   have:=(Array.getElem?_eq_some_iff.1 hcur).1
   omega)
  have h2:=HS.out;obtain ⟨_,q0,q1,q2,q3⟩:=h2
  refine ⟨by rw [Lib.cell_of_heap hblk];rfl,?_,?_,?_,?_⟩
  ·exact (World.cell?_of_block (a:=⟨w.heap.size,0,none⟩) hb).trans q0
  ·exact (World.cell?_of_block (a:=⟨w.heap.size,1,none⟩) hb).trans q1
  ·exact (World.cell?_of_block (a:=⟨w.heap.size,2,none⟩) hb).trans q2
  ·exact (World.cell?_of_block (a:=⟨w.heap.size,3,none⟩) hb).trans q3)
 have HF4:=hid (show w4.frozen? ⟨p,0,none⟩=false by simp [World.frozen?,hblk]);clear hown4 hgrow4 hnil4 hblk;refine hK.out _ _ HC4.out ?_;clear hK K' HS;have HS:=hid HC4.out
 refine' AnyBut.take (i:=7) (oi:=⟨some 11,_,_,_,_,_⟩) (v:=_) rfl (by kernel_rfl) (by kernel_rfl) (fun _ _ _ h=>h) _ _ _ _ (by kernel_rfl) (by kernel_rfl) (Or.inl ⟨by kernel_rfl,?hy7⟩) HS.out ?rest7
 case hy7=>(intro wx hSw;(try dsimp only at hSw);obtain ⟨s0,b0,b1,b2,b3⟩:=hSw;go_simp;first | done | with_reducible rfl)
 (try simp only [Act.put,List.setIfInBounds_toArray,List.set_cons_zero,List.set_cons_succ])
 have d0:=HC4.out.1;have z0:=HF4.out;refine AnyBut.last (by kernel_rfl) (by kernel_rfl) rfl (fun K' hK=> ?_)
 rw [if_pos (by kernel_rfl)]
 go_simp
 go_wp2_with fail
 refine hK.out _ _ ?_;clear hK K'
 go_wp2_with fail
 go_end0
 exact ⟨rfl,HGI.out,HGK.out⟩
theorem setCells_far {b c:Nat} (hne:b≠c): ∀ (vs:List Value) (j:Nat) (w:World),(w.setCells c j vs).heap[b]? = w.heap[b]?
 | [],_,_=>rfl
 | v::r,j,w=>by
   rw [World.setCells,setCells_far hne r (j+1) _,heap_setCell_other _ _ _ _ (fun e=>hne (by simpa using e))]
def pageP:Adr:=adrOf (urlV [104,116,116,112,115,58,47,47,112,46,99,111,109,47])
def askOf (u:Adr) (pv uv:Value) (dt:Int):AskR:=⟨pageP,pv,u,uv,dt,0,⟨#[]⟩,⟨#[]⟩⟩
def AkPost (u:Adr) (dt:Int) (w:World) (e:Ending) (w':World):Prop:= ∃ pv uv,e = .returned (askVal (askOf u pv uv dt))/\AskAt w' (askOf u pv uv dt)/\Below w.heap.size w w'
theorem ask12_any (S:ByteArray) (dt:Int) (w:World) (hs:S.size<=9223372036854775807):
 Calls Tryz.prog 15 #[.string S,.int .i64 dt] w (AkPost (adrOf (urlV S.data.toList)) dt w):=by
 have HU:=hid (fun w=>url_k S w hs);have HV:=hid (fun w=>url_k (⟨#[104,116,116,112,115,58,47,47,112,46,99,111,109,47]⟩:ByteArray) w (by decide));unfold UPost at HU HV;have HPg:=hid (show adrOf (urlV (⟨#[104,116,116,112,115,58,47,47,112,46,99,111,109,47]⟩:ByteArray).data.toList)=pageP from rfl);generalize isOk (urlV S.data.toList)=ok1 at HU;generalize isOk (urlV (⟨#[104,116,116,112,115,58,47,47,112,46,99,111,109,47]⟩:ByteArray).data.toList)=ok2 at HV;rw [HPg.out] at HV;generalize adrOf (urlV S.data.toList)=A at HU ⊢;obtain ⟨B,hB⟩: ∃ B,pageP=B:=⟨_,rfl⟩
 rw [hB] at HV;have HPB:=hid hB;obtain ⟨W0,hW0⟩: ∃ X,(w.alloc (.cells #[.string ⟨#[]⟩,.string ⟨#[]⟩,.string ⟨#[]⟩,.string ⟨#[]⟩,.bool false,.int .i64 0,.bool false,.slice none 0 0,.string ⟨#[]⟩,.string ⟨#[]⟩,.bool false,.bool false,.string ⟨#[]⟩,.string ⟨#[]⟩,.string ⟨#[]⟩,.string ⟨#[]⟩,.bool false,.int .i64 0,.bool false,.slice none 0 0,.string ⟨#[]⟩,.string ⟨#[]⟩,.bool false,.bool false,.int .i64 0,.int .i64 0,.string ⟨#[]⟩,.string ⟨#[]⟩] 34))=X:=⟨_,rfl⟩
 have hb0:Below w.heap.size w W0:=by rw [<- hW0];exact (Below.refl _ w).alloc (Nat.le_refl _) _
 have HZ0:=hid (show W0.heap[w.heap.size]? = some (.cells #[.string ⟨#[]⟩,.string ⟨#[]⟩,.string ⟨#[]⟩,.string ⟨#[]⟩,.bool false,.int .i64 0,.bool false,.slice none 0 0,.string ⟨#[]⟩,.string ⟨#[]⟩,.bool false,.bool false,.string ⟨#[]⟩,.string ⟨#[]⟩,.string ⟨#[]⟩,.string ⟨#[]⟩,.bool false,.int .i64 0,.bool false,.slice none 0 0,.string ⟨#[]⟩,.string ⟨#[]⟩,.bool false,.bool false,.int .i64 0,.int .i64 0,.string ⟨#[]⟩,.string ⟨#[]⟩] 34 (0,0)) by rw [<- hW0];exact heap_alloc_new w _);have HB0:=hid hb0;clear hb0 hB HPg
 go_enter Tryz.func15,Tryz.ntmps15
 go_wp2_with fail
 refine (HU.out _).mono ?_;rintro e w1 ⟨uv,rfl,hown,hb1⟩
 obtain ⟨da,dn,dc,rfl⟩:=own_sl hown
 obtain ⟨d0,d1,d2,d3,d4,d5,d6,d8,d9,d10,d11,hxd⟩:=adr_cells A da dn dc
 have hvd:adrVal A (.slice da dn dc) = .agg #[.string d0,.string d1,.string d2,.string d3,.bool d4,.int .i64 d5,.bool d6,.slice da dn dc,.string d8,.string d9,.bool d10,.bool d11]:=by unfold adrVal;rw [hxd]
 rw [hvd];obtain ⟨W2,hW2⟩: ∃ X,(w1.alloc (.cells #[.string d0,.string d1,.string d2,.string d3,.bool d4,.int .i64 d5,.bool d6,.slice da dn dc,.string d8,.string d9,.bool d10,.bool d11] 24))=X:=⟨_,rfl⟩
 have hbW2:Below w1.heap.size w1 W2:=by rw [<- hW2];exact (Below.refl _ w1).alloc (Nat.le_refl _) _
 have hsW2:W2.heap.size=w1.heap.size+1:=by rw [<- hW2];simp
 have hAW2:AdrIn W2 w1.heap.size A (.slice da dn dc):=by
  unfold AdrIn;rw [hxd,<- hW2]
  exact heap_alloc_new w1 _
 have HB2:=hid (below2 hb1 hbW2);have HP2:=hid (own_kept hown hbW2);have HA2:=hid hAW2;have HXd:=hid hxd;clear hown hb1 hbW2 hAW2 hxd hvd hsW2
 go_wp2_with fail
 refine (HV.out _).mono ?_;rintro e w3 ⟨pv,rfl,hown,hb3⟩
 obtain ⟨pa,pn,pc,rfl⟩:=own_sl hown
 obtain ⟨p0,p1,p2,p3,p4,p5,p6,p8,p9,p10,p11,hxp⟩:=adr_cells B pa pn pc
 have hvp:adrVal B (.slice pa pn pc) = .agg #[.string p0,.string p1,.string p2,.string p3,.bool p4,.int .i64 p5,.bool p6,.slice pa pn pc,.string p8,.string p9,.bool p10,.bool p11]:=by unfold adrVal;rw [hxp]
 rw [hvp];obtain ⟨W4,hW4⟩: ∃ X,(w3.alloc (.cells #[.string p0,.string p1,.string p2,.string p3,.bool p4,.int .i64 p5,.bool p6,.slice pa pn pc,.string p8,.string p9,.bool p10,.bool p11] 24))=X:=⟨_,rfl⟩
 have hbW4:Below w3.heap.size w3 W4:=by rw [<- hW4];exact (Below.refl _ w3).alloc (Nat.le_refl _) _
 have hsW4:W4.heap.size=w3.heap.size+1:=by rw [<- hW4];simp
 have hAW4:AdrIn W4 w3.heap.size B (.slice pa pn pc):=by
  unfold AdrIn;rw [hxp,<- hW4]
  exact heap_alloc_new w3 _
 have hb34:=below2 hb3 hbW4;have HB4:=hid (below2 HB2.out hb34);have HPu:=hid (own_kept HP2.out hb34);have HPp:=hid (own_kept hown hbW4);have HZ4:=hid (row_kept HZ0.out HB4.out);have HBw:=hid (below2 HB0.out HB4.out);have HRu:=hid (show W4.rangeAt w1.heap.size 0 [.string d0,.string d1,.string d2,.string d3,.bool d4,.int .i64 d5,.bool d6,.slice da dn dc,.string d8,.string d9,.bool d10,.bool d11] by
  have:=range_row (HA2.out.kept hb34);rw [HXd.out] at this;exact this)
 have HRp:=hid (show W4.rangeAt w3.heap.size 0 [.string p0,.string p1,.string p2,.string p3,.bool p4,.int .i64 p5,.bool p6,.slice pa pn pc,.string p8,.string p9,.bool p10,.bool p11] by
  have:=range_row hAW4;rw [hxp] at this;exact this)
 have HXp:=hid hxp;have HXa:=hid (show askCells (askOf A (.slice pa pn pc) (.slice da dn dc) dt)=[.string p0,.string p1,.string p2,.string p3,.bool p4,.int .i64 p5,.bool p6,.slice pa pn pc,.string p8,.string p9,.bool p10,.bool p11,.string d0,.string d1,.string d2,.string d3,.bool d4,.int .i64 d5,.bool d6,.slice da dn dc,.string d8,.string d9,.bool d10,.bool d11,.int .i64 dt,.int .i64 0,.string ⟨#[]⟩,.string ⟨#[]⟩] by
  unfold askOf;rw [HPB.out];unfold askCells;dsimp only;rw [HXp.out,HXd.out];rfl)
 have HTh:=hid (show W4.there w.heap.size 0 28 from fun j hj=>⟨by rw [Nat.zero_add,Lib.cell_of_heap HZ4.out];simp;omega,Lib.frozen_of_heap HZ4.out _⟩);have HOne:=hid (show (#[.string p0,.string p1,.string p2,.string p3,.bool p4,.int .i64 p5,.bool p6,.slice pa pn pc,.string p8,.string p9,.bool p10,.bool p11,.string d0,.string d1,.string d2,.string d3,.bool d4,.int .i64 d5,.bool d6,.slice da dn dc,.string d8,.string d9,.bool d10,.bool d11,.int .i64 dt,.int .i64 0,.string ⟨#[]⟩,.string ⟨#[]⟩]:Array Value).all (·.oneCell')=true by
  have:=all_oneCell_toArray (askCells_one (askOf A (.slice pa pn pc) (.slice da dn dc) dt) ⟨_,_,_,rfl⟩ ⟨_,_,_,rfl⟩);rw [HXa.out] at this;exact this)
 have HSz0:=hid (show w.heap.size<W4.heap.size from (Array.getElem?_eq_some_iff.1 HZ4.out).1);have HW0:=hid (show w.heap.size<W0.heap.size from (Array.getElem?_eq_some_iff.1 HZ0.out).1);have HW2:=hid (show W0.heap.size<=W2.heap.size from HB2.out.size);clear hown hb3 hbW4 hAW4 hxp hvp hb34 hsW4
 go_wp2_with (first | (refine wpList_load_mid rfl 24 (.tmp 7) rfl w3.heap.size 0 rfl [.string p0,.string p1,.string p2,.string p3,.bool p4,.int .i64 p5,.bool p6,.slice pa pn pc,.string p8,.string p9,.bool p10,.bool p11] _ HRp.out Tryz.underlying24 rfl sizeU ?_) | (refine wpList_load_mid rfl 24 (.tmp 5) rfl w1.heap.size 0 rfl [.string d0,.string d1,.string d2,.string d3,.bool d4,.int .i64 d5,.bool d6,.slice da dn dc,.string d8,.string d9,.bool d10,.bool d11] _ HRu.out Tryz.underlying24 rfl sizeU ?_) | (refine wpList_store_mid rfl 34 (.tmp 4) (.tmp 21) rfl w.heap.size 0 #[.string p0,.string p1,.string p2,.string p3,.bool p4,.int .i64 p5,.bool p6,.slice pa pn pc,.string p8,.string p9,.bool p10,.bool p11,.string d0,.string d1,.string d2,.string d3,.bool d4,.int .i64 d5,.bool d6,.slice da dn dc,.string d8,.string d9,.bool d10,.bool d11,.int .i64 dt,.int .i64 0,.string ⟨#[]⟩,.string ⟨#[]⟩] rfl rfl HTh.out sizeA HOne.out ?_))
 have hrg:=World.rangeAt_setCells_same W4 w.heap.size 0 [.string p0,.string p1,.string p2,.string p3,.bool p4,.int .i64 p5,.bool p6,.slice pa pn pc,.string p8,.string p9,.bool p10,.bool p11,.string d0,.string d1,.string d2,.string d3,.bool d4,.int .i64 d5,.bool d6,.slice da dn dc,.string d8,.string d9,.bool d10,.bool d11,.int .i64 dt,.int .i64 0,.string ⟨#[]⟩,.string ⟨#[]⟩] HTh.out
 have hbl:=below_setCells (B:=w.heap.size) (b:=w.heap.size) (Nat.le_refl _) [.string p0,.string p1,.string p2,.string p3,.bool p4,.int .i64 p5,.bool p6,.slice pa pn pc,.string p8,.string p9,.bool p10,.bool p11,.string d0,.string d1,.string d2,.string d3,.bool d4,.int .i64 d5,.bool d6,.slice da dn dc,.string d8,.string d9,.bool d10,.bool d11,.int .i64 dt,.int .i64 0,.string ⟨#[]⟩,.string ⟨#[]⟩] 0 _ HBw.out;refine bodyPost_ret (results_ask rfl _ _ w.heap.size (askOf A (.slice pa pn pc) (.slice da dn dc) dt) rfl ?_) rfl ⟨_,_,rfl,⟨?_,?_⟩,?_⟩
 ·rw [HXa.out];exact hrg
 ·show PathAt _ (.slice pa pn pc) pageP.path
  rw [HPB.out];exact own_path (ownsRow_same HPp.out fun g hg=>setCells_far (by have:=(HPp.out.lt g hg).1;have:=HW0.out;have:=HW2.out;omega) _ _ _)
 ·exact own_path (ownsRow_same HPu.out fun g hg=>setCells_far (by have:=(HPu.out.lt g hg).1;have:=HW0.out;omega) _ _ _)
 ·exact hbl
end Go.Proofs.YtijpkalkfbejeaaGreatDoor
