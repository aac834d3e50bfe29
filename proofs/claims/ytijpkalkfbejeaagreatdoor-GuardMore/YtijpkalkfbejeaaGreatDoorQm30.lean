/- Walks and plain facts. -/
import Derived.Test.YtijpkalkfbejeaaGreatDoorQm29
set_option linter.unusedSimpArgs false
set_option linter.unusedVariables false
set_option maxHeartbeats 16000000
set_option maxRecDepth 100000

namespace Go.Proofs.YtijpkalkfbejeaaGreatDoor
open Go.RowKit
structure AskR where
 page:Adr
 pv:Value
 url:Adr
 uv:Value
 dest:Int
 hops:Int
 nonce:ByteArray
 data:ByteArray
def askCells (a:AskR):List Value:=adrCells a.page a.pv++(adrCells a.url a.uv++[.int .i64 a.dest,.int .i64 a.hops,.string a.nonce,.string a.data])
def askVal (a:AskR):Value:= .agg (askCells a).toArray
theorem askCells_one (a:AskR) (h1:IsSl a.pv) (h2:IsSl a.uv): ∀ v ∈ askCells a,v.oneCell'=true:=by
 intro v hv;unfold askCells at hv;rcases List.mem_append.1 hv with hv | hv
 ·exact adrCells_one _ _ h1 v hv
 ·rcases List.mem_append.1 hv with hv | hv
  ·exact adrCells_one _ _ h2 v hv
  ·simp at hv
   rcases hv with rfl | rfl | rfl | rfl<;>rfl
theorem sizeA:(Tryz.prog.info? 34).map (·.size)=some 28:=by kernel_rfl
def AskAt (w:World) (a:AskR):Prop:=PathAt w a.pv a.page.path/\PathAt w a.uv a.url.path
def countA (a:AskR):AskR:=if a.dest=2∨a.dest=3 then a else { a with nonce:=⟨#[]⟩,data:=⟨#[]⟩ }
theorem results_ask {fn:Func} {p:Tmp} (h:fn.results = #[.cell p 34]) (tmps:Array Value) (w:World) (b:Nat) (a:AskR) (hp:tmps.getD p undef = .pointer (some ⟨b,0,none⟩)) (hc:w.rangeAt b 0 (askCells a)):(results fn tmps).run Tryz.prog w = .ok (askVal a) w:=by
 rw [Array.getD_eq_getD_getElem?] at hp;simp only [results,h]
 simp [Sem.run_bind,Result.andThen,hp,asAddr,run_loadVar_mid w b 0 34 (askCells a) _ hc Tryz.underlying34 rfl sizeA,askVal]
theorem counted12_any (a:AskR) (w:World) (ha:AskAt w a):
 Calls Tryz.prog 31 #[askVal a] w fun e w'=>e = .returned (askVal (countA a))/\Below w.heap.size w w':=by
 obtain ⟨page,pv,url,uv,dt,hp,nn,mm⟩:=a
 obtain ⟨hp1,hp2⟩:=ha
 dsimp only at hp1 hp2;obtain ⟨pa,pn,pc,rfl⟩:=path_sl hp1
 obtain ⟨ua,un,uc,rfl⟩:=path_sl hp2
 obtain ⟨p0,p1,p2,p3,p4,p5,p6,p8,p9,p10,p11,hxp⟩:=adr_cells page pa pn pc
 obtain ⟨u0,u1,u2,u3,u4,u5,u6,u8,u9,u10,u11,hxu⟩:=adr_cells url ua un uc
 have hxa: ∀ n m:ByteArray,askCells ⟨page,.slice pa pn pc,url,.slice ua un uc,dt,hp,n,m⟩=[.string p0,.string p1,.string p2,.string p3,.bool p4,.int .i64 p5,.bool p6,.slice pa pn pc,.string p8,.string p9,.bool p10,.bool p11,.string u0,.string u1,.string u2,.string u3,.bool u4,.int .i64 u5,.bool u6,.slice ua un uc,.string u8,.string u9,.bool u10,.bool u11,.int .i64 dt,.int .i64 hp,.string n,.string m]:=fun n m=>by
  unfold askCells;dsimp only;rw [hxp,hxu];rfl
 have hva:askVal ⟨page,.slice pa pn pc,url,.slice ua un uc,dt,hp,nn,mm⟩ = .agg #[.string p0,.string p1,.string p2,.string p3,.bool p4,.int .i64 p5,.bool p6,.slice pa pn pc,.string p8,.string p9,.bool p10,.bool p11,.string u0,.string u1,.string u2,.string u3,.bool u4,.int .i64 u5,.bool u6,.slice ua un uc,.string u8,.string u9,.bool u10,.bool u11,.int .i64 dt,.int .i64 hp,.string nn,.string mm]:=by unfold askVal;rw [hxa]
 rw [hva];obtain ⟨W1,hW1⟩: ∃ X,(w.alloc (.cells #[.string p0,.string p1,.string p2,.string p3,.bool p4,.int .i64 p5,.bool p6,.slice pa pn pc,.string p8,.string p9,.bool p10,.bool p11,.string u0,.string u1,.string u2,.string u3,.bool u4,.int .i64 u5,.bool u6,.slice ua un uc,.string u8,.string u9,.bool u10,.bool u11,.int .i64 dt,.int .i64 hp,.string nn,.string mm] 34))=X:=⟨_,rfl⟩
 have hb1:Below w.heap.size w W1:=by rw [<- hW1];exact (Below.refl _ w).alloc (Nat.le_refl _) _
 have hs1:W1.heap.size=w.heap.size+1:=by rw [<- hW1];simp
 have hr1:W1.heap[w.heap.size]? = some (.cells #[.string p0,.string p1,.string p2,.string p3,.bool p4,.int .i64 p5,.bool p6,.slice pa pn pc,.string p8,.string p9,.bool p10,.bool p11,.string u0,.string u1,.string u2,.string u3,.bool u4,.int .i64 u5,.bool u6,.slice ua un uc,.string u8,.string u9,.bool u10,.bool u11,.int .i64 dt,.int .i64 hp,.string nn,.string mm] 34 (0,0)):=by rw [<- hW1];exact heap_alloc_new w _
 obtain ⟨W2,hW2⟩: ∃ X,(W1.alloc (.cells #[.string ⟨#[]⟩,.string ⟨#[]⟩,.string ⟨#[]⟩,.string ⟨#[]⟩,.bool false,.int .i64 0,.bool false,.slice none 0 0,.string ⟨#[]⟩,.string ⟨#[]⟩,.bool false,.bool false,.string ⟨#[]⟩,.string ⟨#[]⟩,.string ⟨#[]⟩,.string ⟨#[]⟩,.bool false,.int .i64 0,.bool false,.slice none 0 0,.string ⟨#[]⟩,.string ⟨#[]⟩,.bool false,.bool false,.int .i64 0,.int .i64 0,.string ⟨#[]⟩,.string ⟨#[]⟩] 34))=X:=⟨_,rfl⟩
 have hb2:Below W1.heap.size W1 W2:=by rw [<- hW2];exact (Below.refl _ W1).alloc (Nat.le_refl _) _
 have hz2:W2.heap[W1.heap.size]? = some (.cells #[.string ⟨#[]⟩,.string ⟨#[]⟩,.string ⟨#[]⟩,.string ⟨#[]⟩,.bool false,.int .i64 0,.bool false,.slice none 0 0,.string ⟨#[]⟩,.string ⟨#[]⟩,.bool false,.bool false,.string ⟨#[]⟩,.string ⟨#[]⟩,.string ⟨#[]⟩,.string ⟨#[]⟩,.bool false,.int .i64 0,.bool false,.slice none 0 0,.string ⟨#[]⟩,.string ⟨#[]⟩,.bool false,.bool false,.int .i64 0,.int .i64 0,.string ⟨#[]⟩,.string ⟨#[]⟩] 34 (0,0)):=by rw [<- hW2];exact heap_alloc_new W1 _
 have hr2:W2.heap[w.heap.size]? = some (.cells #[.string p0,.string p1,.string p2,.string p3,.bool p4,.int .i64 p5,.bool p6,.slice pa pn pc,.string p8,.string p9,.bool p10,.bool p11,.string u0,.string u1,.string u2,.string u3,.bool u4,.int .i64 u5,.bool u6,.slice ua un uc,.string u8,.string u9,.bool u10,.bool u11,.int .i64 dt,.int .i64 hp,.string nn,.string mm] 34 (0,0)):=by rw [hb2.block _ (by omega)];exact hr1
 have HB2:=hid (below2 hb1 hb2);have k24:W2.cell? ⟨w.heap.size,24,none⟩=some (.int .i64 dt):=by rw [Lib.cell_of_heap hr2];rfl
 have HR2:=hid hr2;have HZ2:=hid hz2;have HXa:=hid hxa;have HS1:=hid hs1;clear hp1 hp2 hxp hxu hxa hva hb1 hs1 hr1 hb2 hz2 hr2;by_cases h2:dt=2
 ·subst h2
  have HCo:=hid (show countA ⟨page,.slice pa pn pc,url,.slice ua un uc,2,hp,nn,mm⟩=⟨page,.slice pa pn pc,url,.slice ua un uc,2,hp,nn,mm⟩ by unfold countA;rw [if_pos (Or.inl rfl)])
  go_enter Tryz.func31,Tryz.ntmps31
  have HRa:=hid (range_row (cs:=[.string p0,.string p1,.string p2,.string p3,.bool p4,.int .i64 p5,.bool p6,.slice pa pn pc,.string p8,.string p9,.bool p10,.bool p11,.string u0,.string u1,.string u2,.string u3,.bool u4,.int .i64 u5,.bool u6,.slice ua un uc,.string u8,.string u9,.bool u10,.bool u11,.int .i64 2,.int .i64 hp,.string nn,.string mm]) HR2.out)
  have HOne:=hid (show (#[.string p0,.string p1,.string p2,.string p3,.bool p4,.int .i64 p5,.bool p6,.slice pa pn pc,.string p8,.string p9,.bool p10,.bool p11,.string u0,.string u1,.string u2,.string u3,.bool u4,.int .i64 u5,.bool u6,.slice ua un uc,.string u8,.string u9,.bool u10,.bool u11,.int .i64 2,.int .i64 hp,.string nn,.string mm]:Array Value).all (·.oneCell')=true by
   have:=all_oneCell_toArray (askCells_one ⟨page,.slice pa pn pc,url,.slice ua un uc,2,hp,nn,mm⟩ ⟨_,_,_,rfl⟩ ⟨_,_,_,rfl⟩);rw [HXa.out] at this;exact this)
  have HTh:=hid (show W2.there W1.heap.size 0 28 from fun j hj=>⟨by rw [Nat.zero_add,Lib.cell_of_heap HZ2.out];simp;omega,Lib.frozen_of_heap HZ2.out _⟩)
  go_wp2_with (first | (refine wpList_load_mid rfl 34 (.tmp 1) rfl w.heap.size 0 rfl [.string p0,.string p1,.string p2,.string p3,.bool p4,.int .i64 p5,.bool p6,.slice pa pn pc,.string p8,.string p9,.bool p10,.bool p11,.string u0,.string u1,.string u2,.string u3,.bool u4,.int .i64 u5,.bool u6,.slice ua un uc,.string u8,.string u9,.bool u10,.bool u11,.int .i64 2,.int .i64 hp,.string nn,.string mm] _ HRa.out Tryz.underlying34 rfl sizeA ?_) | (refine wpList_store_mid rfl 34 (.tmp 2) (.tmp 13) rfl W1.heap.size 0 #[.string p0,.string p1,.string p2,.string p3,.bool p4,.int .i64 p5,.bool p6,.slice pa pn pc,.string p8,.string p9,.bool p10,.bool p11,.string u0,.string u1,.string u2,.string u3,.bool u4,.int .i64 u5,.bool u6,.slice ua un uc,.string u8,.string u9,.bool u10,.bool u11,.int .i64 2,.int .i64 hp,.string nn,.string mm] rfl rfl HTh.out sizeA HOne.out ?_))
  have hrg:=World.rangeAt_setCells_same W2 W1.heap.size 0 [.string p0,.string p1,.string p2,.string p3,.bool p4,.int .i64 p5,.bool p6,.slice pa pn pc,.string p8,.string p9,.bool p10,.bool p11,.string u0,.string u1,.string u2,.string u3,.bool u4,.int .i64 u5,.bool u6,.slice ua un uc,.string u8,.string u9,.bool u10,.bool u11,.int .i64 2,.int .i64 hp,.string nn,.string mm] HTh.out
  have hbl:=below_setCells (B:=w.heap.size) (b:=W1.heap.size) (by have:=HS1.out;omega) [.string p0,.string p1,.string p2,.string p3,.bool p4,.int .i64 p5,.bool p6,.slice pa pn pc,.string p8,.string p9,.bool p10,.bool p11,.string u0,.string u1,.string u2,.string u3,.bool u4,.int .i64 u5,.bool u6,.slice ua un uc,.string u8,.string u9,.bool u10,.bool u11,.int .i64 2,.int .i64 hp,.string nn,.string mm] 0 _ HB2.out
  refine bodyPost_ret (results_ask rfl _ _ W1.heap.size ⟨page,.slice pa pn pc,url,.slice ua un uc,2,hp,nn,mm⟩ rfl ?_) rfl ⟨?_,?_⟩
  ·rw [HXa.out];exact hrg
  ·rw [HCo.out]
  ·exact hbl
 ·have b2:(dt != 2)=true:=by rw [bne_iff_ne];exact h2
  by_cases h3:dt=3
  ·subst h3
   have HCo:=hid (show countA ⟨page,.slice pa pn pc,url,.slice ua un uc,3,hp,nn,mm⟩=⟨page,.slice pa pn pc,url,.slice ua un uc,3,hp,nn,mm⟩ by unfold countA;rw [if_pos (Or.inr rfl)])
   go_enter Tryz.func31,Tryz.ntmps31
   have HRa:=hid (range_row (cs:=[.string p0,.string p1,.string p2,.string p3,.bool p4,.int .i64 p5,.bool p6,.slice pa pn pc,.string p8,.string p9,.bool p10,.bool p11,.string u0,.string u1,.string u2,.string u3,.bool u4,.int .i64 u5,.bool u6,.slice ua un uc,.string u8,.string u9,.bool u10,.bool u11,.int .i64 3,.int .i64 hp,.string nn,.string mm]) HR2.out)
   have HOne:=hid (show (#[.string p0,.string p1,.string p2,.string p3,.bool p4,.int .i64 p5,.bool p6,.slice pa pn pc,.string p8,.string p9,.bool p10,.bool p11,.string u0,.string u1,.string u2,.string u3,.bool u4,.int .i64 u5,.bool u6,.slice ua un uc,.string u8,.string u9,.bool u10,.bool u11,.int .i64 3,.int .i64 hp,.string nn,.string mm]:Array Value).all (·.oneCell')=true by
    have:=all_oneCell_toArray (askCells_one ⟨page,.slice pa pn pc,url,.slice ua un uc,3,hp,nn,mm⟩ ⟨_,_,_,rfl⟩ ⟨_,_,_,rfl⟩);rw [HXa.out] at this;exact this)
   have HTh:=hid (show W2.there W1.heap.size 0 28 from fun j hj=>⟨by rw [Nat.zero_add,Lib.cell_of_heap HZ2.out];simp;omega,Lib.frozen_of_heap HZ2.out _⟩)
   go_wp2_with (first | (refine wpList_load_mid rfl 34 (.tmp 1) rfl w.heap.size 0 rfl [.string p0,.string p1,.string p2,.string p3,.bool p4,.int .i64 p5,.bool p6,.slice pa pn pc,.string p8,.string p9,.bool p10,.bool p11,.string u0,.string u1,.string u2,.string u3,.bool u4,.int .i64 u5,.bool u6,.slice ua un uc,.string u8,.string u9,.bool u10,.bool u11,.int .i64 3,.int .i64 hp,.string nn,.string mm] _ HRa.out Tryz.underlying34 rfl sizeA ?_) | (refine wpList_store_mid rfl 34 (.tmp 2) (.tmp 13) rfl W1.heap.size 0 #[.string p0,.string p1,.string p2,.string p3,.bool p4,.int .i64 p5,.bool p6,.slice pa pn pc,.string p8,.string p9,.bool p10,.bool p11,.string u0,.string u1,.string u2,.string u3,.bool u4,.int .i64 u5,.bool u6,.slice ua un uc,.string u8,.string u9,.bool u10,.bool u11,.int .i64 3,.int .i64 hp,.string nn,.string mm] rfl rfl HTh.out sizeA HOne.out ?_))
   have hrg:=World.rangeAt_setCells_same W2 W1.heap.size 0 [.string p0,.string p1,.string p2,.string p3,.bool p4,.int .i64 p5,.bool p6,.slice pa pn pc,.string p8,.string p9,.bool p10,.bool p11,.string u0,.string u1,.string u2,.string u3,.bool u4,.int .i64 u5,.bool u6,.slice ua un uc,.string u8,.string u9,.bool u10,.bool u11,.int .i64 3,.int .i64 hp,.string nn,.string mm] HTh.out
   have hbl:=below_setCells (B:=w.heap.size) (b:=W1.heap.size) (by have:=HS1.out;omega) [.string p0,.string p1,.string p2,.string p3,.bool p4,.int .i64 p5,.bool p6,.slice pa pn pc,.string p8,.string p9,.bool p10,.bool p11,.string u0,.string u1,.string u2,.string u3,.bool u4,.int .i64 u5,.bool u6,.slice ua un uc,.string u8,.string u9,.bool u10,.bool u11,.int .i64 3,.int .i64 hp,.string nn,.string mm] 0 _ HB2.out
   refine bodyPost_ret (results_ask rfl _ _ W1.heap.size ⟨page,.slice pa pn pc,url,.slice ua un uc,3,hp,nn,mm⟩ rfl ?_) rfl ⟨?_,?_⟩
   ·rw [HXa.out];exact hrg
   ·rw [HCo.out]
   ·exact hbl
  ·have b3:(dt != 3)=true:=by rw [bne_iff_ne];exact h3
   have HCo:=hid (show countA ⟨page,.slice pa pn pc,url,.slice ua un uc,dt,hp,nn,mm⟩=⟨page,.slice pa pn pc,url,.slice ua un uc,dt,hp,⟨#[]⟩,⟨#[]⟩⟩ by unfold countA;rw [if_neg (fun h=>h.elim h2 h3)]);have k26:W2.cell? ⟨w.heap.size,26,none⟩=some (.string nn):=by rw [Lib.cell_of_heap HR2.out];rfl
   have k27:W2.cell? ⟨w.heap.size,27,none⟩=some (.string mm):=by rw [Lib.cell_of_heap HR2.out];rfl
   have f26:W2.frozen? ⟨w.heap.size,26,none⟩=false:=Lib.frozen_of_heap HR2.out _
   have f27:W2.frozen? ⟨w.heap.size,27,none⟩=false:=Lib.frozen_of_heap HR2.out _
   obtain ⟨W3,hW3⟩: ∃ X,((W2.setCell ⟨w.heap.size,26,none⟩ (.string ⟨#[]⟩)).setCell ⟨w.heap.size,27,none⟩ (.string ⟨#[]⟩))=X:=⟨_,rfl⟩
   have HR3:=hid (show W3.heap[w.heap.size]? = some (.cells #[.string p0,.string p1,.string p2,.string p3,.bool p4,.int .i64 p5,.bool p6,.slice pa pn pc,.string p8,.string p9,.bool p10,.bool p11,.string u0,.string u1,.string u2,.string u3,.bool u4,.int .i64 u5,.bool u6,.slice ua un uc,.string u8,.string u9,.bool u10,.bool u11,.int .i64 dt,.int .i64 hp,.string ⟨#[]⟩,.string ⟨#[]⟩] 34 (0,0)) by
    rw [<- hW3];exact Lib.heap_setCell_same (Lib.heap_setCell_same HR2.out (i:=26) (.string ⟨#[]⟩)) (i:=27) (.string ⟨#[]⟩))
   have HZ3:=hid (show W3.heap[W1.heap.size]? = some (.cells #[.string ⟨#[]⟩,.string ⟨#[]⟩,.string ⟨#[]⟩,.string ⟨#[]⟩,.bool false,.int .i64 0,.bool false,.slice none 0 0,.string ⟨#[]⟩,.string ⟨#[]⟩,.bool false,.bool false,.string ⟨#[]⟩,.string ⟨#[]⟩,.string ⟨#[]⟩,.string ⟨#[]⟩,.bool false,.int .i64 0,.bool false,.slice none 0 0,.string ⟨#[]⟩,.string ⟨#[]⟩,.bool false,.bool false,.int .i64 0,.int .i64 0,.string ⟨#[]⟩,.string ⟨#[]⟩] 34 (0,0)) by
    rw [<- hW3,heap_setCell_other _ _ _ _ (fun e=>by have:=HS1.out;simp at e;omega),heap_setCell_other _ _ _ _ (fun e=>by have:=HS1.out;simp at e;omega)];exact HZ2.out)
   have HB3:=hid (show Below w.heap.size w W3 by
    rw [<- hW3];exact (HB2.out.setCell (p:=⟨w.heap.size,26,none⟩) (Nat.le_refl _) _).setCell (p:=⟨w.heap.size,27,none⟩) (Nat.le_refl _) _)
   go_enter Tryz.func31,Tryz.ntmps31
   go_upto_region 3 with fail
   have HRa:=hid (range_row (cs:=[.string p0,.string p1,.string p2,.string p3,.bool p4,.int .i64 p5,.bool p6,.slice pa pn pc,.string p8,.string p9,.bool p10,.bool p11,.string u0,.string u1,.string u2,.string u3,.bool u4,.int .i64 u5,.bool u6,.slice ua un uc,.string u8,.string u9,.bool u10,.bool u11,.int .i64 dt,.int .i64 hp,.string ⟨#[]⟩,.string ⟨#[]⟩]) HR3.out)
   have HOne:=hid (show (#[.string p0,.string p1,.string p2,.string p3,.bool p4,.int .i64 p5,.bool p6,.slice pa pn pc,.string p8,.string p9,.bool p10,.bool p11,.string u0,.string u1,.string u2,.string u3,.bool u4,.int .i64 u5,.bool u6,.slice ua un uc,.string u8,.string u9,.bool u10,.bool u11,.int .i64 dt,.int .i64 hp,.string ⟨#[]⟩,.string ⟨#[]⟩]:Array Value).all (·.oneCell')=true by
    have:=all_oneCell_toArray (askCells_one ⟨page,.slice pa pn pc,url,.slice ua un uc,dt,hp,⟨#[]⟩,⟨#[]⟩⟩ ⟨_,_,_,rfl⟩ ⟨_,_,_,rfl⟩);rw [HXa.out] at this;exact this)
   have HTh:=hid (show W3.there W1.heap.size 0 28 from fun j hj=>⟨by rw [Nat.zero_add,Lib.cell_of_heap HZ3.out];simp;omega,Lib.frozen_of_heap HZ3.out _⟩)
   go_wp2_with (first | (refine wpList_load_mid rfl 34 (.tmp 1) rfl w.heap.size 0 rfl [.string p0,.string p1,.string p2,.string p3,.bool p4,.int .i64 p5,.bool p6,.slice pa pn pc,.string p8,.string p9,.bool p10,.bool p11,.string u0,.string u1,.string u2,.string u3,.bool u4,.int .i64 u5,.bool u6,.slice ua un uc,.string u8,.string u9,.bool u10,.bool u11,.int .i64 dt,.int .i64 hp,.string ⟨#[]⟩,.string ⟨#[]⟩] _ HRa.out Tryz.underlying34 rfl sizeA ?_) | (refine wpList_store_mid rfl 34 (.tmp 2) (.tmp 13) rfl W1.heap.size 0 #[.string p0,.string p1,.string p2,.string p3,.bool p4,.int .i64 p5,.bool p6,.slice pa pn pc,.string p8,.string p9,.bool p10,.bool p11,.string u0,.string u1,.string u2,.string u3,.bool u4,.int .i64 u5,.bool u6,.slice ua un uc,.string u8,.string u9,.bool u10,.bool u11,.int .i64 dt,.int .i64 hp,.string ⟨#[]⟩,.string ⟨#[]⟩] rfl rfl HTh.out sizeA HOne.out ?_))
   have hrg:=World.rangeAt_setCells_same W3 W1.heap.size 0 [.string p0,.string p1,.string p2,.string p3,.bool p4,.int .i64 p5,.bool p6,.slice pa pn pc,.string p8,.string p9,.bool p10,.bool p11,.string u0,.string u1,.string u2,.string u3,.bool u4,.int .i64 u5,.bool u6,.slice ua un uc,.string u8,.string u9,.bool u10,.bool u11,.int .i64 dt,.int .i64 hp,.string ⟨#[]⟩,.string ⟨#[]⟩] HTh.out
   have hbl:=below_setCells (B:=w.heap.size) (b:=W1.heap.size) (by have:=HS1.out;omega) [.string p0,.string p1,.string p2,.string p3,.bool p4,.int .i64 p5,.bool p6,.slice pa pn pc,.string p8,.string p9,.bool p10,.bool p11,.string u0,.string u1,.string u2,.string u3,.bool u4,.int .i64 u5,.bool u6,.slice ua un uc,.string u8,.string u9,.bool u10,.bool u11,.int .i64 dt,.int .i64 hp,.string ⟨#[]⟩,.string ⟨#[]⟩] 0 _ HB3.out
   refine bodyPost_ret (results_ask rfl _ _ W1.heap.size ⟨page,.slice pa pn pc,url,.slice ua un uc,dt,hp,⟨#[]⟩,⟨#[]⟩⟩ rfl ?_) rfl ⟨?_,?_⟩
   ·rw [HXa.out];exact hrg
   ·rw [HCo.out]
   ·exact hbl
theorem splitK_cut (c:UInt8): ∀ l:List UInt8,Lib.splitK [c] 0 (Lib.count l [c]) l=cutL c l:=by
 refine cutL_ind c (fun l h=> ?_) (fun a r h ih=> ?_)
 ·have hm:=index_one_none l c h
  rw [cutL_none c l h,Lib.count_miss hm];rfl
 ·have hi:=index_one_some a r c h
  have hd:(a++c::r).drop (a.length+1)=r:=by
   rw [show a++c::r=(a++[c])++r by simp,show a.length+1=(a++[c]).length by simp,List.drop_left]
  rw [cutL_some c a r h,Lib.count_hit (by simp) hi,show ([c]:List UInt8).length=1 from rfl,hd,Nat.add_comm,Lib.splitK,hi];rw [if_neg (by simp),show ((a.length:Int)).toNat=a.length by simp,show ([c]:List UInt8).length=1 from rfl,hd,ih];simp
theorem split_pieces (c:UInt8) (s:ByteArray):(Lib.splitB ⟨#[c]⟩ 0 (Lib.countB s ⟨#[c]⟩) s).map Value.string=cellsS (cutL c s.data.toList):=by
 have h:=Lib.splitB_data ⟨#[c]⟩ 0 (Lib.countB s ⟨#[c]⟩) s;have e:Lib.countB s ⟨#[c]⟩=Lib.count s.data.toList [c]:=rfl;rw [e,show (⟨#[c]⟩:ByteArray).data.toList=[c] from rfl,splitK_cut] at h
 rw [<- h,cellsS,List.map_map];rfl
theorem split_count (c:UInt8) (s:ByteArray):Lib.countB s ⟨#[c]⟩+1=(cutL c s.data.toList).length:=by
 show Lib.count s.data.toList [c]+1=_;have key: ∀ l:List UInt8,Lib.count l [c]+1=(cutL c l).length:=by
  refine cutL_ind c (fun l h=> ?_) (fun a r h ih=> ?_)
  ·rw [cutL_none c l h,Lib.count_miss (index_one_none l c h)];rfl
  ·have hd:(a++c::r).drop (a.length+1)=r:=by
    rw [show a++c::r=(a++[c])++r by simp,show a.length+1=(a++[c]).length by simp,List.drop_left]
   rw [cutL_some c a r h,Lib.count_hit (by simp) (index_one_some a r c h),show ([c]:List UInt8).length=1 from rfl,hd,List.length_cons,<- ih];omega
 exact key _
theorem cutL_len11 (c:UInt8) (l:List UInt8):(cutL c l).length<=l.length+1:=by
 revert l;refine cutL_ind c (fun l h=> ?_) (fun a r h ih=> ?_)
 ·rw [cutL_none c l h];simp
 ·rw [cutL_some c a r h];simp;omega
def TxPost (L:List (List UInt8)) (w:World) (e:Ending) (w':World):Prop:=
 ∃ g cap,e = .returned (.slice (some ⟨g,0,none⟩) L.length cap)/\w'.ownsRow w.heap.size 9 1 (.slice (some ⟨g,0,none⟩) L.length cap) L.length (cellsS L)/\Below w.heap.size w w'
theorem split_any (s:ByteArray) (c:UInt8) (w:World) (hg:Gd w) (hs:s.size<=4000000000):
 Calls Tryz.prog 134 #[.string s,.string ⟨#[c]⟩] w (TxPost (cutL c s.data.toList) w):=by
 obtain ⟨m,hm⟩:=hg.1
 refine (Tryz.strings_Split s ⟨#[c]⟩ m w (by omega) hm (show 1<=1 from Nat.le_refl 1)).mono ?_;rintro e w' ⟨rfl,rfl⟩
 have hl:=cutL_len11 c s.data.toList;rw [<- Lib.size_eq] at hl;rw [split_count,split_pieces]
 refine ⟨w.heap.size,(cutL c s.data.toList).length,rfl,?_,(Below.refl _ w).alloc (Nat.le_refl _) _⟩
 refine ⟨by simp [cellsS_len],.inr ⟨w.heap.size,(cutL c s.data.toList).length,_,rfl,Nat.le_refl _,heap_alloc_new w _,Nat.le_refl _,by unfold maxLen;omega,by simp [cellsS_len],?_⟩⟩
 rw [List.take_of_length_le (by simp [cellsS_len])]
def StrT (w:World) (g:Nat) (L:List (List UInt8)) (k:Nat):Prop:=
 ∃ cur:Array Value,w.heap[g]? = some (.cells cur 9 (0,0))/\cur.size=L.length /\ ∀ j (h:j<L.length),j<k->cur[j]? = some (.string ⟨L[j].toArray⟩)
theorem StrT.kept {w w':World} {g:Nat} {L:List (List UInt8)} {k:Nat} (h:StrT w g L k) (hb:Below w.heap.size w w'):StrT w' g L k:=by
 obtain ⟨cur,hg,h2⟩:=h
 exact ⟨cur,row_kept hg hb,h2⟩
theorem StrT.cell {w:World} {g:Nat} {L:List (List UInt8)} {k:Nat} (h:StrT w g L k) (j:Nat) (hj:j<L.length): ∃ v,w.cell? ⟨g,j,none⟩=some v:=by
 obtain ⟨cur,hg,hs,_⟩:=h
 rw [cell_of_row w g j cur _ _ hg];exact ⟨cur[j],by simp [hs,hj]⟩
theorem StrT.frozen {w:World} {g:Nat} {L:List (List UInt8)} {k:Nat} (h:StrT w g L k) (j:Nat):w.frozen? ⟨g,j,none⟩=false:=by
 obtain ⟨cur,hg,_⟩:=h
 simp [World.frozen?,hg]
theorem StrT.set {w:World} {g:Nat} {L:List (List UInt8)} {k:Nat} (h:StrT w g L k) (hk:k<L.length):StrT (w.setCell ⟨g,k,none⟩ (.string ⟨L[k].toArray⟩)) g L (k+1):=by
 obtain ⟨cur,hg,hs,hc⟩:=h
 refine ⟨_,Lib.heap_setCell_same hg _,by simpa using hs,?_⟩
 intro j hj hj2;by_cases e:k=j
 ·subst e
  have:k<cur.size:=by omega
  simp [this]
 ·simp [Array.getElem?_setIfInBounds,e]
  exact hc j hj (by omega)
theorem StrT.own {w:World} {B g:Nat} {L:List (List UInt8)} (h:StrT w g L L.length) (hB:B<=g) (hl:L.length<=maxLen):w.ownsRow B 9 1 (.slice (some ⟨g,0,none⟩) L.length L.length) L.length (cellsS L):=by
 obtain ⟨cur,hg,hs,hc⟩:=h
 refine ⟨by simp [cellsS_len],.inr ⟨g,L.length,cur,rfl,hB,hg,Nat.le_refl _,hl,by simpa using hs,?_⟩⟩
 apply List.ext_getElem?;intro j;by_cases hj:j<L.length
 ·have:=hc j hj hj
  rw [Nat.mul_one,List.getElem?_take,if_pos hj]
  simp only [cellsS,List.getElem?_map,List.getElem?_eq_getElem hj,Option.map_some]
  simpa using this
 ·rw [List.getElem?_eq_none (by simp;omega),List.getElem?_eq_none (by simp [cellsS];omega)]
theorem path_view {w:World} {v:Value} {L:List (List UInt8)} (h:PathAt w v L): ∃ a cap,v = .slice a L.length cap /\ ∀ j (hj:j<L.length),∃ b,a=some ⟨b,0,none⟩/\w.cell? ⟨b,j,none⟩=some (.string ⟨L[j].toArray⟩):=by
 rcases h with ⟨rfl,rfl⟩ | ⟨b,cap,rfl,h2,h3,h4,h5⟩
 ·exact ⟨none,0,rfl,fun j hj=>by simp at hj⟩
 ·exact ⟨_,_,rfl,fun j hj=>⟨b,rfl,h5 j hj⟩⟩
theorem unpercented_any (v:Value) (L:List (List UInt8)) (w:World) (hv:PathAt w v L) (hl:L.length<=5000000000) (hs: ∀ x ∈ L,x.length<=140737488351232):
 Calls Tryz.prog 132 #[v] w (TxPost (L.map unpct) w):=by
 obtain ⟨i0,hi,hz0,hz1,hz2⟩:=info_parts infoStr
 obtain ⟨a,cap,rfl,hview⟩:=path_view hv
 have HV:=hid hview;have HSz:=hid hs;obtain ⟨n,hn⟩: ∃ n,n=L.length:=⟨_,rfl⟩
 have HN:=hid hn;rw [<- hn] at hl ⊢;have HNM:=hid (show (L.map unpct).length=n by rw [List.length_map,hn]);clear hv hview hs hn
 go_enter Tryz.func132,Tryz.ntmps132
 go_wp2_with (at_make;refine wpList_make_full _ rfl _ _ 22 rfl w.heap.size 9 i0 (.string ByteArray.empty) 1 Tryz.underlying22 hi hz0 hz1 .i64 .i64 _ _ n rfl rfl rfl rfl (by rw [hz2];omega) (by unfold maxLen;omega) (Nat.le_refl _) ?_)
 intro w0 hown0 hgrow0;have hb0:Below w.heap.size w w0:=(Below.refl _ w).grown hgrow0 (Nat.le_refl _) (fun k hk=>by simp at hk);have hst:StrT w0 w.heap.size (L.map unpct) 0:=by
  rcases hown0.2 with ⟨hv,_⟩ | ⟨g,cap',cur,hv,_,hcur,_,_,hsz,_⟩
  ·cases hv
  ·cases hv
   exact ⟨cur,hcur,by rw [HNM.out];simpa using hsz,fun j _ h=>absurd h (Nat.not_lt_zero _)⟩
 clear hown0 hgrow0;have HS0:=hid hst;have HB0:=hid hb0;clear hst hb0
 go_wp2
 go_loopg [11] n (fun g iv wr=> ∃ k:Nat,k+g=n/\iv = .int .i64 k/\Hid (StrT wr w.heap.size (L.map unpct) k/\Below w.heap.size w wr))
 case atStart=>exact ⟨0,by omega,rfl,HS0.out,HB0.out⟩
 case round=>
  obtain ⟨k,hkg,rfl,HR⟩:=hrel
  cases gk with
  | zero=>
    have hkx: ¬ ((k:Int)<(n:Int)):=by omega
    obtain rfl:k=n:=by omega
    go_wp2
    go_ret
    refine ⟨w.heap.size,(L.map unpct).length,by rw [HNM.out];rfl,?_,HR.out.2⟩
    have h:=HR.out.1;rw [<- HNM.out] at h;exact h.own (Nat.le_refl _) (by rw [HNM.out];unfold maxLen;omega)
  | succ g=>
    have hk:k<L.length:=by have:=HN.out;omega
    have hk':(k:Int)<(n:Int):=by omega
    obtain ⟨b,rfl,hc0⟩:=HV.out k hk
    have hcell:=keptC hc0 HR.out.2;obtain ⟨X,hX⟩: ∃ X:ByteArray,X=⟨L[k].toArray⟩:=⟨_,rfl⟩
    have hXl:X.data.toList=L[k]:=by rw [hX]
    have hXs:X.size<=140737488351232:=by rw [Lib.size_eq,hXl];exact HSz.out _ (List.getElem_mem hk)
    rw [<- hX] at hcell;have HUn:=hid (fun w=>unpercent_any X w hXs);obtain ⟨Y,hY⟩: ∃ Y:ByteArray,Y=⟨(unpct X.data.toList).toArray⟩:=⟨_,rfl⟩
    rw [<- hY] at HUn;have hkm:k<(L.map unpct).length:=by rw [List.length_map];exact hk
    have HY:=hid (show Y=⟨((L.map unpct)[k]'hkm).toArray⟩ by rw [hY,hXl];simp);clear hX hXl hXs hY hc0
    go_wp2_with fail
    refine (HUn.out _).mono ?_;rintro e w1 ⟨rfl,hb1⟩
    have hb1':Below wr.heap.size wr w1:=by first | exact hb1 | (subst hb1;exact Below.refl _ _)
    have HS1:=hid (HR.out.1.kept hb1');obtain ⟨v0,hc0⟩:=HS1.out.cell k hkm
    have hfz:=HS1.out.frozen k;have HS2:=hid (show StrT (w1.setCell ⟨w.heap.size,k,none⟩ (.string Y)) w.heap.size (L.map unpct) (k+1) by
     rw [HY.out];exact HS1.out.set hkm)
    have HB:=hid ((below2 HR.out.2 hb1').setCell (p:=⟨w.heap.size,k,none⟩) (Nat.le_refl _) (.string Y));clear hb1 hb1' hcell
    go_wp2
    go_roundg g
    case measure=>omega
    case rel=>exact ⟨k+1,by omega,by go_num,HS2.out,HB.out⟩
theorem range_kept {w w':World} {g o:Nat} {cs:List Value} (h:w.rangeAt g o cs) (hb:Below w.heap.size w w'):w'.rangeAt g o cs:=fun j v hv=>by
 have h1:=h j v hv;exact (hb.cell (World.block_lt_of_cell? w _ h1)).trans h1
structure Vio where
 pol:Int
 rule:List UInt8
 url:List UInt8
 rep:Bool
deriving DecidableEq
def vioCells (v:Vio):List Value:=[.int .i64 v.pol,.string ⟨v.rule.toArray⟩,.string ⟨v.url.toArray⟩,.bool v.rep]
def vioVal (v:Vio):Value:= .agg (vioCells v).toArray
def cellsV (L:List Vio):List Value:=L.flatMap vioCells
theorem cellsV_app (a b:List Vio):cellsV (a++b)=cellsV a++cellsV b:=by simp [cellsV]
theorem cellsV_one (v:Vio):cellsV [v]=vioCells v:=by simp [cellsV]
theorem cellsV_len: ∀ L:List Vio,(cellsV L).length=L.length*4
 | []=>rfl
 | p::L=>by
   have e:cellsV (p::L)=vioCells p++cellsV L:=rfl;rw [e,List.length_append,cellsV_len L,List.length_cons];show 4+_=_;omega
theorem cellsV_at: ∀ (L:List Vio) (i:Nat) (h:i<L.length) (j:Nat) (v:Value),(vioCells L[i])[j]? = some v->(cellsV L)[i*4+j]? = some v
 | [],i,h,_,_,_=>by simp at h
 | p::L,0,_,j,v,hv=>by
   have hj:j<4:=(List.getElem?_eq_some_iff.1 hv).1;have e:cellsV (p::L)=vioCells p++cellsV L:=rfl;rw [e,Nat.zero_mul,Nat.zero_add,List.getElem?_append_left (by show j<4;exact hj)]
   exact hv
 | p::L,i+1,h,j,v,hv=>by
   have e:cellsV (p::L)=vioCells p++cellsV L:=rfl;rw [e,List.getElem?_append_right (by show 4<=_;omega)]
   show (cellsV L)[(i+1)*4+j - 4]? = _;rw [show (i+1)*4+j - 4=i*4+j by omega];exact cellsV_at L i (by simpa using h) j v hv
theorem sizeV:(Tryz.prog.info? 44).map (·.size)=some 4:=by kernel_rfl
def VlAt (w:World) (v:Value) (L:List Vio):Prop:=
 ∃ a cap,v = .slice a L.length cap/\L.length<=cap/\cap<=maxLen /\ ∀ i (h:i<L.length),∃ g o,a=some ⟨g,o,none⟩/\w.rangeAt g (o+i*4) (vioCells L[i])
theorem VlAt.view {w:World} {v:Value} {L:List Vio} (h:VlAt w v L): ∃ a cap,v = .slice a L.length cap/\L.length<=cap/\cap<=maxLen /\ ∀ i (h:i<L.length),∃ g o,a=some ⟨g,o,none⟩/\w.rangeAt g (o+i*4) (vioCells L[i]):=h
theorem VlAt.kept {w w':World} {v:Value} {L:List Vio} (h:VlAt w v L) (hb:Below w.heap.size w w'):VlAt w' v L:=by
 obtain ⟨a,cap,e,h1,h2,h3⟩:=h
 refine ⟨a,cap,e,h1,h2,fun i hi=> ?_⟩
 obtain ⟨g,o,e1,e2⟩:=h3 i hi
 exact ⟨g,o,e1,range_kept e2 hb⟩
theorem vl_nil (w:World):VlAt w (.slice none 0 0) []:=⟨none,0,rfl,Nat.le_refl _,by decide,fun j hj=>by simp at hj⟩
theorem VlAt.take {w:World} {a:Option Addr} {n cap:Nat} {L:List Vio} (h:VlAt w (.slice a n cap) L) (k:Nat) (hk:k<=L.length):VlAt w (.slice a k cap) (L.take k):=by
 obtain ⟨a',cap',e,h1,h2,h3⟩:=h
 injection e with e1 e2 e3
 subst e1;subst e3;have hl:(L.take k).length=k:=by rw [List.length_take];omega
 refine ⟨a,cap,by rw [hl],by rw [hl];omega,h2,fun i hi=> ?_⟩
 rw [hl] at hi;obtain ⟨g,o,e1,e2⟩:=h3 i (by omega)
 rw [List.getElem_take];exact ⟨g,o,e1,e2⟩
theorem own_vl {w:World} {B:Nat} {v:Value} {L:List Vio} (h:w.ownsRow B 44 4 v L.length (cellsV L)):VlAt w v L:=by
 rcases h.2 with ⟨rfl,h0⟩ | ⟨g,cap,cur,rfl,hb,hg,h1,h2,h3,h4⟩
 ·have:L=[]:=List.eq_nil_of_length_eq_zero h0
  subst this;exact vl_nil w
 ·refine ⟨_,cap,rfl,h1,h2,fun i hi=>⟨g,0,rfl,fun j u hu=> ?_⟩⟩
  have hc:=cellsV_at L i hi j u hu;have:=h.cellAt (i*4+j) (by
   have:=(List.getElem?_eq_some_iff.1 hc).1;rw [cellsV_len] at this;exact this)
  rw [Nat.zero_add,this]
  exact hc
def blkV12 (L:List Vio):Bool:=L.any (fun v=> !v.rep)
theorem blocks1_any (P:Int) (X Y:ByteArray) (r:Bool) (w:World):
 Calls Tryz.prog 23 #[.agg #[.int .i64 P,.string X,.string Y,.bool r]] w fun e w'=>e = .returned (.bool (!r))/\Below w.heap.size w w':=by
 have HB:=hid (show Below w.heap.size w (w.alloc (.cells #[.int .i64 P,.string X,.string Y,.bool r] 44)) from (Below.refl _ w).alloc (Nat.le_refl _) _)
 go_enter Tryz.func23,Tryz.ntmps23
 go_wp2
 go_ret
 exact ⟨rfl,HB.out⟩
theorem index12_any (v:Value) (L:List Vio) (w:World) (hv:VlAt w v L) (hl:L.length<=1000000000):
 Calls Tryz.prog 40 #[v,.func (.func 23) #[] #[]] w fun e w'=> ∃ z:Int,e = .returned (.int .i64 z)/\decide (0<=z)=blkV12 L/\Below w.heap.size w w':=by
 obtain ⟨a1,c1,rfl,hc1,hm1,hv1⟩:=hv.view
 have HV:=hid hv1;obtain ⟨n,hn⟩: ∃ n,n=L.length:=⟨_,rfl⟩
 have HN:=hid hn;rw [<- hn] at hc1 hl ⊢;clear hv hv1 hn
 go_enter Tryz.func40,Tryz.ntmps40
 go_wp2_with fail
 go_loopw [8] (fun v8 wr=> ∃ k:Nat,k<=n/\v8 = .int .i64 k/\Hid (blkV12 (L.take k)=false/\Below w.heap.size w wr)) (fun v8 _=>n - (intOf v8).toNat)
 case atStart=>exact ⟨0,Nat.zero_le _,rfl,rfl,Below.refl _ w⟩
 case round=>
  obtain ⟨k,hk,rfl,HR⟩:=hrel
  by_cases hlt:k<n
  ·have hkL:k<L.length:=by have:=HN.out;omega
   obtain ⟨b1,o1,rfl,e1⟩:=HV.out k hkL
   have e2:=range_kept e1 HR.out.2;obtain ⟨x,hx⟩: ∃ x,x=L[k]:=⟨_,rfl⟩
   rw [<- hx] at e2;have HT:=hid (show blkV12 (L.take (k+1)) = !x.rep by
    unfold blkV12;rw [List.take_succ_eq_append_getElem hkL,List.any_append,show ((L.take k).any fun v=> !v.rep)=false from HR.out.1,<- hx];simp)
   have HTA:=hid (show (!x.rep)=true->blkV12 L=true from fun h=>List.any_eq_true.2 ⟨x,by rw [hx];exact List.getElem_mem hkL,h⟩);obtain ⟨P,X,Y,r⟩:=x
   dsimp only at HT HTA;obtain ⟨XB,hXB⟩: ∃ V:ByteArray,(⟨X.toArray⟩:ByteArray)=V:=⟨_,rfl⟩
   obtain ⟨YB,hYB⟩: ∃ V:ByteArray,(⟨Y.toArray⟩:ByteArray)=V:=⟨_,rfl⟩
   have hcs:vioCells ⟨P,X,Y,r⟩=[.int .i64 P,.string XB,.string YB,.bool r]:=by unfold vioCells;rw [<- hXB,<- hYB]
   rw [hcs] at e2;have HRg:=hid e2;have HB1:=hid (fun w=>blocks1_any P XB YB r w);have HBr:=hid HR.out.2;have hin:(k:Int)<(n:Int):=by omega
   clear e1 e2 hx hkL hXB hYB hcs HR
   cases r with
   | true=>
     go_wp2_with (first | (refine wpList_load_mid rfl 44 (.tmp 14) rfl b1 (o1+k*4) rfl [.int .i64 P,.string XB,.string YB,.bool true] _ HRg.out Tryz.underlying44 rfl sizeV ?_) | (go_at_call 23;refine (HB1.out _).mono ?_;rintro e w2 ⟨rfl,hb2⟩;have HB2:=hid (below2 HBr.out hb2);clear hb2))
     go_roundw
     case rel=>
      have e4:blkV12 (L.take (k+1))=false/\Below w.heap.size w w2:=⟨HT.out,HB2.out⟩
      first
       | exact ⟨k+1,by omega,by go_num,e4⟩
       | ((repeat apply Exists.intro);refine ⟨?_,rfl⟩;exact ⟨k+1,by omega,by go_num,e4⟩)
       | ((repeat apply Exists.intro);exact ⟨⟨k+1,by omega,by go_num,e4⟩,rfl⟩)
     case measure=>simp [intOf];omega
   | false=>
     go_wp2_with (first | (refine wpList_load_mid rfl 44 (.tmp 14) rfl b1 (o1+k*4) rfl [.int .i64 P,.string XB,.string YB,.bool false] _ HRg.out Tryz.underlying44 rfl sizeV ?_) | (go_at_call 23;refine (HB1.out _).mono ?_;rintro e w2 ⟨rfl,hb2⟩;have HB2:=hid (below2 HBr.out hb2);clear hb2))
     go_ret
     exact ⟨(k:Int),rfl,by rw [HTA.out (by first | rfl | trivial)];simp,HB2.out⟩
  ·obtain rfl:k=n:=by omega
   have HA:=hid (show blkV12 L=false by have h:=HR.out.1;rwa [List.take_of_length_le (by have:=HN.out;omega)] at h);have HB:=hid HR.out.2;clear HR hk hlt
   go_wp2_with fail
   go_ret
   exact ⟨-1,rfl,by rw [HA.out];rfl,HB.out⟩
theorem blocks12_any (v:Value) (L:List Vio) (w:World) (hv:VlAt w v L) (hl:L.length<=1000000000):
 Calls Tryz.prog 13 #[v] w fun e w'=>e = .returned (.bool (blkV12 L))/\Below w.heap.size w w':=by
 have HC:Hid (Calls Tryz.prog 22 #[v,.func (.func 23) #[] #[]] w fun e w'=>e = .returned (.bool (blkV12 L))/\Below w.heap.size w w'):=by
  have HI:=hid (index12_any v L w hv hl);obtain ⟨a1,c1,rfl,hc1,hm1,hv1⟩:=hv.view
  clear hv hl hv1 hc1 hm1;refine hid ?_
  go_enter Tryz.func22,Tryz.ntmps22
  go_wp2_with fail
  refine HI.out.mono ?_;rintro e w2 ⟨z,rfl,hz,hb⟩
  have HZ:=hid hz;have HB:=hid hb;clear hz hb
  go_wp2_with fail
  go_ret
  exact ⟨ret_bool HZ.out,HB.out⟩
 obtain ⟨a1,c1,rfl,hc1,hm1,hv1⟩:=hv.view
 clear hv hl hv1 hc1 hm1
 go_enter Tryz.func13,Tryz.ntmps13
 go_wp2_with fail
 refine HC.out.mono ?_;rintro e w2 ⟨rfl,hb⟩
 go_wp2_with fail
 go_ret
 exact ⟨rfl,hb⟩
end Go.Proofs.YtijpkalkfbejeaaGreatDoor
