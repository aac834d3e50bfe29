/- Walks and plain facts. -/
import Derived.Test.YtijpkalkfbejeaaGreatDoorQm36
set_option linter.unusedSimpArgs false
set_option linter.unusedVariables false
set_option maxHeartbeats 16000000
set_option maxRecDepth 100000

namespace Go.Proofs.YtijpkalkfbejeaaGreatDoor
open Go.RowKit
def vi1:Vio:=⟨0,[105,109,103,45,115,114,99],[104,116,116,112,115,58,47,47,112,46,99,111,109,47,120],false⟩
theorem kn1_12:chkW [(polV [105,109,103,45,115,114,99,32,39,110,111,110,101,39],false)] (adrOf (urlV [104,116,116,112,115,58,47,47,117,58,112,64,112,46,99,111,109,47,120,35,102])) pageP 4 0 [] []=[vi1]:=by decide +kernel
theorem kn2_12:chkW [(polV [105,109,103,45,115,114,99,32,39,110,111,110,101,39],false)] (adrOf (urlV [104,116,116,112,115,58,47,47,98,47])) pageP 2 0 [] []=[]:=by decide +kernel
theorem known12_any (w:World) (hg:Gd w):Calls Tryz.prog 5 #[] w fun e w'=>e = .returned (.bool true)/\Below w.heap.size w w':=by
 have HG:=hid hg;have HPa:=hid (parseP (⟨#[105,109,103,45,115,114,99,32,39,110,111,110,101,39]⟩:ByteArray) false _ w (by decide) rfl);have HA1:=hid (fun (Z:World)=>ask12_any (⟨#[104,116,116,112,115,58,47,47,117,58,112,64,112,46,99,111,109,47,120,35,102]⟩:ByteArray) 4 Z (by decide));have HA2:=hid (fun (Z:World)=>ask12_any (⟨#[104,116,116,112,115,58,47,47,98,47]⟩:ByteArray) 2 Z (by decide));unfold AkPost at HA1 HA2
 have HC1:=hid (fun (v pv uv:Value) (Z:World) (h1:Below w.heap.size w Z) (h2:PlAt Z v [(polV [105,109,103,45,115,114,99,32,39,110,111,110,101,39],false)]) (h3:AskAt Z (askOf (adrOf (urlV [104,116,116,112,115,58,47,47,117,58,112,64,112,46,99,111,109,47,120,35,102])) pv uv 4))=>check_at12 v [(polV [105,109,103,45,115,114,99,32,39,110,111,110,101,39],false)] _ [vi1] 1 Z (HG.out.kept h1) h2 (by decide) (fun q hq=>by rw [List.mem_singleton.1 hq];exact szl_pol _ (by decide)) h3 (ak_of _ _ _ _) (by rw [chkV_eq];exact kn1_12) rfl)
 have HC2:=hid (fun (v pv uv:Value) (Z:World) (h1:Below w.heap.size w Z) (h2:PlAt Z v [(polV [105,109,103,45,115,114,99,32,39,110,111,110,101,39],false)]) (h3:AskAt Z (askOf (adrOf (urlV [104,116,116,112,115,58,47,47,98,47])) pv uv 2))=>check_at12 v [(polV [105,109,103,45,115,114,99,32,39,110,111,110,101,39],false)] _ [] 0 Z (HG.out.kept h1) h2 (by decide) (fun q hq=>by rw [List.mem_singleton.1 hq];exact szl_pol _ (by decide)) h3 (ak_of _ _ _ _) (by rw [chkV_eq];exact kn2_12) rfl)
 rw [show (⟨#[105,109,103,45,115,114,99,32,39,110,111,110,101,39]⟩:ByteArray).data.toList=[105,109,103,45,115,114,99,32,39,110,111,110,101,39] from rfl] at HPa;rw [show (⟨#[104,116,116,112,115,58,47,47,117,58,112,64,112,46,99,111,109,47,120,35,102]⟩:ByteArray).data.toList=[104,116,116,112,115,58,47,47,117,58,112,64,112,46,99,111,109,47,120,35,102] from rfl] at HA1;rw [show (⟨#[104,116,116,112,115,58,47,47,98,47]⟩:ByteArray).data.toList=[104,116,116,112,115,58,47,47,98,47] from rfl] at HA2;generalize polV [105,109,103,45,115,114,99,32,39,110,111,110,101,39]=L at *
 generalize adrOf (urlV [104,116,116,112,115,58,47,47,117,58,112,64,112,46,99,111,109,47,120,35,102])=U1 at *
 generalize adrOf (urlV [104,116,116,112,115,58,47,47,98,47])=U2 at *
 obtain ⟨n,hn⟩: ∃ n,L.length=n:=⟨_,rfl⟩
 rw [hn] at HPa;have HN:=hid hn;have HBl:=hid (fun (v:Value) (Z:World) (h:VlAt Z v [vi1])=>blocks12_any v [vi1] Z h (by decide));rw [show blkV12 [vi1]=true from rfl] at HBl;clear hg hn
 go_enter Tryz.func5,Tryz.ntmps5
 go_wp2_with fail
 refine HPa.out.mono ?_;rintro e w1 ⟨a1,c1,rfl,⟨_,_,hpo⟩,hb1⟩
 obtain ⟨W1,hW1⟩: ∃ X,(w1.alloc (.cells #[.slice a1 n c1,.bool false] 39))=X:=⟨_,rfl⟩
 have hbW1:Below w1.heap.size w1 W1:=by rw [<- hW1];exact (Below.refl _ w1).alloc (Nat.le_refl _) _
 have HPl:=hid (show PlAt W1 (.slice (some ⟨w1.heap.size,0,none⟩) 1 1) [(L,false)] by rw [<- hW1];exact pl_one12 false hpo HN.out);have HB1:=hid (below2 hb1 hbW1);clear hb1 hbW1 hpo HPa
 go_wp2_with fail
 refine (HA1.out _).mono ?_;rintro e w2 ⟨pv,uv,rfl,hak,hb2⟩
 have HB2:=hid (below2 HB1.out hb2);have HPl2:=hid (HPl.out.kept hb2);have HAk:=hid hak;clear hak hb2
 go_wp2_with fail
 refine (HC1.out _ _ _ _ HB2.out HPl2.out HAk.out).mono ?_;rintro e w3 ⟨vb,vc,rfl,hvl,hb3⟩
 have HB3:=hid (below2 HB2.out hb3);have HPl3:=hid (HPl2.out.kept hb3);have HVl:=hid hvl;obtain ⟨g,o,rfl,d0,d1,d2,d3⟩:=hvl.at12 0 (by decide)
 rw [show o+0*4=o by omega] at d0 d1 d2 d3;have d0:w3.cell? ⟨g,o,none⟩=some (.int .i64 0):=d0
 have d1:w3.cell? ⟨g,o+1,none⟩=some (.string ⟨#[105,109,103,45,115,114,99]⟩):=d1
 have d2:w3.cell? ⟨g,o+2,none⟩=some (.string ⟨#[104,116,116,112,115,58,47,47,112,46,99,111,109,47,120]⟩):=d2
 have d3:w3.cell? ⟨g,o+3,none⟩=some (.bool false):=d3
 clear hvl hb3
 go_wp2_with fail
 refine (HBl.out _ _ HVl.out).mono ?_;rintro e w4 ⟨rfl,hb4⟩
 have HB4:=hid (below2 HB3.out hb4);have HPl4:=hid (HPl3.out.kept hb4);clear hb4
 go_wp2_with fail
 refine (HA2.out _).mono ?_;rintro e w5 ⟨pv5,uv5,rfl,hak5,hb5⟩
 have HB5:=hid (below2 HB4.out hb5);have HPl5:=hid (HPl4.out.kept hb5);have HAk5:=hid hak5;clear hak5 hb5
 go_wp2_with fail
 refine (HC2.out _ _ _ _ HB5.out HPl5.out HAk5.out).mono ?_;rintro e w6 ⟨vb6,vc6,rfl,hvl6,hb6⟩
 have HB6:=hid (below2 HB5.out hb6);clear hvl6 hb6
 go_wp2
 go_ret
 exact ⟨rfl,HB6.out⟩
theorem page_yes {s:List UInt8} (h:isOk (urlV s)=true) (hw:webV (adrOf (urlV s)).scheme=true):pageV s=adrOf (urlV s):=by
 unfold pageV pageT
 cases hu:urlV s with
 | error e=>rw [hu] at h;cases h
 | ok u=>
   rw [hu] at hw;simp only;rw [if_pos (show webV u.scheme=true from hw),show readV (s.take 300) none = .ok u from hu]
theorem page_no {s:List UInt8} (h:isOk (urlV s)=false∨webV (adrOf (urlV s)).scheme=false):pageV s=adrOf (urlV pageD):=by
 unfold pageV pageT
 cases hu:urlV s with
 | error e=>rfl
 | ok u=>
   rw [hu] at h;simp only;rcases h with h | h
   ·cases h
   ·rw [if_neg (by rw [show u.scheme=(adrOf (Except.ok u)).scheme from rfl,h];decide)]
    rfl
theorem page_any (S:ByteArray) (w:World) (hs:S.size<=9223372036854775807):
 Calls Tryz.prog 6 #[.string S] w (PgPost (pageV S.data.toList) w):=by
 have HU:=hid (fun w=>url_k S w hs);have HD:=hid (fun w=>url_k ⟨#[104,116,116,112,115,58,47,47,97,46,101,120,97,109,112,108,101,47,112,63,113]⟩ w (by decide));rw [show (⟨#[104,116,116,112,115,58,47,47,97,46,101,120,97,109,112,108,101,47,112,63,113]⟩:ByteArray).data.toList=pageD from rfl] at HD;have HY:=hid (fun h hw=>page_yes (s:=S.data.toList) h hw);have HN:=hid (fun h=>page_no (s:=S.data.toList) h);generalize pageV S.data.toList=PV at HY HN ⊢;generalize urlV S.data.toList=r at HU HY HN;generalize urlV pageD=rd at HD HN;unfold UPost at HU HD;unfold PgPost
 obtain ⟨ok,hok⟩: ∃ q,isOk r=q:=⟨_,rfl⟩
 obtain ⟨okd,hokd⟩: ∃ q,isOk rd=q:=⟨_,rfl⟩
 rw [hok] at HU HY HN;rw [hokd] at HD;generalize adrOf r=A at HU HY HN;generalize adrOf rd=B at HD HN;clear hok hokd hs;have h0:AdrIn (w.alloc (.cells (adrCells Adr.zero (.slice none 0 0)).toArray 24)) w.heap.size Adr.zero (.slice none 0 0):=heap_alloc_new w _;have hb0:Below w.heap.size w (w.alloc (.cells (adrCells Adr.zero (.slice none 0 0)).toArray 24)):=(Below.refl _ w).alloc (Nat.le_refl _) _;have H0:=hid h0;have HB0:=hid hb0;clear h0 hb0
 go_enter Tryz.func6,Tryz.ntmps6
 go_wp2_with fail
 refine (HU.out _).mono ?_;rintro e w1 ⟨pv,rfl,hown,hb1⟩
 have HO1:=hid hown;have HS1:=hid hb1.size;obtain ⟨da,dn,dc,rfl⟩:=own_sl hown
 obtain ⟨d0,d1,d2,d3,d4,d5,d6,d8,d9,d10,d11,hxd,hx0,-,-,-⟩:=adr_named A da dn dc
 have hvd:adrVal A (.slice da dn dc) = .agg #[.string d0,.string d1,.string d2,.string d3,.bool d4,.int .i64 d5,.bool d6,.slice da dn dc,.string d8,.string d9,.bool d10,.bool d11]:=by unfold adrVal;rw [hxd]
 rw [hvd];obtain ⟨W2,hW2⟩: ∃ X,(w1.alloc (.cells #[.string d0,.string d1,.string d2,.string d3,.bool d4,.int .i64 d5,.bool d6,.slice da dn dc,.string d8,.string d9,.bool d10,.bool d11] 24))=X:=⟨_,rfl⟩
 have hbW2:Below w1.heap.size w1 W2:=by rw [<- hW2];exact (Below.refl _ w1).alloc (Nat.le_refl _) _
 have hsW2:W2.heap.size=w1.heap.size+1:=by rw [<- hW2];simp
 have hAW2:AdrIn W2 w1.heap.size A (.slice da dn dc):=by
  unfold AdrIn;rw [hxd,<- hW2]
  exact heap_alloc_new w1 _
 have HA02:=hid ((H0.out.kept hb1).kept hbW2);have HB2:=hid (below2 (below2 HB0.out hb1) hbW2);have HA2:=hid hAW2;have HXd:=hid hxd;have HO2:=hid (ownsRow_same hown fun g hg=>hbW2.block g (hown.lt g hg).2);have c0:=hAW2.cell 0 (.string d0) (by rw [hxd];rfl)
 obtain ⟨q1,eq1⟩: ∃ q,(d0.toList==[104,116,116,112])=q:=⟨_,rfl⟩
 obtain ⟨q2,eq2⟩: ∃ q,(d0.toList==[104,116,116,112,115])=q:=⟨_,rfl⟩
 have nq1:(d0.toList != [104,116,116,112]) = !q1:=by rw [<- eq1];rfl
 have nq2:(d0.toList != [104,116,116,112,115]) = !q2:=by rw [<- eq2];rfl
 have HW:=hid (show webV A.scheme=(q1||q2) by unfold webV;rw [<- eq1,<- eq2,Lib.toList_data,hx0];rfl);clear hown hb1 hbW2 hAW2 hxd hvd hsW2 hx0 HU HO1;have hcs:(ok=true/\q1=true)∨(ok=true/\q1=false/\q2=true)∨ok=false∨(ok=true/\q1=false/\q2=false):=by
  cases ok<;>cases q1<;>cases q2<;>simp
 rcases hcs with ⟨rfl,rfl⟩ | ⟨rfl,rfl,rfl⟩ | rfl | ⟨rfl,rfl,rfl⟩
 ·have HE:=hid (HY.out rfl (by rw [HW.out];rfl))
  obtain ⟨Wz,hWz⟩: ∃ X,X=W2.setCells w.heap.size 0 [.string d0,.string d1,.string d2,.string d3,.bool d4,.int .i64 d5,.bool d6,.slice da dn dc,.string d8,.string d9,.bool d10,.bool d11]:=⟨_,rfl⟩
  have HAz:=hid (show AdrIn Wz w.heap.size A (.slice da dn dc) by
   have:=HA02.out.store (v:=A) (qv:= .slice da dn dc);rw [HXd.out] at this;rw [hWz];exact this)
  have HBz:=hid (show Below w.heap.size w Wz by rw [hWz];exact below_setCells (Nat.le_refl _) _ _ _ HB2.out);have HPz:=hid (show PathAt Wz (.slice da dn dc) A.path by rw [hWz];exact own_path (own_cells HO2.out HA02.out _ 0));have HTz:=hid (show W2.there w.heap.size 0 12 from HA02.out.there);have HWz:=hid hWz;have honz:(#[.string d0,.string d1,.string d2,.string d3,.bool d4,.int .i64 d5,.bool d6,.slice da dn dc,.string d8,.string d9,.bool d10,.bool d11]:Array Value).all (·.oneCell')=true:=by
   have:=all_oneCell_toArray (adrCells_one A (.slice da dn dc) ⟨_,_,_,rfl⟩);rw [HXd.out] at this;exact this
  clear hWz;obtain ⟨y0,y1,y2,y3,y4,y5,y6,y7,y8,y9,y10,y11⟩:=adr_twelve HXd.out HA2.out
  go_wp2_with (refine wpList_store_mid rfl 24 (.tmp 2) (.tmp 26) rfl w.heap.size 0 #[.string d0,.string d1,.string d2,.string d3,.bool d4,.int .i64 d5,.bool d6,.slice da dn dc,.string d8,.string d9,.bool d10,.bool d11] rfl rfl HTz.out (sizeUa A (.slice da dn dc)) honz ?_;refine wpList_worldO HWz.out ?_)
  have hrg:=range_row HAz.out;refine bodyPost_ret (results_u1 rfl _ _ w.heap.size A (.slice da dn dc) rfl ?_) rfl ⟨.slice da dn dc,?_,?_,HBz.out⟩
  ·rw [HXd.out] at hrg ⊢;exact hrg
  ·rw [HE.out]
  ·rw [HE.out];exact HPz.out
 ·have HE:=hid (HY.out rfl (by rw [HW.out];rfl))
  obtain ⟨Wz,hWz⟩: ∃ X,X=W2.setCells w.heap.size 0 [.string d0,.string d1,.string d2,.string d3,.bool d4,.int .i64 d5,.bool d6,.slice da dn dc,.string d8,.string d9,.bool d10,.bool d11]:=⟨_,rfl⟩
  have HAz:=hid (show AdrIn Wz w.heap.size A (.slice da dn dc) by
   have:=HA02.out.store (v:=A) (qv:= .slice da dn dc);rw [HXd.out] at this;rw [hWz];exact this)
  have HBz:=hid (show Below w.heap.size w Wz by rw [hWz];exact below_setCells (Nat.le_refl _) _ _ _ HB2.out);have HPz:=hid (show PathAt Wz (.slice da dn dc) A.path by rw [hWz];exact own_path (own_cells HO2.out HA02.out _ 0));have HTz:=hid (show W2.there w.heap.size 0 12 from HA02.out.there);have HWz:=hid hWz;have honz:(#[.string d0,.string d1,.string d2,.string d3,.bool d4,.int .i64 d5,.bool d6,.slice da dn dc,.string d8,.string d9,.bool d10,.bool d11]:Array Value).all (·.oneCell')=true:=by
   have:=all_oneCell_toArray (adrCells_one A (.slice da dn dc) ⟨_,_,_,rfl⟩);rw [HXd.out] at this;exact this
  clear hWz;obtain ⟨y0,y1,y2,y3,y4,y5,y6,y7,y8,y9,y10,y11⟩:=adr_twelve HXd.out HA2.out
  go_wp2_with (refine wpList_store_mid rfl 24 (.tmp 2) (.tmp 26) rfl w.heap.size 0 #[.string d0,.string d1,.string d2,.string d3,.bool d4,.int .i64 d5,.bool d6,.slice da dn dc,.string d8,.string d9,.bool d10,.bool d11] rfl rfl HTz.out (sizeUa A (.slice da dn dc)) honz ?_;refine wpList_worldO HWz.out ?_)
  have hrg:=range_row HAz.out;refine bodyPost_ret (results_u1 rfl _ _ w.heap.size A (.slice da dn dc) rfl ?_) rfl ⟨.slice da dn dc,?_,?_,HBz.out⟩
  ·rw [HXd.out] at hrg ⊢;exact hrg
  ·rw [HE.out]
  ·rw [HE.out];exact HPz.out
 ·have HE:=hid (HN.out (.inl rfl))
  go_wp2_with fail
  refine (HD.out _).mono ?_;rintro e w3 ⟨qv,rfl,hown,hb3⟩
  obtain ⟨va,vn,vc,rfl⟩:=own_sl hown
  obtain ⟨v0,v1,v2,v3,v4,v5,v6,v8,v9,v10,v11,hxv⟩:=adr_cells B va vn vc
  have hvv:adrVal B (.slice va vn vc) = .agg #[.string v0,.string v1,.string v2,.string v3,.bool v4,.int .i64 v5,.bool v6,.slice va vn vc,.string v8,.string v9,.bool v10,.bool v11]:=by unfold adrVal;rw [hxv]
  rw [hvv];have HXv:=hid hxv;have HA03:=hid (HA02.out.kept hb3);have hA3:=HA2.out.kept hb3;have HB3:=hid (below2 HB2.out hb3);obtain ⟨W4,hW4⟩: ∃ X,X=w3.setCells w1.heap.size 0 [.string v0,.string v1,.string v2,.string v3,.bool v4,.int .i64 v5,.bool v6,.slice va vn vc,.string v8,.string v9,.bool v10,.bool v11]:=⟨_,rfl⟩
  have hlt:w.heap.size≠w1.heap.size:=Nat.ne_of_lt (Nat.lt_of_lt_of_le (show w.heap.size<(w.alloc (.cells (adrCells Adr.zero (.slice none 0 0)).toArray 24)).heap.size by simp) HS1.out);have HA4:=hid (show AdrIn W4 w1.heap.size B (.slice va vn vc) by
   have:=hA3.store (v:=B) (qv:= .slice va vn vc);rw [hxv] at this;rw [hW4];exact this)
  have HA04:=hid (show AdrIn W4 w.heap.size Adr.zero (.slice none 0 0) by rw [hW4];unfold AdrIn;rw [setCells_other hlt];exact HA03.out);have HB4:=hid (show Below w.heap.size w W4 by rw [hW4];exact below_setCells (Nat.le_trans (Nat.le_of_lt (by simp)) HS1.out) _ _ _ HB3.out);have HO4:=hid (show W4.ownsRow W2.heap.size 9 1 (.slice va vn vc) B.path.length (cellsS B.path) by rw [hW4];exact own_cells hown hA3 _ 0);have HT4:=hid (show w3.there w1.heap.size 0 12 from hA3.there);have HW4:=hid hW4
  have hone:(#[.string v0,.string v1,.string v2,.string v3,.bool v4,.int .i64 v5,.bool v6,.slice va vn vc,.string v8,.string v9,.bool v10,.bool v11]:Array Value).all (·.oneCell')=true:=by
   have:=all_oneCell_toArray (adrCells_one B (.slice va vn vc) ⟨_,_,_,rfl⟩);rw [hxv] at this;exact this
  clear hown hb3 hxv hvv hA3 hW4 hlt c0;obtain ⟨Wz,hWz⟩: ∃ X,X=W4.setCells w.heap.size 0 [.string v0,.string v1,.string v2,.string v3,.bool v4,.int .i64 v5,.bool v6,.slice va vn vc,.string v8,.string v9,.bool v10,.bool v11]:=⟨_,rfl⟩
  have HAz:=hid (show AdrIn Wz w.heap.size B (.slice va vn vc) by
   have:=HA04.out.store (v:=B) (qv:= .slice va vn vc);rw [HXv.out] at this;rw [hWz];exact this)
  have HBz:=hid (show Below w.heap.size w Wz by rw [hWz];exact below_setCells (Nat.le_refl _) _ _ _ HB4.out);have HPz:=hid (show PathAt Wz (.slice va vn vc) B.path by rw [hWz];exact own_path (own_cells HO4.out HA04.out _ 0));have HTz:=hid (show W4.there w.heap.size 0 12 from HA04.out.there);have HWz:=hid hWz;have honz:(#[.string v0,.string v1,.string v2,.string v3,.bool v4,.int .i64 v5,.bool v6,.slice va vn vc,.string v8,.string v9,.bool v10,.bool v11]:Array Value).all (·.oneCell')=true:=by
   have:=all_oneCell_toArray (adrCells_one B (.slice va vn vc) ⟨_,_,_,rfl⟩);rw [HXv.out] at this;exact this
  clear hWz;obtain ⟨y0,y1,y2,y3,y4,y5,y6,y7,y8,y9,y10,y11⟩:=adr_twelve HXv.out HA4.out
  go_wp2_with (first | (refine wpList_store_mid rfl 24 (.tmp 3) (.tmp 24) rfl w1.heap.size 0 #[.string v0,.string v1,.string v2,.string v3,.bool v4,.int .i64 v5,.bool v6,.slice va vn vc,.string v8,.string v9,.bool v10,.bool v11] rfl rfl HT4.out (sizeUa B (.slice va vn vc)) hone ?_;refine wpList_worldO HW4.out ?_) | (refine wpList_store_mid rfl 24 (.tmp 2) (.tmp 26) rfl w.heap.size 0 #[.string v0,.string v1,.string v2,.string v3,.bool v4,.int .i64 v5,.bool v6,.slice va vn vc,.string v8,.string v9,.bool v10,.bool v11] rfl rfl HTz.out (sizeUa B (.slice va vn vc)) honz ?_;refine wpList_worldO HWz.out ?_))
  have hrg:=range_row HAz.out;refine bodyPost_ret (results_u1 rfl _ _ w.heap.size B (.slice va vn vc) rfl ?_) rfl ⟨.slice va vn vc,?_,?_,HBz.out⟩
  ·rw [HXv.out] at hrg ⊢;exact hrg
  ·rw [HE.out]
  ·rw [HE.out];exact HPz.out
 ·have HE:=hid (HN.out (.inr (by rw [HW.out];rfl)))
  go_wp2_with fail
  refine (HD.out _).mono ?_;rintro e w3 ⟨qv,rfl,hown,hb3⟩
  obtain ⟨va,vn,vc,rfl⟩:=own_sl hown
  obtain ⟨v0,v1,v2,v3,v4,v5,v6,v8,v9,v10,v11,hxv⟩:=adr_cells B va vn vc
  have hvv:adrVal B (.slice va vn vc) = .agg #[.string v0,.string v1,.string v2,.string v3,.bool v4,.int .i64 v5,.bool v6,.slice va vn vc,.string v8,.string v9,.bool v10,.bool v11]:=by unfold adrVal;rw [hxv]
  rw [hvv];have HXv:=hid hxv;have HA03:=hid (HA02.out.kept hb3);have hA3:=HA2.out.kept hb3;have HB3:=hid (below2 HB2.out hb3);obtain ⟨W4,hW4⟩: ∃ X,X=w3.setCells w1.heap.size 0 [.string v0,.string v1,.string v2,.string v3,.bool v4,.int .i64 v5,.bool v6,.slice va vn vc,.string v8,.string v9,.bool v10,.bool v11]:=⟨_,rfl⟩
  have hlt:w.heap.size≠w1.heap.size:=Nat.ne_of_lt (Nat.lt_of_lt_of_le (show w.heap.size<(w.alloc (.cells (adrCells Adr.zero (.slice none 0 0)).toArray 24)).heap.size by simp) HS1.out);have HA4:=hid (show AdrIn W4 w1.heap.size B (.slice va vn vc) by
   have:=hA3.store (v:=B) (qv:= .slice va vn vc);rw [hxv] at this;rw [hW4];exact this)
  have HA04:=hid (show AdrIn W4 w.heap.size Adr.zero (.slice none 0 0) by rw [hW4];unfold AdrIn;rw [setCells_other hlt];exact HA03.out);have HB4:=hid (show Below w.heap.size w W4 by rw [hW4];exact below_setCells (Nat.le_trans (Nat.le_of_lt (by simp)) HS1.out) _ _ _ HB3.out);have HO4:=hid (show W4.ownsRow W2.heap.size 9 1 (.slice va vn vc) B.path.length (cellsS B.path) by rw [hW4];exact own_cells hown hA3 _ 0);have HT4:=hid (show w3.there w1.heap.size 0 12 from hA3.there);have HW4:=hid hW4
  have hone:(#[.string v0,.string v1,.string v2,.string v3,.bool v4,.int .i64 v5,.bool v6,.slice va vn vc,.string v8,.string v9,.bool v10,.bool v11]:Array Value).all (·.oneCell')=true:=by
   have:=all_oneCell_toArray (adrCells_one B (.slice va vn vc) ⟨_,_,_,rfl⟩);rw [hxv] at this;exact this
  clear hown hb3 hxv hvv hA3 hW4 hlt c0;obtain ⟨Wz,hWz⟩: ∃ X,X=W4.setCells w.heap.size 0 [.string v0,.string v1,.string v2,.string v3,.bool v4,.int .i64 v5,.bool v6,.slice va vn vc,.string v8,.string v9,.bool v10,.bool v11]:=⟨_,rfl⟩
  have HAz:=hid (show AdrIn Wz w.heap.size B (.slice va vn vc) by
   have:=HA04.out.store (v:=B) (qv:= .slice va vn vc);rw [HXv.out] at this;rw [hWz];exact this)
  have HBz:=hid (show Below w.heap.size w Wz by rw [hWz];exact below_setCells (Nat.le_refl _) _ _ _ HB4.out);have HPz:=hid (show PathAt Wz (.slice va vn vc) B.path by rw [hWz];exact own_path (own_cells HO4.out HA04.out _ 0));have HTz:=hid (show W4.there w.heap.size 0 12 from HA04.out.there);have HWz:=hid hWz;have honz:(#[.string v0,.string v1,.string v2,.string v3,.bool v4,.int .i64 v5,.bool v6,.slice va vn vc,.string v8,.string v9,.bool v10,.bool v11]:Array Value).all (·.oneCell')=true:=by
   have:=all_oneCell_toArray (adrCells_one B (.slice va vn vc) ⟨_,_,_,rfl⟩);rw [HXv.out] at this;exact this
  clear hWz;obtain ⟨y0,y1,y2,y3,y4,y5,y6,y7,y8,y9,y10,y11⟩:=adr_twelve HXv.out HA4.out
  go_wp2_with (first | (refine wpList_store_mid rfl 24 (.tmp 3) (.tmp 24) rfl w1.heap.size 0 #[.string v0,.string v1,.string v2,.string v3,.bool v4,.int .i64 v5,.bool v6,.slice va vn vc,.string v8,.string v9,.bool v10,.bool v11] rfl rfl HT4.out (sizeUa B (.slice va vn vc)) hone ?_;refine wpList_worldO HW4.out ?_) | (refine wpList_store_mid rfl 24 (.tmp 2) (.tmp 26) rfl w.heap.size 0 #[.string v0,.string v1,.string v2,.string v3,.bool v4,.int .i64 v5,.bool v6,.slice va vn vc,.string v8,.string v9,.bool v10,.bool v11] rfl rfl HTz.out (sizeUa B (.slice va vn vc)) honz ?_;refine wpList_worldO HWz.out ?_))
  have hrg:=range_row HAz.out;refine bodyPost_ret (results_u1 rfl _ _ w.heap.size B (.slice va vn vc) rfl ?_) rfl ⟨.slice va vn vc,?_,?_,HBz.out⟩
  ·rw [HXv.out] at hrg ⊢;exact hrg
  ·rw [HE.out]
  ·rw [HE.out];exact HPz.out
end Go.Proofs.YtijpkalkfbejeaaGreatDoor
