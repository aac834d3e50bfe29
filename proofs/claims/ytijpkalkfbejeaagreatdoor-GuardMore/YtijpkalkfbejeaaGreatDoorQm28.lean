/- Walks and plain facts. -/
import Derived.Test.YtijpkalkfbejeaaGreatDoorQm27
set_option linter.unusedSimpArgs false
set_option linter.unusedVariables false
set_option maxHeartbeats 16000000
set_option maxRecDepth 100000

namespace Go.Proofs.YtijpkalkfbejeaaGreatDoor
open Go.RowKit
theorem beqL_yes {a b:List UInt8} (h:a=b):(a==b)=true:=by rw [h];exact beq_self_eq_true _
theorem beqL_no {a b:List UInt8} (h:a≠b):(a==b)=false:=beq_eq_false_iff_ne.2 h
theorem scheme11_any (a b:ByteArray) (w:World):
 Calls Tryz.prog 125 #[.string a,.string b] w fun e w'=>e = .returned (.bool (schM a.data.toList b.data.toList))/\w=w':=by
 by_cases h0:a.data.toList=b.data.toList
 ·have HN:=hid (show schM a.data.toList b.data.toList=true by unfold schM;rw [h0];simp)
  have e0:(a.toList==b.toList)=true:=by rw [Lib.toList_data b];exact beq_yes a _ h0
  clear h0
  go_enter Tryz.func125,Tryz.ntmps125
  go_wp2
  go_ret
  rw [HN.out];exact ⟨rfl,rfl⟩
 ·have e0:(a.toList==b.toList)=false:=by rw [Lib.toList_data b];exact beq_no a _ h0
  have z0:=beqL_no h0;by_cases h1:a.data.toList=sHttp
  ·have e1:=beq_yes a [104,116,116,112] h1
   by_cases h2:b.data.toList=sHttps
   ·have e2:=beq_yes b [104,116,116,112,115] h2
    have HN:=hid (show schM a.data.toList b.data.toList=true by unfold schM;rw [z0,if_pos h1,beqL_yes h2];rfl);clear h0 h1 h2 z0
    go_enter Tryz.func125,Tryz.ntmps125
    go_wp2
    go_ret
    rw [HN.out];exact ⟨rfl,rfl⟩
   ·have e2:=beq_no b [104,116,116,112,115] h2
    by_cases h3:b.data.toList=sWs
    ·have e3:=beq_yes b [119,115] h3
     have HN:=hid (show schM a.data.toList b.data.toList=true by unfold schM;rw [z0,if_pos h1,beqL_no h2,beqL_yes h3];rfl);clear h0 h1 h2 h3 z0
     go_enter Tryz.func125,Tryz.ntmps125
     go_wp2
     go_ret
     rw [HN.out];exact ⟨rfl,rfl⟩
    ·have e3:=beq_no b [119,115] h3
     obtain ⟨q,hq⟩: ∃ q,(b.toList==[119,115,115])=q:=⟨_,rfl⟩
     have HN:=hid (show schM a.data.toList b.data.toList=q by unfold schM;rw [z0,if_pos h1,beqL_no h2,beqL_no h3,<- hq,Lib.toList_data];rfl);clear h0 h1 h2 h3 z0
     go_enter Tryz.func125,Tryz.ntmps125
     go_wp2
     go_ret
     rw [HN.out];exact ⟨rfl,rfl⟩
  ·have e1:=beq_no a [104,116,116,112] h1
   by_cases h2:a.data.toList=sWs
   ·have e2:=beq_yes a [119,115] h2
    obtain ⟨q,hq⟩: ∃ q,(b.toList==[119,115,115])=q:=⟨_,rfl⟩
    have HN:=hid (show schM a.data.toList b.data.toList=q by unfold schM;rw [z0,if_neg h1,if_pos h2,<- hq,Lib.toList_data];rfl);clear h0 h1 h2 z0
    go_enter Tryz.func125,Tryz.ntmps125
    go_wp2
    go_ret
    rw [HN.out];exact ⟨rfl,rfl⟩
   ·have e2:=beq_no a [119,115] h2
    have HN:=hid (show schM a.data.toList b.data.toList=false by unfold schM;rw [z0,if_neg h1,if_neg h2];rfl);clear h0 h1 h2 z0
    go_enter Tryz.func125,Tryz.ntmps125
    go_wp2
    go_ret
    rw [HN.out];exact ⟨rfl,rfl⟩
theorem fetched_any (s:ByteArray) (w:World):
 Calls Tryz.prog 120 #[.string s] w fun e w'=>e = .returned (.bool (fetV s.data.toList))/\w=w':=by
 by_cases h0:s.data.toList=sHttp
 ·have e0:=beq_yes s [104,116,116,112] h0
  have HN:=hid (show fetV s.data.toList=true by unfold fetV;rw [beqL_yes h0];rfl);clear h0
  go_enter Tryz.func120,Tryz.ntmps120
  go_wp2
  go_ret
  rw [HN.out];exact ⟨rfl,rfl⟩
 ·have e0:=beq_no s [104,116,116,112] h0
  by_cases h1:s.data.toList=sHttps
  ·have e1:=beq_yes s [104,116,116,112,115] h1
   have HN:=hid (show fetV s.data.toList=true by unfold fetV;rw [beqL_no h0,beqL_yes h1];rfl);clear h0 h1
   go_enter Tryz.func120,Tryz.ntmps120
   go_wp2
   go_ret
   rw [HN.out];exact ⟨rfl,rfl⟩
  ·have e1:=beq_no s [104,116,116,112,115] h1
   by_cases h2:s.data.toList=sWs
   ·have e2:=beq_yes s [119,115] h2
    have HN:=hid (show fetV s.data.toList=true by unfold fetV;rw [beqL_no h0,beqL_no h1,beqL_yes h2];rfl);clear h0 h1 h2
    go_enter Tryz.func120,Tryz.ntmps120
    go_wp2
    go_ret
    rw [HN.out];exact ⟨rfl,rfl⟩
   ·have e2:=beq_no s [119,115] h2
    by_cases h3:s.data.toList=sWss
    ·have e3:=beq_yes s [119,115,115] h3
     have HN:=hid (show fetV s.data.toList=true by unfold fetV;rw [beqL_no h0,beqL_no h1,beqL_no h2,beqL_yes h3];rfl);clear h0 h1 h2 h3
     go_enter Tryz.func120,Tryz.ntmps120
     go_wp2
     go_ret
     rw [HN.out];exact ⟨rfl,rfl⟩
    ·have e3:=beq_no s [119,115,115] h3
     have HN:=hid (show fetV s.data.toList=false by unfold fetV;rw [beqL_no h0,beqL_no h1,beqL_no h2,beqL_no h3];rfl);clear h0 h1 h2 h3
     go_enter Tryz.func120,Tryz.ntmps120
     go_wp2
     go_ret
     rw [HN.out];exact ⟨rfl,rfl⟩
theorem sletter_any (c:Int) (w:World):
 Calls Tryz.prog 164 #[.int .u8 c] w fun e w'=>e = .returned (.bool (letterI c))/\w=w':=by
 go_enter Tryz.func164,Tryz.ntmps164
 go_wp2
 all_goals
  go_ret
  exact ⟨ret_bool (by rw [Bool.eq_iff_iff];simp [letterI];omega),rfl⟩
def schI (c:Int):Bool:=letterI c||(digitI c||(c==43||(c==45||c==46)))
theorem schI_C (c:UInt8):schI c.toNat=schC c:=by
 have key: ∀ n<256,schI ((UInt8.ofNat n).toNat:Int)=schC (UInt8.ofNat n):=by decide +kernel
 have e:UInt8.ofNat c.toNat=c:=by simp
 have:=key c.toNat c.toNat_lt;rw [e] at this;exact this
theorem schemeByte_any (c:Int) (w:World):
 Calls Tryz.prog 165 #[.int .u8 c] w fun e w'=>e = .returned (.bool (schI c))/\w=w':=by
 have HL:=hid (fun w=>sletter_any c w);obtain ⟨q,hq⟩: ∃ q,letterI c=q:=⟨_,rfl⟩
 rw [hq] at HL;have HQ:=hid hq;clear hq;by_cases h1:c=43
 ·subst h1
  go_enter Tryz.func165,Tryz.ntmps165
  go_wp2
  go_ret
  exact ⟨ret_bool (by decide),rfl⟩
 ·by_cases h2:c=45
  ·subst h2
   go_enter Tryz.func165,Tryz.ntmps165
   go_wp2
   go_ret
   exact ⟨ret_bool (by decide),rfl⟩
  ·by_cases h3:c=46
   ·subst h3
    go_enter Tryz.func165,Tryz.ntmps165
    go_wp2
    go_ret
    exact ⟨ret_bool (by decide),rfl⟩
   ·have e1:(c==43)=false:=beq_eq_false_iff_ne.2 h1
    have e2:(c==45)=false:=beq_eq_false_iff_ne.2 h2;have e3:(c==46)=false:=beq_eq_false_iff_ne.2 h3;have HS:=hid (show schI c=(q||digitI c) by unfold schI;rw [HQ.out,e1,e2,e3];simp);clear h1 h2 h3;obtain ⟨d1,hd1⟩: ∃ d,decide ((48:Int)<=c)=d:=⟨_,rfl⟩
    obtain ⟨d2,hd2⟩: ∃ d,decide (c<=(57:Int))=d:=⟨_,rfl⟩
    have HD:=hid (show digitI c=(d1&&d2) by unfold digitI;rw [hd1,hd2])
    cases q<;>cases d1<;>
    ·go_enter Tryz.func165,Tryz.ntmps165
     go_wp2_with (go_at_call 164;refine (HL.out _).mono ?_;rintro e w' ⟨rfl,rfl⟩)
     go_ret
     exact ⟨ret_bool (by rw [HS.out,HD.out];rfl),rfl⟩
theorem scut_gen (s ends:ByteArray) (w:World) (hs:s.size<=4000000000)
 (hI:Calls Tryz.prog 167 #[.string s,.string ends] w fun e w'=>e = .returned (.int .i64 (Lib.indexAny s.data.toList ends.data.toList))/\Below w.heap.size w w'):
 Calls Tryz.prog 128 #[.string s,.string ends] w fun e w'=>e = .returned (.tuple #[.string ⟨(aheadV ends.data.toList s.data.toList).1.toArray⟩,.string ⟨(aheadV ends.data.toList s.data.toList).2.toArray⟩])/\Below w.heap.size w w':=by
 have HI:=hid hI;clear hI;rcases ahead_index ends.data.toList s.data.toList with ⟨h1,h2⟩ | ⟨i,hi,h1,h2⟩
 ·have H2:=hid h2
  clear h2;have e0:s.extract 0 s.size=⟨s.data.toList.toArray⟩:=ba_ext (by rw [extract_drop];simp)
  have e1:s.extract s.size s.size=⟨#[]⟩:=ba_ext (by rw [extract_drop];simp)
  have HE0:=hid e0;have HE1:=hid e1;clear e0 e1;have hsz:(0:Int)<=(s.size:Int):=by omega
  go_enter Tryz.func128,Tryz.ntmps128
  go_wp2_with (go_at_call 167;refine HI.out.mono ?_;rintro e w1 ⟨rfl,hb1⟩;rw [h1])
  go_region
  all_goals
   go_wp2
   go_ret2
   refine ⟨?_,by first | exact hb1 | exact hb1.trans ((Below.refl _ w1).drew.mono hb1.size) | exact hb1.drew⟩
   rw [H2.out];refine ret_ss ?_ ?_
   ·first | exact HE0.out | (rw [<- HE0.out];simp) | simp
   ·first | exact HE1.out | (rw [<- HE1.out];simp) | simp
 ·have H2:=hid h2
  clear h2;have hi':(i:Int)<(s.size:Int):=by simp at hi;omega
  go_enter Tryz.func128,Tryz.ntmps128
  go_wp2_with (go_at_call 167;refine HI.out.mono ?_;rintro e w1 ⟨rfl,hb1⟩;rw [h1])
  go_region
  all_goals
   go_wp2
   go_ret2
   refine ⟨?_,by first | exact hb1 | exact hb1.drew⟩
   rw [H2.out];refine ret_ss ?_ ?_
   ·exact ba_ext (by rw [Lib.extract_data];simp)
   ·exact ba_ext (by rw [extract_drop])
theorem scut2_any (s:ByteArray) (w:World) (hs:s.size<=4000000000):
 Calls Tryz.prog 128 #[.string s,.string ⟨#[58,47]⟩] w fun e w'=>e = .returned (.tuple #[.string ⟨(aheadV [58,47] s.data.toList).1.toArray⟩,.string ⟨(aheadV [58,47] s.data.toList).2.toArray⟩])/\Below w.heap.size w w':=
 scut_gen s ⟨#[58,47]⟩ w hs (m11indexAny2_any s w hs)
theorem scut1_any (s:ByteArray) (w:World) (hs:s.size<=4000000000):
 Calls Tryz.prog 128 #[.string s,.string ⟨#[47]⟩] w fun e w'=>e = .returned (.tuple #[.string ⟨(aheadV [47] s.data.toList).1.toArray⟩,.string ⟨(aheadV [47] s.data.toList).2.toArray⟩])/\Below w.heap.size w w':=
 scut_gen s ⟨#[47]⟩ w hs (m11indexAny1_any s w)
def orgCells (o:Org):List Value:=[.string ⟨o.scheme.toArray⟩,.string ⟨o.host.toArray⟩,.int .i64 o.port,.bool o.opq]
def orgVal (o:Org):Value:= .agg (orgCells o).toArray
def OrgIn (w:World) (b:Nat) (o:Org):Prop:=w.heap[b]? = some (.cells (orgCells o).toArray 94 (0,0))
def Org.nil:Org:=⟨[],[],0,false⟩
theorem OrgIn.lt {w:World} {b:Nat} {o:Org} (h:OrgIn w b o):b<w.heap.size:=(Array.getElem?_eq_some_iff.1 h).1
theorem OrgIn.kept {w w':World} {b:Nat} {o:Org} (h:OrgIn w b o) (hb:Below w.heap.size w w'):OrgIn w' b o:=by
 unfold OrgIn;rw [hb.block b h.lt];exact h
theorem OrgIn.cell {w:World} {b:Nat} {o:Org} (h:OrgIn w b o) (j:Nat) (v:Value) (hv:(orgCells o)[j]? = some v):w.cell? ⟨b,j,none⟩=some v:=by
 rw [Lib.cell_of_heap h];simpa using hv
theorem OrgIn.frozen {w:World} {b:Nat} {o:Org} (h:OrgIn w b o) (j:Nat):w.frozen? ⟨b,j,none⟩=false:=by
 simp [World.frozen?,show w.heap[b]? = _ from h]
theorem OrgIn.store {w:World} {b:Nat} {o p:Org} (h:OrgIn w b o):OrgIn (w.setCells b 0 (orgCells p)) b p:=by
 obtain ⟨C',e1,e2,_,e4⟩:=setCells_heap b 94 (0,0) (orgCells p) 0 w _ h
 unfold OrgIn;rw [e1];have:C'=(orgCells p).toArray:=by
  apply Array.ext_getElem?;intro j;by_cases hj:j<4
  ·have:=e4 j hj (by rw [Nat.zero_add];exact hj)
   rw [Nat.zero_add] at this;rw [this];simp
  ·have h2:C'.size=4:=by rw [e2];rfl
   rw [Array.getElem?_eq_none (by omega),Array.getElem?_eq_none (by simp [orgCells];omega)]
 rw [this]
theorem OrgIn.far {w:World} {b c j:Nat} {o:Org} {v:Value} (h:OrgIn w b o) (hne:b≠c):OrgIn (w.setCell ⟨c,j,none⟩ v) b o:=by
 unfold OrgIn;rw [heap_setCell_other _ _ _ _ (fun e=>hne (by simpa using e))];exact h
theorem OrgIn.fars {b c:Nat} {o:Org} (hne:b≠c): ∀ (vs:List Value) (j:Nat) (w:World),OrgIn w b o->OrgIn (w.setCells c j vs) b o
 | [],_,_,h=>h
 | v::r,j,w,h=>by rw [World.setCells];exact OrgIn.fars hne r (j+1) _ (h.far hne)
theorem sizeO:(Tryz.prog.info? 94).map (·.size)=some 4:=by kernel_rfl
theorem results_o1 {fn:Func} {p:Tmp} (h:fn.results = #[.cell p 94]) (tmps:Array Value) (w:World) (b:Nat) (o:Org) (hp:tmps.getD p undef = .pointer (some ⟨b,0,none⟩)) (hc:w.rangeAt b 0 (orgCells o)):(results fn tmps).run Tryz.prog w = .ok (orgVal o) w:=by
 rw [Array.getD_eq_getD_getElem?] at hp;simp only [results,h]
 simp [Sem.run_bind,Result.andThen,hp,asAddr,run_loadVar_mid w b 0 94 (orgCells o) _ hc Tryz.underlying94 rfl sizeO,orgVal]
theorem wpList_worldO {P:Program} {ops:Array Oper} {Q:Exit->Act->World->Prop} {rest:List Oper} {a:Act} {w w':World} (e:w=w') (h:wpList P ops Q rest a w):wpList P ops Q rest a w':=e ▸ h
theorem orgV_no {u:Adr} (h:specV (orgA u).scheme=false):orgV u=Org.none:=by unfold orgV;rw [h];rfl
theorem orgV_yes {u:Adr} (h:specV (orgA u).scheme=true):orgV u=⟨(orgA u).scheme,(orgA u).host,hasP (orgA u),false⟩:=by unfold orgV;rw [h];rfl
theorem orgA_in {u:Adr} (h:webV (innV u).scheme=true):orgA u=innV u:=by unfold orgA;rw [h];rfl
theorem orgA_out {u:Adr} (h:webV (innV u).scheme=false):orgA u=u:=by unfold orgA;rw [h];rfl
def OfPost (o:Org) (w:World) (e:Ending) (w':World):Prop:=e = .returned (orgVal o)/\Below w.heap.size w w'
theorem of_any (u:Adr) (pv:Value) (w:World) (hg:Gd w) (hp:PathAt w pv u.path) (hl:u.path.length<=1000000) (hf:u.path.flatten.length<=100000):
 Calls Tryz.prog 54 #[adrVal u pv] w (OfPost (orgV u) w):=by
 have hsl:IsSl pv:=by
  rcases hp with ⟨rfl,_⟩ | ⟨b,cap,rfl,_⟩
  ·exact ⟨_,_,_,rfl⟩
  ·exact ⟨_,_,_,rfl⟩
 obtain ⟨ua,un,uc,rfl⟩:=hsl
 have HIN:=hid (fun (w:World) (hg:Gd w) (hp:PathAt w (.slice ua un uc) u.path)=>inner_any u (.slice ua un uc) w hg hp hl hf);obtain ⟨u0,u1,u2,u3,u4,u5,u6,u8,u9,u10,u11,hx,hx0,hx3,hx5,hx6⟩:=adr_named u ua un uc
 have hva:adrVal u (.slice ua un uc) = .agg #[.string u0,.string u1,.string u2,.string u3,.bool u4,.int .i64 u5,.bool u6,.slice ua un uc,.string u8,.string u9,.bool u10,.bool u11]:=by unfold adrVal;rw [hx]
 rw [hva] at HIN ⊢;obtain ⟨W1,hW1⟩: ∃ W1,(w.alloc (.cells #[.string u0,.string u1,.string u2,.string u3,.bool u4,.int .i64 u5,.bool u6,.slice ua un uc,.string u8,.string u9,.bool u10,.bool u11] 24))=W1:=⟨_,rfl⟩
 have hb1:Below w.heap.size w W1:=by rw [<- hW1];exact (Below.refl _ w).alloc (Nat.le_refl _) _
 have hs1:W1.heap.size=w.heap.size+1:=by rw [<- hW1];simp
 have hA1:AdrIn W1 w.heap.size u (.slice ua un uc):=by
  unfold AdrIn;rw [hx,<- hW1]
  exact heap_alloc_new w _
 obtain ⟨W2,hW2⟩: ∃ W2,(W1.alloc (.cells (orgCells Org.nil).toArray 94))=W2:=⟨_,rfl⟩
 have hb2:Below W1.heap.size W1 W2:=by rw [<- hW2];exact (Below.refl _ W1).alloc (Nat.le_refl _) _
 have hA2:=hA1.kept hb2;have hR2:OrgIn W2 W1.heap.size Org.nil:=by rw [<- hW2];exact heap_alloc_new W1 _
 rw [hs1] at hR2;have hB2:=below2 hb1 hb2;have HG2:=hid (hg.kept hB2);have HP2:=hid (hp.kept hB2);have hA2':=hA2;unfold AdrIn at hA2';have hfl: ∀ j v,(adrCells u (.slice ua un uc))[j]? = some v->W2.cell? ⟨w.heap.size,j,none⟩=some v:=fun j v h=>hA2.cell j v h
 rw [hx] at hfl;have y0:=hfl 0 _ rfl;have y1:=hfl 1 _ rfl;have y2:=hfl 2 _ rfl;have y3:=hfl 3 _ rfl;have y4:=hfl 4 _ rfl;have y5:=hfl 5 _ rfl;have y6:=hfl 6 _ rfl;have y7:=hfl 7 _ rfl;have y8:=hfl 8 _ rfl;have y9:=hfl 9 _ rfl;have y10:=hfl 10 _ rfl;have y11:=hfl 11 _ rfl;have HA2:=hid hA2;have HR2:=hid hR2;have HB2:=hid hB2;have hW1':w.alloc (.cells #[.string u0,.string u1,.string u2,.string u3,.bool u4,.int .i64 u5,.bool u6,.slice ua un uc,.string u8,.string u9,.bool u10,.bool u11] 24)=W1:=hW1;have hW2':W1.alloc (.cells #[.string ⟨#[]⟩,.string ⟨#[]⟩,.int .i64 0,.bool false] 94)=W2:=hW2
 have HX:=hid hx;have HXA:=hid (And.intro hx0 (And.intro hx3 (And.intro hx5 hx6)));clear hva hW1 hW2 hb1 hA1 hb2 hA2 hA2' hR2 hB2 hfl hg hx hl hf hp hx0 hx3 hx5 hx6
 go_enter Tryz.func54,Tryz.ntmps54
 go_wp2_with fail
 refine (HIN.out _ HG2.out HP2.out).mono ?_;rintro e w3 ⟨qv,rfl,hqs,hb3⟩
 have hh0:W2.heap.size=w.heap.size+2:=by
  rw [<- hW2'];simp [hs1]
 obtain ⟨qa,qn,qc,rfl⟩:=hqs
 obtain ⟨q0,q1,q2,q3,q4,q5,q6,q8,q9,q10,q11,hq,hq0,hq3,hq5,hq6⟩:=adr_named (innV u) qa qn qc
 have hqa:adrVal (innV u) (.slice qa qn qc) = .agg #[.string q0,.string q1,.string q2,.string q3,.bool q4,.int .i64 q5,.bool q6,.slice qa qn qc,.string q8,.string q9,.bool q10,.bool q11]:=by unfold adrVal;rw [hq]
 rw [hqa];obtain ⟨W5,hW5⟩: ∃ W5,(w3.alloc (.cells #[.string q0,.string q1,.string q2,.string q3,.bool q4,.int .i64 q5,.bool q6,.slice qa qn qc,.string q8,.string q9,.bool q10,.bool q11] 24))=W5:=⟨_,rfl⟩
 have hb5:Below w3.heap.size w3 W5:=by rw [<- hW5];exact (Below.refl _ w3).alloc (Nat.le_refl _) _
 have hq':AdrIn W5 w3.heap.size (innV u) (.slice qa qn qc):=by
  unfold AdrIn;rw [hq,<- hW5]
  exact heap_alloc_new w3 _
 have HA5:=hid ((HA2.out.kept hb3).kept hb5);have HR5:=hid ((HR2.out.kept hb3).kept hb5);have HB5:=hid (below2 (below2 HB2.out hb3) hb5);have hfl: ∀ j v,(adrCells (innV u) (.slice qa qn qc))[j]? = some v->W5.cell? ⟨w3.heap.size,j,none⟩=some v:=fun j v h=>hq'.cell j v h
 rw [hq] at hfl;have q_y0:=hfl 0 _ rfl;have q_y1:=hfl 1 _ rfl;have q_y2:=hfl 2 _ rfl;have q_y3:=hfl 3 _ rfl;have q_y4:=hfl 4 _ rfl;have q_y5:=hfl 5 _ rfl;have q_y6:=hfl 6 _ rfl;have q_y7:=hfl 7 _ rfl;have q_y8:=hfl 8 _ rfl;have q_y9:=hfl 9 _ rfl;have q_y10:=hfl 10 _ rfl;have q_y11:=hfl 11 _ rfl;have HQ:=hid hq;have HQA:=hid (And.intro hq0 (And.intro hq3 (And.intro hq5 hq6)));clear hfl hq' hb5 hb3 hqa hq y0 y1 y2 y3 y4 y5 y6 y7 y8 y9 y10 y11;by_cases hweb:webV (innV u).scheme=true
 ·have HAV:=hid (orgA_in hweb)
  obtain ⟨W6,hW6⟩: ∃ W6,W6=W5.setCells w.heap.size 0 [.string q0,.string q1,.string q2,.string q3,.bool q4,.int .i64 q5,.bool q6,.slice qa qn qc,.string q8,.string q9,.bool q10,.bool q11]:=⟨_,rfl⟩
  have HA6:=hid (show AdrIn W6 w.heap.size (innV u) (.slice qa qn qc) by
   have:=HA5.out.store (v:=innV u) (qv:= .slice qa qn qc);rw [HQ.out] at this;rw [hW6];exact this)
  have HR6:=hid (show OrgIn W6 (w.heap.size+1) Org.nil by rw [hW6];exact OrgIn.fars (by omega) _ _ _ HR5.out);have HB6:=hid (show Below w.heap.size w W6 by rw [hW6];exact below_setCells (Nat.le_refl _) _ _ _ HB5.out);have HT:=hid (show W5.there w.heap.size 0 12 from HA5.out.there);have HW6:=hid hW6;have hone:(#[.string q0,.string q1,.string q2,.string q3,.bool q4,.int .i64 q5,.bool q6,.slice qa qn qc,.string q8,.string q9,.bool q10,.bool q11]:Array Value).all (·.oneCell')=true:=by
   have:=all_oneCell_toArray (adrCells_one (innV u) (.slice qa qn qc) ⟨_,_,_,rfl⟩);rw [HQ.out] at this;exact this
  have hws:(q0.toList==[104,116,116,112])=true∨((q0.toList==[104,116,116,112])=false/\(q0.toList==[104,116,116,112,115])=true):=by
   unfold webV at hweb;rw [Bool.or_eq_true] at hweb;by_cases h:q0.data.toList=[104,116,116,112]
   ·left;exact beq_yes q0 _ h
   ·right
    refine ⟨beq_no q0 _ h,beq_yes q0 _ ?_⟩;rw [hq0] at h ⊢;rcases hweb with h2 | h2
    ·exact absurd (beq_iff_eq.1 h2) h
    ·exact (beq_iff_eq.1 h2)
  clear hW6 hweb hq0 hq3 hq5 hq6;rcases hws with e0 | ⟨e0,e1⟩
  all_goals
   have hfl: ∀ j y,(adrCells (innV u) (.slice qa qn qc))[j]? = some y->W6.cell? ⟨w.heap.size,j,none⟩=some y:=fun j y h=>HA6.out.cell j y h
   rw [HQ.out] at hfl;have c0:=hfl 0 _ rfl;have c3:=hfl 3 _ rfl;have c5:=hfl 5 _ rfl;clear hfl;have ry0:=HR6.out.cell 0 _ rfl;have rz0:=HR6.out.frozen 0;have ry1:=HR6.out.cell 1 _ rfl;have rz1:=HR6.out.frozen 1;have ry2:=HR6.out.cell 2 _ rfl;have rz2:=HR6.out.frozen 2;have ry3:=HR6.out.cell 3 _ rfl;have rz3:=HR6.out.frozen 3;have HSp:=hid (fun w=>special_any q0 w);have HOw:=hid (fun w=>own_any q0 w);obtain ⟨sp,hsp⟩: ∃ b,specV q0.data.toList=b:=⟨_,rfl⟩
   obtain ⟨ow,how⟩: ∃ b,ownV q0.data.toList=b:=⟨_,rfl⟩
   rw [hsp] at HSp;rw [how] at HOw;have HSP:=hid hsp;have HOW:=hid how;clear hsp how
   cases sp with
   | false=>
     go_wp2_with (first | (refine wpList_store_mid rfl 24 (.tmp 1) (.tmp 15) rfl w.heap.size 0 #[.string q0,.string q1,.string q2,.string q3,.bool q4,.int .i64 q5,.bool q6,.slice qa qn qc,.string q8,.string q9,.bool q10,.bool q11] rfl rfl HT.out (sizeUa (innV u) (.slice qa qn qc)) hone ?_;refine wpList_worldO HW6.out ?_) | (go_at_call 69;refine (HSp.out _).mono ?_;rintro e wz ⟨rfl,hwz⟩;rw [<- hwz];clear hwz) | (go_at_call 70;refine (HOw.out _).mono ?_;rintro e wz ⟨rfl,hwz⟩;rw [<- hwz];clear hwz))
     have HV:=hid (show orgV u=Org.none from orgV_no (by rw [HAV.out,<- HQA.out.1];exact HSP.out));have hrg:=range_row (HR6.out.store (p:=Org.none));have hbl:=below_setCells (B:=w.heap.size) (b:=w.heap.size+1) (Nat.le_succ _) (orgCells Org.none) 0 _ HB6.out;rw [HV.out];refine bodyPost_ret (results_o1 rfl _ _ (w.heap.size+1) Org.none rfl ?_) rfl ⟨?_,?_⟩
     ·exact hrg
     ·rfl
     ·exact hbl
   | true=>
     have HV0:=hid (orgV_yes (u:=u) (by rw [HAV.out,<- HQA.out.1];exact HSP.out));rw [HAV.out] at HV0;have hbn:Below W6.heap.size W6 (W6.alloc (.cells #[.string q0,.string q3,.int .i64 q5,.bool false] 94)):=(Below.refl _ _).alloc (Nat.le_refl _) _;have HRn:=hid (HR6.out.kept hbn);have HBn:=hid (below2 HB6.out hbn);have ny0:=HRn.out.cell 0 _ rfl;have nz0:=HRn.out.frozen 0;have ny1:=HRn.out.cell 1 _ rfl;have nz1:=HRn.out.frozen 1;have ny2:=HRn.out.cell 2 _ rfl;have nz2:=HRn.out.frozen 2;have ny3:=HRn.out.cell 3 _ rfl;have nz3:=HRn.out.frozen 3;have HLt:=hid (HR6.out.lt);clear hbn
     by_cases hpo:q5 = -1
     ·subst hpo
      have HV:=hid (show orgV u=⟨(innV u).scheme,(innV u).host,ow,false⟩ by rw [HV0.out];unfold hasP;rw [if_pos (show (innV u).port = -1 from HQA.out.2.2.1.symm),<- HQA.out.1,HOW.out]);have hbo:Below W6.heap.size W6 (W6.alloc (.cells #[.string q0,.string q3,.int .i64 ow,.bool false] 94)):=(Below.refl _ _).alloc (Nat.le_refl _) _;have HR8:=hid (HR6.out.kept hbo);have HB8:=hid (below2 HB6.out hbo);have k0:=(((Below.refl _ W6).alloc (Nat.le_refl _) (.cells #[.string q0,.string q3,.int .i64 (-1),.bool false] 94)).cell (World.block_lt_of_cell? W6 _ c0)).trans c0
      clear hbo ny0 nz0 ny1 nz1 ny2 nz2 ny3 nz3;have ny0:=HR8.out.cell 0 _ rfl;have nz0:=HR8.out.frozen 0;have ny1:=HR8.out.cell 1 _ rfl;have nz1:=HR8.out.frozen 1;have ny2:=HR8.out.cell 2 _ rfl;have nz2:=HR8.out.frozen 2;have ny3:=HR8.out.cell 3 _ rfl;have nz3:=HR8.out.frozen 3
      go_wp2_with (first | (refine wpList_store_mid rfl 24 (.tmp 1) (.tmp 15) rfl w.heap.size 0 #[.string q0,.string q1,.string q2,.string q3,.bool q4,.int .i64 (-1),.bool q6,.slice qa qn qc,.string q8,.string q9,.bool q10,.bool q11] rfl rfl HT.out (sizeUa (innV u) (.slice qa qn qc)) hone ?_;refine wpList_worldO HW6.out ?_) | (go_at_call 69;refine (HSp.out _).mono ?_;rintro e wz ⟨rfl,hwz⟩;rw [<- hwz];clear hwz) | (go_at_call 70;refine (HOw.out _).mono ?_;rintro e wz ⟨rfl,hwz⟩;rw [<- hwz];clear hwz))
      have hrg:=range_row (HR8.out.store (p:=⟨(innV u).scheme,(innV u).host,ow,false⟩));have hbl:=below_setCells (B:=w.heap.size) (b:=w.heap.size+1) (Nat.le_succ _) (orgCells ⟨(innV u).scheme,(innV u).host,ow,false⟩) 0 _ HB8.out;have HC:=hid (show orgCells ⟨(innV u).scheme,(innV u).host,ow,false⟩=[.string q0,.string q3,.int .i64 ow,.bool false] by unfold orgCells;rw [<- HQA.out.1,<- HQA.out.2.1]);rw [HV.out];refine bodyPost_ret (results_o1 rfl _ _ (w.heap.size+1) ⟨(innV u).scheme,(innV u).host,ow,false⟩ rfl ?_) rfl ⟨?_,?_⟩
      ·rw [HC.out] at hrg ⊢;exact hrg
      ·rfl
      ·rw [HC.out] at hbl;exact hbl
     ·have hpb:(q5 == -1)=false:=beq_eq_false_iff_ne.2 hpo
      have HV:=hid (show orgV u=⟨(innV u).scheme,(innV u).host,q5,false⟩ by rw [HV0.out];unfold hasP;rw [if_neg (show ¬ (innV u).port = -1 from fun e=>hpo (HQA.out.2.2.1.trans e)),HQA.out.2.2.1]);clear hpo
      go_wp2_with (first | (refine wpList_store_mid rfl 24 (.tmp 1) (.tmp 15) rfl w.heap.size 0 #[.string q0,.string q1,.string q2,.string q3,.bool q4,.int .i64 q5,.bool q6,.slice qa qn qc,.string q8,.string q9,.bool q10,.bool q11] rfl rfl HT.out (sizeUa (innV u) (.slice qa qn qc)) hone ?_;refine wpList_worldO HW6.out ?_) | (go_at_call 69;refine (HSp.out _).mono ?_;rintro e wz ⟨rfl,hwz⟩;rw [<- hwz];clear hwz) | (go_at_call 70;refine (HOw.out _).mono ?_;rintro e wz ⟨rfl,hwz⟩;rw [<- hwz];clear hwz))
      have hrg:=range_row (HRn.out.store (p:=⟨(innV u).scheme,(innV u).host,q5,false⟩));have hbl:=below_setCells (B:=w.heap.size) (b:=w.heap.size+1) (Nat.le_succ _) (orgCells ⟨(innV u).scheme,(innV u).host,q5,false⟩) 0 _ HBn.out;have HC:=hid (show orgCells ⟨(innV u).scheme,(innV u).host,q5,false⟩=[.string q0,.string q3,.int .i64 q5,.bool false] by unfold orgCells;rw [<- HQA.out.1,<- HQA.out.2.1]);rw [HV.out];refine bodyPost_ret (results_o1 rfl _ _ (w.heap.size+1) ⟨(innV u).scheme,(innV u).host,q5,false⟩ rfl ?_) rfl ⟨?_,?_⟩
      ·rw [HC.out] at hrg ⊢;exact hrg
      ·rfl
      ·rw [HC.out] at hbl;exact hbl
 ·have hweb':webV (innV u).scheme=false:=by simpa using hweb
  have HAV:=hid (orgA_out hweb');have e0:(q0.toList==[104,116,116,112])=false:=beq_no q0 _ (fun h=>by
   rw [hq0] at h;unfold webV at hweb';rw [show (innV u).scheme=sHttp from h] at hweb';revert hweb';decide)
  have e1:(q0.toList==[104,116,116,112,115])=false:=beq_no q0 _ (fun h=>by
   rw [hq0] at h;unfold webV at hweb';rw [show (innV u).scheme=sHttps from h] at hweb';revert hweb';decide)
  clear hweb hweb' hq0 hq3 hq5 hq6;have hfl: ∀ j y,(adrCells u (.slice ua un uc))[j]? = some y->W5.cell? ⟨w.heap.size,j,none⟩=some y:=fun j y h=>HA5.out.cell j y h
  rw [HX.out] at hfl;have c0:=hfl 0 _ rfl;have c3:=hfl 3 _ rfl;have c5:=hfl 5 _ rfl;clear hfl;have ry0:=HR5.out.cell 0 _ rfl;have rz0:=HR5.out.frozen 0;have ry1:=HR5.out.cell 1 _ rfl;have rz1:=HR5.out.frozen 1;have ry2:=HR5.out.cell 2 _ rfl;have rz2:=HR5.out.frozen 2;have ry3:=HR5.out.cell 3 _ rfl;have rz3:=HR5.out.frozen 3;have HSp:=hid (fun w=>special_any u0 w);have HOw:=hid (fun w=>own_any u0 w);obtain ⟨sp,hsp⟩: ∃ b,specV u0.data.toList=b:=⟨_,rfl⟩
  obtain ⟨ow,how⟩: ∃ b,ownV u0.data.toList=b:=⟨_,rfl⟩
  rw [hsp] at HSp;rw [how] at HOw;have HSP:=hid hsp;have HOW:=hid how;clear hsp how
  cases sp with
  | false=>
    go_wp2_with (first | (go_at_call 69;refine (HSp.out _).mono ?_;rintro e wz ⟨rfl,hwz⟩;rw [<- hwz];clear hwz) | (go_at_call 70;refine (HOw.out _).mono ?_;rintro e wz ⟨rfl,hwz⟩;rw [<- hwz];clear hwz))
    have HV:=hid (show orgV u=Org.none from orgV_no (by rw [HAV.out,<- HXA.out.1];exact HSP.out));have hrg:=range_row (HR5.out.store (p:=Org.none));have hbl:=below_setCells (B:=w.heap.size) (b:=w.heap.size+1) (Nat.le_succ _) (orgCells Org.none) 0 _ HB5.out;rw [HV.out];refine bodyPost_ret (results_o1 rfl _ _ (w.heap.size+1) Org.none rfl ?_) rfl ⟨?_,?_⟩
    ·exact hrg
    ·rfl
    ·exact hbl
  | true=>
    have HV0:=hid (orgV_yes (u:=u) (by rw [HAV.out,<- HXA.out.1];exact HSP.out));rw [HAV.out] at HV0;have hbn:Below W5.heap.size W5 (W5.alloc (.cells #[.string u0,.string u3,.int .i64 u5,.bool false] 94)):=(Below.refl _ _).alloc (Nat.le_refl _) _;have HRn:=hid (HR5.out.kept hbn);have HBn:=hid (below2 HB5.out hbn);have ny0:=HRn.out.cell 0 _ rfl;have nz0:=HRn.out.frozen 0;have ny1:=HRn.out.cell 1 _ rfl;have nz1:=HRn.out.frozen 1;have ny2:=HRn.out.cell 2 _ rfl;have nz2:=HRn.out.frozen 2;have ny3:=HRn.out.cell 3 _ rfl;have nz3:=HRn.out.frozen 3;have HLt:=hid (HR5.out.lt);clear hbn
    by_cases hpo:u5 = -1
    ·subst hpo
     have HV:=hid (show orgV u=⟨u.scheme,u.host,ow,false⟩ by rw [HV0.out];unfold hasP;rw [if_pos (show u.port = -1 from HXA.out.2.2.1.symm),<- HXA.out.1,HOW.out]);have hbo:Below W5.heap.size W5 (W5.alloc (.cells #[.string u0,.string u3,.int .i64 ow,.bool false] 94)):=(Below.refl _ _).alloc (Nat.le_refl _) _;have HR8:=hid (HR5.out.kept hbo);have HB8:=hid (below2 HB5.out hbo);have k0:=(((Below.refl _ W5).alloc (Nat.le_refl _) (.cells #[.string u0,.string u3,.int .i64 (-1),.bool false] 94)).cell (World.block_lt_of_cell? W5 _ c0)).trans c0;clear hbo ny0 nz0 ny1 nz1 ny2 nz2 ny3 nz3
     have ny0:=HR8.out.cell 0 _ rfl;have nz0:=HR8.out.frozen 0;have ny1:=HR8.out.cell 1 _ rfl;have nz1:=HR8.out.frozen 1;have ny2:=HR8.out.cell 2 _ rfl;have nz2:=HR8.out.frozen 2;have ny3:=HR8.out.cell 3 _ rfl;have nz3:=HR8.out.frozen 3
     go_wp2_with (first | (go_at_call 69;refine (HSp.out _).mono ?_;rintro e wz ⟨rfl,hwz⟩;rw [<- hwz];clear hwz) | (go_at_call 70;refine (HOw.out _).mono ?_;rintro e wz ⟨rfl,hwz⟩;rw [<- hwz];clear hwz))
     have hrg:=range_row (HR8.out.store (p:=⟨u.scheme,u.host,ow,false⟩));have hbl:=below_setCells (B:=w.heap.size) (b:=w.heap.size+1) (Nat.le_succ _) (orgCells ⟨u.scheme,u.host,ow,false⟩) 0 _ HB8.out;have HC:=hid (show orgCells ⟨u.scheme,u.host,ow,false⟩=[.string u0,.string u3,.int .i64 ow,.bool false] by unfold orgCells;rw [<- HXA.out.1,<- HXA.out.2.1]);rw [HV.out];refine bodyPost_ret (results_o1 rfl _ _ (w.heap.size+1) ⟨u.scheme,u.host,ow,false⟩ rfl ?_) rfl ⟨?_,?_⟩
     ·rw [HC.out] at hrg ⊢;exact hrg
     ·rfl
     ·rw [HC.out] at hbl;exact hbl
    ·have hpb:(u5 == -1)=false:=beq_eq_false_iff_ne.2 hpo
     have HV:=hid (show orgV u=⟨u.scheme,u.host,u5,false⟩ by rw [HV0.out];unfold hasP;rw [if_neg (show ¬ u.port = -1 from fun e=>hpo (HXA.out.2.2.1.trans e)),HXA.out.2.2.1]);clear hpo
     go_wp2_with (first | (go_at_call 69;refine (HSp.out _).mono ?_;rintro e wz ⟨rfl,hwz⟩;rw [<- hwz];clear hwz) | (go_at_call 70;refine (HOw.out _).mono ?_;rintro e wz ⟨rfl,hwz⟩;rw [<- hwz];clear hwz))
     have hrg:=range_row (HRn.out.store (p:=⟨u.scheme,u.host,u5,false⟩));have hbl:=below_setCells (B:=w.heap.size) (b:=w.heap.size+1) (Nat.le_succ _) (orgCells ⟨u.scheme,u.host,u5,false⟩) 0 _ HBn.out;have HC:=hid (show orgCells ⟨u.scheme,u.host,u5,false⟩=[.string u0,.string u3,.int .i64 u5,.bool false] by unfold orgCells;rw [<- HXA.out.1,<- HXA.out.2.1]);rw [HV.out];refine bodyPost_ret (results_o1 rfl _ _ (w.heap.size+1) ⟨u.scheme,u.host,u5,false⟩ rfl ?_) rfl ⟨?_,?_⟩
     ·rw [HC.out] at hrg ⊢;exact hrg
     ·rfl
     ·rw [HC.out] at hbl;exact hbl
theorem same4_any (a b:Org) (w:World):
 Calls Tryz.prog 55 #[orgVal a,orgVal b] w fun e w'=>e = .returned (.bool (sameO a b))/\Below w.heap.size w w':=by
 obtain ⟨sa,ah,ap,ao⟩:=a
 obtain ⟨bs,bh,bp,bo⟩:=b
 obtain ⟨AS,rfl⟩: ∃ X:ByteArray,sa=X.data.toList:=⟨⟨sa.toArray⟩,rfl⟩
 obtain ⟨AH,rfl⟩: ∃ X:ByteArray,ah=X.data.toList:=⟨⟨ah.toArray⟩,rfl⟩
 obtain ⟨BS,rfl⟩: ∃ X:ByteArray,bs=X.data.toList:=⟨⟨bs.toArray⟩,rfl⟩
 obtain ⟨BH,rfl⟩: ∃ X:ByteArray,bh=X.data.toList:=⟨⟨bh.toArray⟩,rfl⟩
 have hv: ∀ (s h:ByteArray) (p:Int) (o:Bool),orgVal ⟨s.data.toList,h.data.toList,p,o⟩ = .agg #[.string s,.string h,.int .i64 p,.bool o]:=fun _ _ _ _=>rfl
 rw [hv,hv]
 have HBx:=hid (show Below w.heap.size w ((w.alloc (.cells #[.string AS,.string AH,.int .i64 ap,.bool ao] 94)).alloc (.cells #[.string BS,.string BH,.int .i64 bp,.bool bo] 94)) from ((Below.refl _ w).alloc (Nat.le_refl _) _).alloc (by simp) _);clear hv
 cases ao with
 | true=>
   go_enter Tryz.func55,Tryz.ntmps55
   go_wp2
   go_ret
   exact ⟨rfl,HBx.out⟩
 | false=>
   clear HBx
   go_enter Tryz.func55,Tryz.ntmps55
   go_wp2
   all_goals
    go_ret
    refine ⟨ret_bool ?_,((Below.refl _ w).alloc (Nat.le_refl _) _).alloc (by simp) _⟩;simp only [Lib.toList_data] at *
    simp_all [sameO]
def UrlAt (w:World) (u:Adr) (pv:Value):Prop:=PathAt w pv u.path/\u.path.length<=1000000/\u.path.flatten.length<=100000
theorem UrlAt.kept {w w':World} {u:Adr} {pv:Value} (h:UrlAt w u pv) (hb:Below w.heap.size w w'):UrlAt w' u pv:=⟨h.1.kept hb,h.2⟩
theorem UrlAt.sl {w:World} {u:Adr} {pv:Value} (h:UrlAt w u pv):IsSl pv:=by
 rcases h.1 with ⟨rfl,_⟩ | ⟨b,cap,rfl,_⟩
 ·exact ⟨_,_,_,rfl⟩
 ·exact ⟨_,_,_,rfl⟩
theorem self_any (u p:Adr) (uv pv:Value) (w:World) (hg:Gd w) (hu:UrlAt w u uv) (hp:UrlAt w p pv):
 Calls Tryz.prog 121 #[adrVal u uv,adrVal p pv] w fun e w'=>e = .returned (.bool (selfM u p))/\Below w.heap.size w w':=by
 obtain ⟨ua,un,uc,rfl⟩:=hu.sl
 obtain ⟨pa,pn,pc,rfl⟩:=hp.sl
 have HU:=hid (fun (w:World) (hg:Gd w) (h:UrlAt w u (.slice ua un uc))=>of_any u (.slice ua un uc) w hg h.1 h.2.1 h.2.2);have HP:=hid (fun (w:World) (hg:Gd w) (h:UrlAt w p (.slice pa pn pc))=>of_any p (.slice pa pn pc) w hg h.1 h.2.1 h.2.2);have HSm:=hid (fun w=>same4_any (orgV u) (orgV p) w);obtain ⟨OU,hOU⟩: ∃ v,orgVal (orgV u)=v:=⟨_,rfl⟩
 obtain ⟨OP,hOP⟩: ∃ v,orgVal (orgV p)=v:=⟨_,rfl⟩
 unfold OfPost at HU HP;rw [hOU] at HU HSm;rw [hOP] at HP HSm;obtain ⟨sm,hsm⟩: ∃ b,sameO (orgV u) (orgV p)=b:=⟨_,rfl⟩
 rw [hsm] at HSm;obtain ⟨u0,u1,u2,u3,u4,u5,u6,u8,u9,u10,u11,hx,hx0,hx3,hx5,hx6⟩:=adr_named u ua un uc
 obtain ⟨p0,p1,p2,p3,p4,p5,p6,p8,p9,p10,p11,hy,hy0,hy3,hy5,hy6⟩:=adr_named p pa pn pc
 have hva:adrVal u (.slice ua un uc) = .agg #[.string u0,.string u1,.string u2,.string u3,.bool u4,.int .i64 u5,.bool u6,.slice ua un uc,.string u8,.string u9,.bool u10,.bool u11]:=by unfold adrVal;rw [hx]
 have hvb:adrVal p (.slice pa pn pc) = .agg #[.string p0,.string p1,.string p2,.string p3,.bool p4,.int .i64 p5,.bool p6,.slice pa pn pc,.string p8,.string p9,.bool p10,.bool p11]:=by unfold adrVal;rw [hy]
 rw [hva] at HU ⊢;rw [hvb] at HP ⊢;have HV:=hid (show selfM u p=(sm||((u3.toList==p3.toList)&&(schM p0.data.toList u0.data.toList&&((u5 == -1)&&(p5 == -1))))) by
  unfold selfM;rw [hsm,hx3.symm,hy3.symm,hx0.symm,hy0.symm,hx5.symm,hy5.symm,Lib.toList_data,Lib.toList_data])
 have HSc:=hid (fun w=>scheme11_any p0 u0 w);obtain ⟨ms,hms⟩: ∃ b,schM p0.data.toList u0.data.toList=b:=⟨_,rfl⟩
 obtain ⟨eh,heh⟩: ∃ b,(u3.toList==p3.toList)=b:=⟨_,rfl⟩
 obtain ⟨e5,he5⟩: ∃ b,(u5 == -1)=b:=⟨_,rfl⟩
 obtain ⟨e6,he6⟩: ∃ b,(p5 == -1)=b:=⟨_,rfl⟩
 rw [hms] at HSc;rw [hms,heh,he5,he6] at HV
 clear hx0 hx3 hx5 hx6 hy0 hy3 hy5 hy6 hva hvb hms hsm hOU hOP;obtain ⟨W1,hW1⟩: ∃ W1,(w.alloc (.cells #[.string u0,.string u1,.string u2,.string u3,.bool u4,.int .i64 u5,.bool u6,.slice ua un uc,.string u8,.string u9,.bool u10,.bool u11] 24))=W1:=⟨_,rfl⟩
 have hb1:Below w.heap.size w W1:=by rw [<- hW1];exact (Below.refl _ w).alloc (Nat.le_refl _) _
 have hs1:W1.heap.size=w.heap.size+1:=by rw [<- hW1];simp
 have hA1:AdrIn W1 w.heap.size u (.slice ua un uc):=by
  unfold AdrIn;rw [hx,<- hW1]
  exact heap_alloc_new w _
 obtain ⟨W2,hW2⟩: ∃ W2,(W1.alloc (.cells #[.string p0,.string p1,.string p2,.string p3,.bool p4,.int .i64 p5,.bool p6,.slice pa pn pc,.string p8,.string p9,.bool p10,.bool p11] 24))=W2:=⟨_,rfl⟩
 have hb2:Below W1.heap.size W1 W2:=by rw [<- hW2];exact (Below.refl _ W1).alloc (Nat.le_refl _) _
 have hA2:=hA1.kept hb2;have hP2:AdrIn W2 (w.heap.size+1) p (.slice pa pn pc):=by
  unfold AdrIn;rw [hy,<- hW2,<- hs1]
  exact heap_alloc_new W1 _
 have hB2:=below2 hb1 hb2;have HG2:=hid (hg.kept hB2);have HU2:=hid (hu.kept hB2);have HP2:=hid (hp.kept hB2);have HB2:=hid hB2;have HRu:=hid (show ∀ Z,Below W2.heap.size W2 Z->Z.rangeAt w.heap.size 0 [.string u0,.string u1,.string u2,.string u3,.bool u4,.int .i64 u5,.bool u6,.slice ua un uc,.string u8,.string u9,.bool u10,.bool u11] from fun Z hZ=>by
  have:=range_row (show Z.heap[w.heap.size]? = some (.cells (adrCells u (.slice ua un uc)).toArray 24 (0,0)) from hA2.kept hZ);rw [hx] at this;exact this)
 have HRp:=hid (show ∀ Z,Below W2.heap.size W2 Z->Z.rangeAt (w.heap.size+1) 0 [.string p0,.string p1,.string p2,.string p3,.bool p4,.int .i64 p5,.bool p6,.slice pa pn pc,.string p8,.string p9,.bool p10,.bool p11] from fun Z hZ=>by
  have:=range_row (show Z.heap[w.heap.size+1]? = some (.cells (adrCells p (.slice pa pn pc)).toArray 24 (0,0)) from hP2.kept hZ);rw [hy] at this;exact this)
 have HKf:=hid (show ∀ Z,Below W2.heap.size W2 Z->Z.cell? ⟨w.heap.size,0,none⟩=some (.string u0)/\Z.cell? ⟨w.heap.size,3,none⟩=some (.string u3)/\Z.cell? ⟨w.heap.size,5,none⟩=some (.int .i64 u5)/\Z.cell? ⟨w.heap.size+1,0,none⟩=some (.string p0)/\Z.cell? ⟨w.heap.size+1,3,none⟩=some (.string p3)/\Z.cell? ⟨w.heap.size+1,5,none⟩=some (.int .i64 p5) from fun Z hZ=>by
  have h1: ∀ j v,(adrCells u (.slice ua un uc))[j]? = some v->Z.cell? ⟨w.heap.size,j,none⟩=some v:=fun j v h=>(hA2.kept hZ).cell j v h
  have h2: ∀ j v,(adrCells p (.slice pa pn pc))[j]? = some v->Z.cell? ⟨w.heap.size+1,j,none⟩=some v:=fun j v h=>(hP2.kept hZ).cell j v h
  rw [hx] at h1;rw [hy] at h2;exact ⟨h1 0 _ rfl,h1 3 _ rfl,h1 5 _ rfl,h2 0 _ rfl,h2 3 _ rfl,h2 5 _ rfl⟩)
 have HU3:=hid (fun (X:World) (hX:Below W2.heap.size W2 X)=>HU.out X (HG2.out.kept hX) (HU2.out.kept hX));have HP3:=hid (fun (X:World) (hX:Below W2.heap.size W2 X)=>HP.out X (HG2.out.kept hX) (HP2.out.kept hX));clear hb1 hb2 hA1 hA2 hP2 hB2 hg hu hp hx hy HU HP
 go_enter Tryz.func121,Tryz.ntmps121
 go_wp2_with fail
 have HQ0:=hid ((Below.refl W2.heap.size W2).drew);refine wp_region_held_drew (S:=(fun wx=>Below W2.heap.size W2 wx)) (by kernel_rfl) HQ0.out (fun hHeld=> ?_)
 refine wpAnyH_take (i:=0) rfl (by kernel_rfl) (by kernel_rfl) (by kernel_rfl) (fun _ _ _ h=>h) (yieldsIf_load_mid (by kernel_rfl) 24 (.tmp 2) rfl w.heap.size 0 rfl [.string u0,.string u1,.string u2,.string u3,.bool u4,.int .i64 u5,.bool u6,.slice ua un uc,.string u8,.string u9,.bool u10,.bool u11] _ HRu.out Tryz.underlying24 rfl sizeU) (by assumption) ?_
 (try simp only [Act.put,List.setIfInBounds_toArray,List.set_cons_zero,List.set_cons_succ])
 refine wpAnyH_take (i:=2) rfl (by kernel_rfl) (by kernel_rfl) (by kernel_rfl) (fun _ _ _ h=>h) (yieldsIf_load_mid (by kernel_rfl) 24 (.tmp 3) rfl (w.heap.size+1) 0 rfl [.string p0,.string p1,.string p2,.string p3,.bool p4,.int .i64 p5,.bool p6,.slice pa pn pc,.string p8,.string p9,.bool p10,.bool p11] _ HRp.out Tryz.underlying24 rfl sizeU) (by assumption) ?_
 (try simp only [Act.put,List.setIfInBounds_toArray,List.set_cons_zero,List.set_cons_succ])
 refine wpAnyH_ready (rs:=[1]) (by kernel_rfl) (by simp) ?_
 refine AllReadyH.cons rfl (fun K hK=> ?_) AllReadyH.nil;rw [if_pos (by kernel_rfl)]
 go_simp
 go_wp2_with (go_at_call 54;refine (HU3.out _ HQ0.out).mono ?_;rintro e wa ⟨rfl,hba⟩)
 have HQ1:=hid (below2 HQ0.out hba);clear hba;refine hK.out _ _ HQ1.out (fun hHeld2=> ?_);clear hK K hHeld
 rename _=>hHeld
 refine wpAnyH_ready (rs:=[3]) (by kernel_rfl) (by simp) ?_
 refine AllReadyH.cons rfl (fun K hK=> ?_) AllReadyH.nil;rw [if_pos (by kernel_rfl)]
 go_simp
 go_wp2_with (go_at_call 54;refine (HP3.out _ HQ1.out).mono ?_;rintro e wb ⟨rfl,hbb⟩)
 have HQ2:=hid (below2 HQ1.out hbb);clear hbb;refine hK.out _ _ HQ2.out (fun hHeld2=> ?_);clear hK K hHeld
 rename _=>hHeld
 refine wpAnyH_ready (rs:=[4]) (by kernel_rfl) (by simp) ?_
 refine AllReadyH.cons rfl (fun K hK=> ?_) AllReadyH.nil;rw [if_pos (by kernel_rfl)]
 go_simp
 go_wp2_with (go_at_call 55;refine (HSm.out _).mono ?_;rintro e wc ⟨rfl,hbc⟩)
 have HQ3:=hid (below2 HQ2.out hbc);clear hbc;refine hK.out _ _ HQ3.out (fun hHeld2=> ?_);clear hK K hHeld
 rename _=>hHeld
 refine wpAnyH_done (by kernel_rfl) ?_ _
 obtain ⟨c0,c3,c5,d0,d3,d5⟩:=HKf.out wc HQ3.out
 have HB3:=hid (below2 HB2.out HQ3.out);clear HQ0 HQ1 HQ2 HQ3 hHeld HRu HRp HKf HU3 HP3
 cases sm with
 | true=>
   go_wp2
   go_ret
   exact ⟨ret_bool (by rw [HV.out];rfl),HB3.out⟩
 | false=>
   cases eh<;>cases ms<;>cases e5<;>
   ·go_wp2_with (go_at_call 125;refine (HSc.out _).mono ?_;rintro e wz ⟨rfl,hwz⟩;rw [<- hwz];clear hwz)
    go_ret
    exact ⟨ret_bool (by rw [HV.out];rfl),HB3.out⟩
end Go.Proofs.YtijpkalkfbejeaaGreatDoor
