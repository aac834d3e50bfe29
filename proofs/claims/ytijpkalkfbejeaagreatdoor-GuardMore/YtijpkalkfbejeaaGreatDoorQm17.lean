/- Walks and plain facts. -/
import Derived.Test.YtijpkalkfbejeaaGreatDoorQm16
set_option linter.unusedSimpArgs false
set_option linter.unusedVariables false
set_option maxHeartbeats 16000000
set_option maxRecDepth 100000

namespace Go.Proofs.YtijpkalkfbejeaaGreatDoor
open Go.RowKit
theorem begin_long (s:ByteArray) (w:World) (hs:4096<s.size):
 Calls Tryz.prog 149 #[.string s] w fun e w'=>e = .returned (.tuple #[adrVal Adr.zero (.slice none 0 0),.string ⟨#[]⟩,.int .i64 3])/\Below w.heap.size w w':=by
 have hs':(4096:Int)<(s.size:Int):=by omega
 have h0:AdrIn (w.alloc (.cells (adrCells Adr.zero (.slice none 0 0)).toArray 24)) w.heap.size Adr.zero (.slice none 0 0):=heap_alloc_new w _;have hb0:Below w.heap.size w (w.alloc (.cells (adrCells Adr.zero (.slice none 0 0)).toArray 24)):=(Below.refl _ w).alloc (Nat.le_refl _) _;have H0:=hid h0;have HB0:=hid hb0;clear h0 hb0
 go_enter Tryz.func149,Tryz.ntmps149
 go_wp2_with (refine wpList_store_mid rfl 24 (.tmp 2) (.tmp 13) rfl w.heap.size 0 (adrCells Adr.zero (.slice none 0 0)).toArray rfl rfl H0.out.there (sizeUa _ _) (all_oneCell_toArray (adrCells_one _ _ ⟨_,_,_,rfl⟩)) ?_)
 exact bodyPost_ret (results_u3 rfl _ _ w.heap.size Adr.zero (.slice none 0 0) rfl (range_row H0.out.store)) rfl ⟨rfl,below_setCells (Nat.le_refl _) _ _ _ HB0.out⟩
theorem begin_le (s:List UInt8):(beginU s).2.length<=s.length:=by
 have h1:=clean_le s;have h2:=part_le 35 (cleanV s);have h3:(cutS (part 35 (cleanV s)).1).2.length<=(part 35 (cleanV s)).1.length:=by
  cases hb:((part 58 (part 35 (cleanV s)).1).2.2&&schOk (part 58 (part 35 (cleanV s)).1).1)
  ·rw [cutS_none hb];exact Nat.le_refl _
  ·rw [cutS_some hb];exact (part_le 58 _).2
 have:(beginU s).2=(cutS (part 35 (cleanV s)).1).2:=rfl;rw [this];omega
theorem readV_long {s:List UInt8} {b:Option Adr} (h:4096<s.length):readV s b = .error 3:=by unfold readV;rw [if_pos h]
theorem readV_bare {s:List UInt8} (h: ¬ 4096<s.length) (h2:(beginU s).1.scheme=[]):readV s none = .error 12:=by unfold readV;rw [if_neg h];simp only;rw [if_pos h2]
theorem readV_full {s:List UInt8} (h: ¬ 4096<s.length) (h2:(beginU s).1.scheme≠[]):readV s none=startV (beginU s).1 (beginU s).2:=by unfold readV;rw [if_neg h];simp only;rw [if_neg h2]
theorem read_parts: ∃ r0 c X Y Z S,Tryz.f115.body=some (.seq r0 (.scope c))/\findLabel c 2=some (.seq .skip X)/\findLabel c 1=some (.seq .skip Y)/\findLabel c 3=some (.seq .skip Z)/\findLabel c 0=some (.seq .skip S):=⟨_,_,_,_,_,_,rfl,rfl,rfl,rfl,rfl⟩
theorem read_nil (s:ByteArray) (w:World) (hg:Gd w) (hs:s.size<=100000):
 Calls Tryz.prog 115 #[.string s,.pointer none] w (ReadPost (readV s.data.toList none) w):=by
 have HG:=hid hg;clear hg;have h0:AdrIn (w.alloc (.cells (adrCells Adr.zero (.slice none 0 0)).toArray 24)) w.heap.size Adr.zero (.slice none 0 0):=heap_alloc_new w _;have hb0:Below w.heap.size w (w.alloc (.cells (adrCells Adr.zero (.slice none 0 0)).toArray 24)):=(Below.refl _ w).alloc (Nat.le_refl _) _;have hz0:(w.alloc (.cells (adrCells Adr.zero (.slice none 0 0)).toArray 24)).heap.size=w.heap.size+1:=by simp
 have H0:=hid h0;have HB0:=hid hb0;have HZ0:=hid hz0;clear h0 hb0 hz0;obtain ⟨r0,c,X,Y,Z,S,hc,hfq,hfp,hfa,hfs⟩:=read_parts
 have HSt:=hid (@seg_start r0 c X Y Z S hc hfq hfp hfa hfs 1);obtain ⟨Q,hQ⟩: ∃ Q,Q=exitFwd Tryz.prog c (bodyPost Tryz.prog Tryz.f115 (ReadPost (readV s.data.toList none) w)) 3:=⟨_,rfl⟩
 have HSc:Hid (∀ a w',c.wp Tryz.prog Q a w'->(Code.scope c).wp Tryz.prog (bodyPost Tryz.prog Tryz.f115 (ReadPost (readV s.data.toList none) w)) a w'):=fun a w' h=>wp_scope_fwd 3 (by rw [<- hQ];exact h)
 have HRet:Hid (∀ a w',bodyPost Tryz.prog Tryz.f115 (ReadPost (readV s.data.toList none) w) .ret a w'->Q .ret a w'):=fun a w' h=>by rw [hQ,exitFwd_ret];exact h
 have HJ0:Hid (∀ a w',S.wp Tryz.prog (exitFwd Tryz.prog c (bodyPost Tryz.prog Tryz.f115 (ReadPost (readV s.data.toList none) w)) 2) a w'->Q (.goto 0) a w'):=fun a w' h=>by rw [hQ];exact exitFwd_goto _ hfs (wp_skip_seq h)
 clear hQ hfq hfp hfa hfs;refine calls_of_wp Tryz.func115 hc ?_;simp only [Tryz.ntmps115,List.size_toArray,List.length_cons,List.length_nil,Nat.reduceAdd,Nat.reduceSub,Array.replicate_succ,Array.replicate_zero,List.push_toArray,List.append_toArray,List.nil_append,List.cons_append]
 generalize hBP:bodyPost Tryz.prog Tryz.f115 (ReadPost (readV s.data.toList none) w)=BP at HSc HRet HJ0 ⊢;have HBP:=hid hBP;clear hBP;unfold Tryz.f115 at hc
 cases hc
 by_cases hlong:4096<s.size
 ·have HN:=hid (readV_long (s:=s.data.toList) (b:=none) (by simpa using hlong))
  have HBeg:=hid (fun w=>begin_long s w hlong);clear hlong HSt HJ0
  go_wp2
  refine HSc.out _ _ ?_
  go_wp2_with fail
  refine (HBeg.out _).mono ?_;rintro e w1 ⟨rfl,hb1⟩
  have HR1:=hid (H0.out.kept hb1);have HB1:=hid (HB0.out.trans (hb1.mono HB0.out.size));have hsz1:w.heap.size+1<=w1.heap.size:=by have:=hb1.size;rw [World.size_alloc] at this;exact this
  have hth:(w1.alloc (.cells #[.string ⟨#[]⟩,.string ⟨#[]⟩,.string ⟨#[]⟩,.string ⟨#[]⟩,.bool false,.int .i64 0,.bool false,.slice none 0 0,.string ⟨#[]⟩,.string ⟨#[]⟩,.bool false,.bool false] 24)).there w1.heap.size 0 (adrCells Adr.zero (.slice none 0 0)).toArray.size:=there_row (heap_alloc_new w1 _) (by decide)
  have hb2:Below w.heap.size w ((w1.alloc (.cells #[.string ⟨#[]⟩,.string ⟨#[]⟩,.string ⟨#[]⟩,.string ⟨#[]⟩,.bool false,.int .i64 0,.bool false,.slice none 0 0,.string ⟨#[]⟩,.string ⟨#[]⟩,.bool false,.bool false] 24)).setCells w1.heap.size 0 (adrCells Adr.zero (.slice none 0 0))):=below_setCells (by omega) _ _ _ (below2 HB1.out ((Below.refl _ w1).alloc (Nat.le_refl _) _))
  have hr2:AdrIn ((w1.alloc (.cells #[.string ⟨#[]⟩,.string ⟨#[]⟩,.string ⟨#[]⟩,.string ⟨#[]⟩,.bool false,.int .i64 0,.bool false,.slice none 0 0,.string ⟨#[]⟩,.string ⟨#[]⟩,.bool false,.bool false] 24)).setCells w1.heap.size 0 (adrCells Adr.zero (.slice none 0 0))) w.heap.size Adr.zero (.slice none 0 0):=by
   unfold AdrIn;rw [setCells_other (by omega)];exact HR1.out.kept ((Below.refl _ w1).alloc (Nat.le_refl _) _)
  have hth2:((w1.alloc (.cells #[.string ⟨#[]⟩,.string ⟨#[]⟩,.string ⟨#[]⟩,.string ⟨#[]⟩,.bool false,.int .i64 0,.bool false,.slice none 0 0,.string ⟨#[]⟩,.string ⟨#[]⟩,.bool false,.bool false] 24)).setCells w1.heap.size 0 (adrCells Adr.zero (.slice none 0 0))).there w.heap.size 0 (adrCells Adr.zero (.slice none 0 0)).toArray.size:=hr2.there;have HR2:=hid hr2;have HB2:=hid hb2;clear hb1 hb2 hr2;dsimp only
  go_wp2_with (first | refine wpList_store_mid rfl 24 (.tmp 8) (.tmp 14) rfl w1.heap.size 0 (adrCells Adr.zero (.slice none 0 0)).toArray ?h1 ?h2 ?h3 ?h4 ?h5 ?h6 | refine wpList_store_mid rfl 24 (.tmp 4) (.tmp 20) rfl w.heap.size 0 (adrCells Adr.zero (.slice none 0 0)).toArray ?k1 ?k2 ?k3 ?k4 ?k5 ?k6)
  case h1=>rfl
  case h2=>rfl
  case h4=>exact sizeUa _ _
  case h5=>exact all_oneCell_toArray (adrCells_one _ _ ⟨_,_,_,rfl⟩)
  case h3=>exact hth
  case k1=>rfl
  case k2=>rfl
  case k4=>exact sizeUa _ _
  case k5=>exact all_oneCell_toArray (adrCells_one _ _ ⟨_,_,_,rfl⟩)
  case k3=>exact hth2
  refine HRet.out _ _ ?_;rw [<- HBP.out];refine bodyPost_ret (results_u2 rfl _ _ w.heap.size Adr.zero (.slice none 0 0) rfl (range_row HR2.out.store)) rfl ⟨.slice none 0 0,?_,?_,below_setCells (Nat.le_refl _) _ _ _ HB2.out⟩
  ·rw [HN.out];rfl
  ·rw [HN.out];exact own_nil _ _ _
 ·obtain ⟨U,Rl,hbu⟩: ∃ U R,beginU s.data.toList=(U,R):=⟨_,_,rfl⟩
  obtain ⟨R,hRd⟩: ∃ R:ByteArray,R=⟨Rl.toArray⟩:=⟨_,rfl⟩
  have hRl:R.data.toList=Rl:=by rw [hRd]
  have hRs:R.size<=100000:=by
   have:=begin_le s.data.toList;rw [hbu] at this;rw [Lib.size_eq,hRl]
   simp at this;omega
  have HBeg:Hid (∀ w:World,Gd w->Calls Tryz.prog 149 #[.string s] w fun e w'=>e = .returned (.tuple #[adrVal U (.slice none 0 0),.string R,.int .i64 0])/\Below w.heap.size w w'):=fun w hg=>by
   have:=begin_any s w hg (by omega)
   rw [hbu] at this;rw [hRd];exact this
  have hnl: ¬ 4096<s.data.toList.length:=by simpa using hlong
  have HV:Hid ((U.scheme=[]->readV s.data.toList none = .error 12)/\(U.scheme≠[]->readV s.data.toList none=startV U R.data.toList)):=⟨fun h=>readV_bare hnl (by rw [hbu];exact h),fun h=>by rw [readV_full hnl (by rw [hbu];exact h),hbu,hRl]⟩;clear hbu hRd hRl hlong hnl
  go_wp2
  refine HSc.out _ _ ?_
  go_wp2_with fail
  refine (HBeg.out _ (HG.out.kept HB0.out)).mono ?_;rintro e w1 ⟨rfl,hb1⟩
  have HR1:=hid (H0.out.kept hb1);have HB1:=hid (HB0.out.trans (hb1.mono HB0.out.size));have hsz1:=hb1.size;rw [HZ0.out] at hsz1;have hN1:AdrIn (w1.alloc (.cells #[.string ⟨#[]⟩,.string ⟨#[]⟩,.string ⟨#[]⟩,.string ⟨#[]⟩,.bool false,.int .i64 0,.bool false,.slice none 0 0,.string ⟨#[]⟩,.string ⟨#[]⟩,.bool false,.bool false] 24)) w1.heap.size Adr.zero (.slice none 0 0):=heap_alloc_new w1 _
  have hb12:Below w1.heap.size w1 (w1.alloc (.cells #[.string ⟨#[]⟩,.string ⟨#[]⟩,.string ⟨#[]⟩,.string ⟨#[]⟩,.bool false,.int .i64 0,.bool false,.slice none 0 0,.string ⟨#[]⟩,.string ⟨#[]⟩,.bool false,.bool false] 24)):=(Below.refl _ w1).alloc (Nat.le_refl _) _;have HN1:=hid hN1;have HB12:=hid hb12;clear hb1 hN1 hb12;dsimp only
  have hth:(w1.alloc (.cells #[.string ⟨#[]⟩,.string ⟨#[]⟩,.string ⟨#[]⟩,.string ⟨#[]⟩,.bool false,.int .i64 0,.bool false,.slice none 0 0,.string ⟨#[]⟩,.string ⟨#[]⟩,.bool false,.bool false] 24)).there w1.heap.size 0 (adrCells U (.slice none 0 0)).toArray.size:=HN1.out.there
  go_wp2_with (refine wpList_store_mid rfl 24 (.tmp 8) (.tmp 14) rfl w1.heap.size 0 (adrCells U (.slice none 0 0)).toArray ?p1 ?p2 ?p3 ?p4 ?p5 ?p6)
  case p1=>rfl
  case p2=>rfl
  case p4=>exact sizeUa _ _
  case p5=>exact all_oneCell_toArray (adrCells_one _ _ ⟨_,_,_,rfl⟩)
  case p3=>exact hth
  clear hth;have hu2:AdrIn ((w1.alloc (.cells #[.string ⟨#[]⟩,.string ⟨#[]⟩,.string ⟨#[]⟩,.string ⟨#[]⟩,.bool false,.int .i64 0,.bool false,.slice none 0 0,.string ⟨#[]⟩,.string ⟨#[]⟩,.bool false,.bool false] 24)).setCells w1.heap.size 0 (adrCells U (.slice none 0 0))) w1.heap.size U (.slice none 0 0):=HN1.out.store
  have hr2:AdrIn ((w1.alloc (.cells #[.string ⟨#[]⟩,.string ⟨#[]⟩,.string ⟨#[]⟩,.string ⟨#[]⟩,.bool false,.int .i64 0,.bool false,.slice none 0 0,.string ⟨#[]⟩,.string ⟨#[]⟩,.bool false,.bool false] 24)).setCells w1.heap.size 0 (adrCells U (.slice none 0 0))) w.heap.size Adr.zero (.slice none 0 0):=by
   unfold AdrIn;rw [setCells_other (by omega)];exact HR1.out.kept HB12.out
  have hb2:Below w.heap.size w ((w1.alloc (.cells #[.string ⟨#[]⟩,.string ⟨#[]⟩,.string ⟨#[]⟩,.string ⟨#[]⟩,.bool false,.int .i64 0,.bool false,.slice none 0 0,.string ⟨#[]⟩,.string ⟨#[]⟩,.bool false,.bool false] 24)).setCells w1.heap.size 0 (adrCells U (.slice none 0 0))):=below_setCells (by omega) _ _ _ (below2 HB1.out HB12.out)
  generalize ((w1.alloc (.cells #[.string ⟨#[]⟩,.string ⟨#[]⟩,.string ⟨#[]⟩,.string ⟨#[]⟩,.bool false,.int .i64 0,.bool false,.slice none 0 0,.string ⟨#[]⟩,.string ⟨#[]⟩,.bool false,.bool false] 24)).setCells w1.heap.size 0 (adrCells U (.slice none 0 0)))=w2 at hu2 hr2 hb2 ⊢;obtain ⟨SC,hSC⟩: ∃ SC:ByteArray,SC=⟨U.scheme.toArray⟩:=⟨_,rfl⟩
  have hc0:w2.cell? ⟨w1.heap.size,0,none⟩=some (.string SC):=by rw [hSC];exact hu2.cell 0 _ rfl
  have HU2:=hid hu2;have HR2:=hid hr2;have HB2:=hid hb2;clear hu2 hr2 hb2 HN1 HB12;by_cases hsc:U.scheme=[]
  ·have he:=empty_yes SC (by rw [hSC];exact hsc)
   have HN:=hid (HV.out.1 hsc);clear hsc hSC;have hth2:w2.drew.there w.heap.size 0 (adrCells Adr.zero (.slice none 0 0)).toArray.size:=HR2.out.there;have HR3:=hid (show AdrIn w2.drew w.heap.size Adr.zero (.slice none 0 0) from HR2.out);have HB3:=hid HB2.out.drew
   go_region
   go_wp2_with (refine wpList_store_mid rfl 24 (.tmp 4) (.tmp 56) rfl w.heap.size 0 (adrCells Adr.zero (.slice none 0 0)).toArray ?q1 ?q2 ?q3 ?q4 ?q5 ?q6)
   case q1=>rfl
   case q2=>rfl
   case q4=>exact sizeUa _ _
   case q5=>exact all_oneCell_toArray (adrCells_one _ _ ⟨_,_,_,rfl⟩)
   case q3=>exact hth2
   refine HRet.out _ _ ?_;rw [<- HBP.out];refine bodyPost_ret (results_u2 rfl _ _ w.heap.size Adr.zero (.slice none 0 0) rfl (range_row HR3.out.store)) rfl ⟨.slice none 0 0,?_,?_,below_setCells (Nat.le_refl _) _ _ _ HB3.out⟩
   ·rw [HN.out];rfl
   ·rw [HN.out];exact own_nil _ _ _
  ·have he:=empty_no SC (by rw [hSC];exact hsc)
   have HN:=hid (HV.out.2 hsc);clear hsc hSC;have HU3:=hid (show AdrIn w2.drew w1.heap.size U (.slice none 0 0) from HU2.out);have HR3:=hid (show AdrIn w2.drew w.heap.size Adr.zero (.slice none 0 0) from HR2.out);have HB3:=hid HB2.out.drew
   go_region
   go_wp2
   go_step3
   refine HJ0.out _ _ ?_;rw [<- HBP.out,HN.out];apply HSt.out
   ·exact HG.out
   ·exact HB3.out
   ·exact HR3.out
   ·exact HU3.out
   ·exact Nat.le_refl _
   ·omega
   ·exact hRs
theorem uparse_any (s:ByteArray) (w:World) (hg:Gd w) (hs:s.size<=100000):
 Calls Tryz.prog 87 #[.string s] w (ReadPost (readV s.data.toList none) w):=by
 have HG:=hid hg;clear hg;have h0:AdrIn (w.alloc (.cells (adrCells Adr.zero (.slice none 0 0)).toArray 24)) w.heap.size Adr.zero (.slice none 0 0):=heap_alloc_new w _;have hb0:Below w.heap.size w (w.alloc (.cells (adrCells Adr.zero (.slice none 0 0)).toArray 24)):=(Below.refl _ w).alloc (Nat.le_refl _) _;have H0:=hid h0;have HB0:=hid hb0;clear h0 hb0;generalize hr:readV s.data.toList none=r;have HRd:=hid (fun (w:World) (hg:Gd w)=>read_nil s w hg hs);rw [hr] at HRd
 go_enter Tryz.func87,Tryz.ntmps87
 go_wp2_with fail
 refine (HRd.out _ (HG.out.kept HB0.out)).mono ?_;rintro e w1 ⟨pv,rfl,hown,hb1⟩
 have h1:=H0.out.kept hb1;have HB1:=hid (HB0.out.trans (hb1.mono HB0.out.size));have HO1:=hid (ownsRow_lower hown HB0.out.size);have hsl:=own_sl hown;have hth:w1.there w.heap.size 0 (adrCells (adrOf r) pv).toArray.size:=h1.there;have H1:=hid h1;clear h1 hb1 hown
 go_wp2_with (refine wpList_store_mid rfl 24 (.tmp 2) (.tmp 6) rfl w.heap.size 0 (adrCells (adrOf r) pv).toArray ?h1 ?h2 ?h3 ?h4 ?h5 ?h6)
 case h1=>rfl
 case h2=>rfl
 case h4=>exact sizeUa _ _
 case h5=>exact all_oneCell_toArray (adrCells_one _ _ hsl)
 case h3=>exact hth
 exact bodyPost_ret (results_u2 rfl _ _ w.heap.size (adrOf r) pv rfl (range_row H1.out.store)) rfl ⟨pv,rfl,own_cells HO1.out H1.out _ _,below_setCells (Nat.le_refl _) _ _ _ HB1.out⟩
theorem itoaP_any (p:Int) (w:World) (hg:Gd w) (h0:0<=p) (h1:p<=65535):
 Calls Tryz.prog 73 #[.int .i64 p] w fun e w'=>e = .returned (.string ⟨(portT p).toArray⟩)/\Below w.heap.size w w':=by
 refine (Tryz.strconv_Itoa p (by omega) (by omega) w hg.2.1).mono ?_;rintro e w' ⟨rfl,k,os,rfl⟩
 exact ⟨by rw [portT_itoa p h0 h1],Lib.below_grow _ _ (Nat.le_refl _) _ _⟩
theorem deciN_le: ∀ (f n:Nat) (acc:List UInt8),(deciN f n acc).length<=f+acc.length
 | 0,n,acc=>by rw [deciN];omega
 | f+1,n,acc=>by
   rw [deciN];split
   ·simp;omega
   ·have:=deciN_le f (n / 10) (UInt8.ofNat (48+n % 10)::acc)
    rw [List.length_cons] at this;omega
theorem portT_le (p:Int):(⟨(portT p).toArray⟩:ByteArray).size<=100:=by
 rw [Lib.size_eq];have:=deciN_le 6 p.toNat [];simp at this;show (portT p).length<=100;unfold portT;omega
theorem authorityText_any (u:Adr) (pv:Value) (w:World) (hg:Gd w) (hp:u.port = -1∨(0<=u.port/\u.port<=65535)) (hl:u.user.length<=1000000/\u.pass.length<=1000000/\u.host.length<=1000000) (hsl:IsSl pv):
 Calls Tryz.prog 71 #[adrVal u pv] w fun e w'=>e = .returned (.string ⟨(authT u).toArray⟩)/\Below w.heap.size w w':=by
 have HG:=hid hg;clear hg;obtain ⟨sc,us,ps,ho,hh,po,op,pa,qu,fr,hq,hf⟩:=u
 obtain ⟨a0,n0,c0,rfl⟩:=hsl
 obtain ⟨l1,l2,l3⟩:=hl
 simp only at hp l1 l2 l3;obtain ⟨US,rfl⟩: ∃ X:ByteArray,us=X.data.toList:=⟨⟨us.toArray⟩,rfl⟩
 obtain ⟨PS,rfl⟩: ∃ X:ByteArray,ps=X.data.toList:=⟨⟨ps.toArray⟩,rfl⟩
 obtain ⟨HO,rfl⟩: ∃ X:ByteArray,ho=X.data.toList:=⟨⟨ho.toArray⟩,rfl⟩
 have s1:US.size<=1000000:=by rw [Lib.size_eq];exact l1
 have s2:PS.size<=1000000:=by rw [Lib.size_eq];exact l2
 have s3:HO.size<=1000000:=by rw [Lib.size_eq];exact l3
 clear l1 l2 l3;have hbx:Below w.heap.size w (w.alloc (.cells (adrCells ⟨sc,US.data.toList,PS.data.toList,HO.data.toList,hh,po,op,pa,qu,fr,hq,hf⟩ (.slice a0 n0 c0)).toArray 24)):=(Below.refl _ w).alloc (Nat.le_refl _) _;have HBx:=hid hbx;clear hbx;unfold adrVal adrCells
 cases hh with
 | false=>
   go_enter Tryz.func71,Tryz.ntmps71
   go_wp2
   go_ret
   exact ⟨rfl,HBx.out⟩
 | true=>
   by_cases h1:US.data.toList=[]
   ·have q1:(ByteArray.mk US.data).toList.isEmpty=true:=empty_yes US h1
    by_cases h2:PS.data.toList=[]
    ·have q2:(ByteArray.mk PS.data).toList.isEmpty=true:=empty_yes PS h2
     have H1:=hid h1;have H2:=hid h2;clear h1 h2;rcases hp with rfl | ⟨hp0,hp1⟩
     ·go_enter Tryz.func71,Tryz.ntmps71
      go_wp2
      go_ret
      refine ⟨ret_str' ?_,HBx.out⟩;refine ba_ext ?_;simp [authT,H1.out,H2.out]
     ·have hpn:(po == -1)=false:=by rw [beq_eq_false_iff_ne];omega
      have hpn':(po != -1)=true:=by simp;omega
      have HPn:=hid (show po ≠ -1 by omega);obtain ⟨PT,hPT⟩: ∃ X:ByteArray,X=⟨(portT po).toArray⟩:=⟨_,rfl⟩
      have hPs:PT.size<=100:=by rw [hPT];exact portT_le po
      have HIt:Hid (∀ (w:World),Gd w->Calls Tryz.prog 73 #[.int .i64 po] w fun e w'=>e = .returned (.string PT)/\Below w.heap.size w w'):=fun w hg=>by rw [hPT];exact itoaP_any po w hg hp0 hp1
      have HPT:=hid (show PT.data.toList=portT po by rw [hPT]);clear hp0 hp1 hPT
      go_enter Tryz.func71,Tryz.ntmps71
      go_wp2_with fail
      refine (HIt.out _ (HG.out.kept ((Below.refl _ w).alloc (Nat.le_refl _) _))).mono ?_;rintro e w2 ⟨rfl,hb2⟩
      have hb1:=(Below.refl w.heap.size w).alloc (Nat.le_refl _) (.cells (adrCells ⟨sc,US.data.toList,PS.data.toList,HO.data.toList,true,po,op,pa,qu,fr,hq,hf⟩ (.slice a0 n0 c0)).toArray 24);have HB2:=hid (show Below w.heap.size w w2 from hb1.trans (hb2.mono hb1.size));clear hb1;clear hb2
      go_wp2
      go_ret
      refine ⟨ret_str' ?_,HB2.out⟩;refine ba_ext ?_;simp [authT,H1.out,H2.out,HPn.out,HPT.out]
    ·have q2:(ByteArray.mk PS.data).toList.isEmpty=false:=empty_no PS h2
     have H1:=hid h1;have H2:=hid h2;clear h1 h2;rcases hp with rfl | ⟨hp0,hp1⟩
     ·go_enter Tryz.func71,Tryz.ntmps71
      go_wp2
      go_ret
      refine ⟨ret_str' ?_,HBx.out⟩;refine ba_ext ?_;simp [authT,H1.out,H2.out]
     ·have hpn:(po == -1)=false:=by rw [beq_eq_false_iff_ne];omega
      have hpn':(po != -1)=true:=by simp;omega
      have HPn:=hid (show po ≠ -1 by omega);obtain ⟨PT,hPT⟩: ∃ X:ByteArray,X=⟨(portT po).toArray⟩:=⟨_,rfl⟩
      have hPs:PT.size<=100:=by rw [hPT];exact portT_le po
      have HIt:Hid (∀ (w:World),Gd w->Calls Tryz.prog 73 #[.int .i64 po] w fun e w'=>e = .returned (.string PT)/\Below w.heap.size w w'):=fun w hg=>by rw [hPT];exact itoaP_any po w hg hp0 hp1
      have HPT:=hid (show PT.data.toList=portT po by rw [hPT]);clear hp0 hp1 hPT
      go_enter Tryz.func71,Tryz.ntmps71
      go_wp2_with fail
      refine (HIt.out _ (HG.out.kept ((Below.refl _ w).alloc (Nat.le_refl _) _))).mono ?_;rintro e w2 ⟨rfl,hb2⟩
      have hb1:=(Below.refl w.heap.size w).alloc (Nat.le_refl _) (.cells (adrCells ⟨sc,US.data.toList,PS.data.toList,HO.data.toList,true,po,op,pa,qu,fr,hq,hf⟩ (.slice a0 n0 c0)).toArray 24);have HB2:=hid (show Below w.heap.size w w2 from hb1.trans (hb2.mono hb1.size));clear hb1;clear hb2
      go_wp2
      go_ret
      refine ⟨ret_str' ?_,HB2.out⟩;refine ba_ext ?_;simp [authT,H1.out,H2.out,HPn.out,HPT.out]
   ·have q1:(ByteArray.mk US.data).toList.isEmpty=false:=empty_no US h1
    by_cases h2:PS.data.toList=[]
    ·have q2:(ByteArray.mk PS.data).toList.isEmpty=true:=empty_yes PS h2
     have H1:=hid h1;have H2:=hid h2;clear h1 h2;rcases hp with rfl | ⟨hp0,hp1⟩
     ·go_enter Tryz.func71,Tryz.ntmps71
      go_wp2
      go_ret
      refine ⟨ret_str' ?_,HBx.out⟩;refine ba_ext ?_;simp [authT,H1.out,H2.out]
     ·have hpn:(po == -1)=false:=by rw [beq_eq_false_iff_ne];omega
      have hpn':(po != -1)=true:=by simp;omega
      have HPn:=hid (show po ≠ -1 by omega);obtain ⟨PT,hPT⟩: ∃ X:ByteArray,X=⟨(portT po).toArray⟩:=⟨_,rfl⟩
      have hPs:PT.size<=100:=by rw [hPT];exact portT_le po
      have HIt:Hid (∀ (w:World),Gd w->Calls Tryz.prog 73 #[.int .i64 po] w fun e w'=>e = .returned (.string PT)/\Below w.heap.size w w'):=fun w hg=>by rw [hPT];exact itoaP_any po w hg hp0 hp1
      have HPT:=hid (show PT.data.toList=portT po by rw [hPT]);clear hp0 hp1 hPT
      go_enter Tryz.func71,Tryz.ntmps71
      go_wp2_with fail
      refine (HIt.out _ (HG.out.kept ((Below.refl _ w).alloc (Nat.le_refl _) _))).mono ?_;rintro e w2 ⟨rfl,hb2⟩
      have hb1:=(Below.refl w.heap.size w).alloc (Nat.le_refl _) (.cells (adrCells ⟨sc,US.data.toList,PS.data.toList,HO.data.toList,true,po,op,pa,qu,fr,hq,hf⟩ (.slice a0 n0 c0)).toArray 24);have HB2:=hid (show Below w.heap.size w w2 from hb1.trans (hb2.mono hb1.size));clear hb1;clear hb2
      go_wp2
      go_ret
      refine ⟨ret_str' ?_,HB2.out⟩;refine ba_ext ?_;simp [authT,H1.out,H2.out,HPn.out,HPT.out]
    ·have q2:(ByteArray.mk PS.data).toList.isEmpty=false:=empty_no PS h2
     have H1:=hid h1;have H2:=hid h2;clear h1 h2;rcases hp with rfl | ⟨hp0,hp1⟩
     ·go_enter Tryz.func71,Tryz.ntmps71
      go_wp2
      go_ret
      refine ⟨ret_str' ?_,HBx.out⟩;refine ba_ext ?_;simp [authT,H1.out,H2.out]
     ·have hpn:(po == -1)=false:=by rw [beq_eq_false_iff_ne];omega
      have hpn':(po != -1)=true:=by simp;omega
      have HPn:=hid (show po ≠ -1 by omega);obtain ⟨PT,hPT⟩: ∃ X:ByteArray,X=⟨(portT po).toArray⟩:=⟨_,rfl⟩
      have hPs:PT.size<=100:=by rw [hPT];exact portT_le po
      have HIt:Hid (∀ (w:World),Gd w->Calls Tryz.prog 73 #[.int .i64 po] w fun e w'=>e = .returned (.string PT)/\Below w.heap.size w w'):=fun w hg=>by rw [hPT];exact itoaP_any po w hg hp0 hp1
      have HPT:=hid (show PT.data.toList=portT po by rw [hPT]);clear hp0 hp1 hPT
      go_enter Tryz.func71,Tryz.ntmps71
      go_wp2_with fail
      refine (HIt.out _ (HG.out.kept ((Below.refl _ w).alloc (Nat.le_refl _) _))).mono ?_;rintro e w2 ⟨rfl,hb2⟩
      have hb1:=(Below.refl w.heap.size w).alloc (Nat.le_refl _) (.cells (adrCells ⟨sc,US.data.toList,PS.data.toList,HO.data.toList,true,po,op,pa,qu,fr,hq,hf⟩ (.slice a0 n0 c0)).toArray 24);have HB2:=hid (show Below w.heap.size w w2 from hb1.trans (hb2.mono hb1.size));clear hb1;clear hb2
      go_wp2
      go_ret
      refine ⟨ret_str' ?_,HB2.out⟩;refine ba_ext ?_;simp [authT,H1.out,H2.out,HPn.out,HPT.out]
theorem writeString_k (B b:Nat) (bs:List Value) (s:ByteArray) (w:World) (h:Lib.IsBuilderF 131 5 B b bs w) (hlen:bs.length+s.size<=140737488355328) (hBw:B<=w.heap.size):
 Calls Tryz.prog 89 #[.pointer (some ⟨b,0,none⟩),.string s] w fun e w'=>e = .returned (.tuple #[.int .i64 s.size,.nilIface])/\(Lib.BuilderAtF 131 5 B b (.pointer (some ⟨b,0,none⟩)) (bs++Lib.strCells s) w'/\Below B w w'):=by
 obtain ⟨i0,hi,hz0,hz1,hz2⟩:=info_parts infoByte
 go_enter Tryz.func89,Tryz.ntmps89
 go_wp2_with (go_at_call 117;refine (copyCheck_k B b bs _ h).mono ?_)
 rintro e w1 ⟨rfl,h1,hb1,hk1⟩
 obtain ⟨hB,v,hbk,hown,hne⟩:=h1
 have c0:w1.cell? ⟨b,0,none⟩=some (.pointer (some ⟨b,0,none⟩)):=by rw [Lib.cell_of_heap hbk];rfl
 have c1:w1.cell? ⟨b,1,none⟩=some v:=by rw [Lib.cell_of_heap hbk];rfl
 go_wp2_with (at_builtin;refine Lib.wpList_append_own_stringF _ rfl _ _ 92 9 rfl B 5 i0 Tryz.underlying92 Tryz.underlying9 hi hz0 hz1 hz2 _ _ _ rfl hown s rfl ?c3 ?c4 ?c5 ?_)
 case c3=>unfold maxLen;omega
 case c4=>omega
 case c5=>have:=hb1.size;omega
 intro v' w2 hown' hgrow _;have hlt:b<w1.heap.size:=by
  rcases Nat.lt_or_ge b w1.heap.size with h' | h'
  ·exact h'
  ·simp [Array.getElem?_eq_none h'] at hbk
 have hb2:w2.heap[b]? = some (.cells #[.pointer (some ⟨b,0,none⟩),v] 131 (0,0)):=by
  rw [hgrow.block b hlt (fun e=>hne e.symm)];exact hbk
 have d0:w2.cell? ⟨b,0,none⟩=some (.pointer (some ⟨b,0,none⟩)):=by rw [Lib.cell_of_heap hb2];rfl
 have d1:w2.cell? ⟨b,1,none⟩=some v:=by rw [Lib.cell_of_heap hb2];rfl
 have f1:w2.frozen? ⟨b,1,none⟩=false:=Lib.frozen_of_heap hb2 1
 obtain ⟨ao,n',cap,rfl⟩: ∃ ao n' cap,v' = .slice ao n' cap:=by
  rcases hown'.2 with ⟨hv,_⟩ | ⟨g,cap,cur,fz,hv,_⟩
  ·exact ⟨_,_,_,hv⟩
  ·exact ⟨_,_,_,hv⟩
 go_wp2
 go_ret2
 refine ⟨rfl,?_,?_⟩
 ·exact Lib.BuilderAtF.put (T:=131) (e:=5) hB hb2 (bs':=bs++Lib.strCells s) (by simpa [Lib.strCells_length] using hown') (by decide)
 ·exact (hb1.grown hgrow (by have:=hb1.size;omega) (fun k hk=>(hown.lt k hk).1)).setCell (p:=⟨b,1,none⟩) hB _
theorem join_flat (L:List (List UInt8)):Lib.join L []=L.flatten:=by
 unfold Lib.join
 induction L with
 | nil=>rfl
 | cons x r ih=>
   cases r with
   | nil=>simp [List.intercalate]
   | cons y r=>simp [List.intercalate] at ih ⊢;exact ih
theorem joinP_any (v:Value) (L:List (List UInt8)) (w:World) (h:PathAt w v L) (hl:L.length<=1000000) (hf:L.flatten.length<=1000000):
 Calls Tryz.prog 88 #[v,.string ⟨#[]⟩] w fun e w'=>e = .returned (.string ⟨L.flatten.toArray⟩)/\Below w.heap.size w w':=by
 rcases h with ⟨rfl,rfl⟩ | ⟨b,cap,rfl,h2,h3,h4,h5⟩
 ·refine (Tryz.strings_Join_none none 0 ⟨#[]⟩ w).mono ?_
  rintro e w' ⟨rfl,rfl⟩
  exact ⟨rfl,Below.refl _ _⟩
 ·have e1:(L.map fun x=>(⟨x.toArray⟩:ByteArray)).map (·.data.toList)=L:=by
   rw [List.map_map];exact List.map_id L
  have hj:=Tryz.strings_Join b 0 cap (L.map fun x=>(⟨x.toArray⟩:ByteArray)) ⟨#[]⟩ w ?_ h2 (by simp;omega) (by simp;omega) ?_
  ·rw [e1,show (⟨#[]⟩:ByteArray).data.toList=[] from rfl,join_flat,List.length_map] at hj
   exact hj
  ·intro j x hx
   rw [List.getElem?_map] at hx;obtain ⟨y,hy,rfl⟩:=Option.map_eq_some_iff.1 hx
   obtain ⟨hj,e⟩:=List.getElem?_eq_some_iff.1 hy
   rw [Nat.zero_add,h5 j hj,e]
  ·rw [e1,show (⟨#[]⟩:ByteArray).data.toList=[] from rfl,join_flat];omega
end Go.Proofs.YtijpkalkfbejeaaGreatDoor
