/- Walks and plain facts. -/
import Derived.Test.YtijpkalkfbejeaaGreatDoorQm32
import Derived.Test.YtijpkalkfbejeaaGreatDoorQm33
set_option linter.unusedSimpArgs false
set_option linter.unusedVariables false
set_option maxHeartbeats 16000000
set_option maxRecDepth 100000

namespace Go.Proofs.YtijpkalkfbejeaaGreatDoor
open Go.RowKit
def nonV (n:List UInt8):List UInt8:=[39,110,111,110,99,101,45]++n++[39]
def digsV (q:List UInt8->Bool) (I:List It):Bool:= !I.isEmpty && !(I.any fun x=> !q (shaV x))
def namedV (L:List (List UInt8)) (n m:List UInt8):Bool:=(!n.isEmpty&&(txtsV L).contains (nonV n))||digsV (fun s=>(txtsV L).contains s) (parse9 m)
theorem named_any (v:Value) (L:List (List UInt8)) (n m:ByteArray) (w:World) (hg:Gd w) (hv:TxAt w v L) (hl:L.length<=1000000) (hs: ∀ x ∈ L,x.length<=1000000) (hn:n.size<=1000000) (hm:m.size<=1000000):
 Calls Tryz.prog 78 #[v,.string n,.string m] w fun e w'=>e = .returned (.bool (namedV L n.data.toList m.data.toList))/\Below w.heap.size w w':=by
 have hmf: ∀ (fn:Fn) (first cap:Array Value) (w:World),(Instr.makeFunc fn first cap).run Tryz.prog w = .ok (.func fn first cap) w:=fun _ _ _ _=>rfl
 obtain ⟨q,hq⟩: ∃ q:List UInt8->Bool,q=fun s=>(txtsV L).contains s:=⟨_,rfl⟩
 have HL:=hid (listed_any v L w hg hv hl hs);rw [<- hq] at HL;unfold MkPost11 at HL;have HPa:=hid (fun (X:World) (hX:Below w.heap.size w X)=>parse9_any m X (hg.kept hX).1 (by omega));obtain ⟨I,hI⟩: ∃ I,I=parse9 m.data.toList:=⟨_,rfl⟩
 unfold ParsePost9 at HPa;have HNV:=hid (show namedV L n.data.toList m.data.toList=((!n.data.toList.isEmpty&&q (nonV n.data.toList))||digsV q I) by unfold namedV;rw [hq,hI]);rw [<- hI] at HPa;have HLN:=hid (show I.length<=1000001 by rw [hI];have:=parse_len11 m.data.toList;rw [<- Lib.size_eq] at this;omega);have HLB:=hid (show ∀ x ∈ I,x.bits=256∨x.bits=384∨x.bits=512 by rw [hI];exact parse_bits _);have HLW:=hid (show ∀ x ∈ I,x.want.length<=1000000 by rw [hI];intro x hx;have:=parse_want11 m.data.toList x hx;rw [<- Lib.size_eq] at this;omega);have HG:=hid hg
 obtain ⟨T1,hT1⟩: ∃ Z:ByteArray,(⟨#[39,110,111,110,99,101,45]⟩:ByteArray)++n=Z:=⟨_,rfl⟩
 have hT1l:T1.data.toList=[39,110,111,110,99,101,45]++n.data.toList:=by rw [<- hT1,ByteArray.data_append,Array.toList_append]
 have hT1s:T1.size<=1000007:=by rw [Lib.size_eq,hT1l,List.length_append,<- Lib.size_eq];simp;omega
 obtain ⟨T2,hT2⟩: ∃ Z:ByteArray,T1++(⟨#[39]⟩:ByteArray)=Z:=⟨_,rfl⟩
 have HT2:=hid (show T2.data.toList=nonV n.data.toList by rw [<- hT2,ByteArray.data_append,Array.toList_append,hT1l];rfl);have hT2s:T2.size<=1000008:=by rw [Lib.size_eq,<- hT2,ByteArray.data_append,Array.toList_append,List.length_append,<- Lib.size_eq];simp;omega
 clear hq hI hT1l hg hv hl hs hm
 go_enter Tryz.func78,Tryz.ntmps78
 go_wp2_with fail
 refine HL.out.mono ?_;rintro e w1 ⟨fv,rfl,hr,hb1⟩
 have hr0:=hr;obtain ⟨f,lb,rfl,eg,hc⟩:=hr0
 obtain ⟨W2,hW2⟩: ∃ W2,(w1.alloc (.cells #[.func (.func f) #[] lb] 87))=W2:=⟨_,rfl⟩
 have hb2:Below w1.heap.size w1 W2:=by rw [<- hW2];exact (Below.refl _ w1).alloc (Nat.le_refl _) _
 have hrow:W2.heap[w1.heap.size]? = some (.cells #[.func (.func f) #[] lb] 87 (0,0)):=by rw [<- hW2];exact heap_alloc_new w1 _
 have hcell:W2.cell? ⟨w1.heap.size,0,none⟩=some (.func (.func f) #[] lb):=by rw [Lib.cell_of_heap hrow];rfl
 have HCell:=hid hcell;have HR2:=hid (hr.kept hb2);have HB2:=hid (below2 hb1 hb2);have HC:=hid (hc W2 T2 hb2 (by omega));rw [HT2.out] at HC;clear hr hc hrow hb1 hb2;have HTail:Hid (∀ X,Below W2.heap.size W2 X -> ∀ (Y:World) (iv:Value),Below X.heap.size X Y->ItAt Y iv I->Calls Tryz.prog 102 #[iv,.func (.func 101) #[] #[.pointer (some ⟨w1.heap.size,0,none⟩)]] Y fun e w'=>e = .returned (.bool (I.any fun x=> !q (shaV x)))/\Below Y.heap.size Y w'):=fun X hX Y iv hY hiv=>by
  have hXY:=below2 hX hY;refine containsI11_any _ _ enters_nm1 (fun x=> !q (shaV x)) iv I Y hiv (by have:=HLN.out;omega) (fun Z x hx hZ=> ?_)
  have hZ2:=below2 hXY hZ;exact nm1_any w1.heap.size _ q x Z (HG.out.kept (below2 HB2.out hZ2)) (keptC HCell.out hZ2) (HR2.out.kept hZ2) (HLW.out x hx) (HLB.out x hx)
 have HBr:=hid (Below.refl W2.heap.size W2);by_cases hne:n.data.toList=[]
 ·have g3:=empty_yes n hne
  have HZ:=hid (show namedV L n.data.toList m.data.toList=digsV q I by rw [HNV.out,hne];rfl);clear hne
  go_wp2_with fail
  refine (HPa.out _ (below2 HB2.out HBr.out)).mono ?_;rintro e w4 ⟨iv,rfl,hown,hb4⟩
  have HB4:=hid hb4;have HIT:=hid (own_it hown);obtain ⟨a,cap,hive,-,-,-⟩:=HIT.out.view
  clear hown hb4;by_cases hz:I=[]
  ·have hive':iv = .slice a 0 cap:=by rw [hive,hz];rfl
   have HD:=hid (show digsV q I=false by rw [hz];rfl);clear hive hz;subst hive'
   go_wp2
   go_ret
   exact ⟨ret_bool (by rw [HZ.out,HD.out]),below2 HB2.out (below2 HBr.out HB4.out)⟩
  ·obtain ⟨N,hN⟩: ∃ N,I.length=N:=⟨_,rfl⟩
   have hN0:(0:Int)<(N:Int):=by have:=List.length_pos_iff.2 hz;omega
   have HD:=hid (show digsV q I = !(I.any fun x=> !q (shaV x)) by unfold digsV;cases I with | nil=>exact absurd rfl hz | cons x l=>rfl);rw [hN] at hive;obtain ⟨r,hr⟩: ∃ r,(I.any fun x=> !q (shaV x))=r:=⟨_,rfl⟩
   have HCo:=hid (HTail.out _ HBr.out _ _ HB4.out HIT.out);rw [hr] at HCo HD;clear hz hN hr HIT;subst hive
   go_wp2_with (go_at_call 102;refine HCo.out.mono ?_;rintro e w5 ⟨rfl,hb5⟩)
   go_ret
   exact ⟨ret_bool (by rw [HZ.out,HD.out]),below2 HB2.out (below2 (below2 HBr.out HB4.out) hb5)⟩
 ·have g3:=empty_no n hne
  have HE:=hid (show n.data.toList.isEmpty=false by cases h:n.data.toList with | nil=>exact absurd h hne | cons x l=>rfl);obtain ⟨r0,hr0⟩: ∃ r,q (nonV n.data.toList)=r:=⟨_,rfl⟩
  rw [hr0] at HC;have HR0:=hid hr0;clear hne hr0
  go_wp2_with fail
  refine HC.out.mono ?_;rintro e w3 ⟨rfl,hb3⟩
  have HB3:=hid hb3;clear hb3
  cases r0 with
  | true=>
    go_wp2
    go_ret
    exact ⟨ret_bool (by rw [HNV.out,HE.out,HR0.out];rfl),below2 HB2.out HB3.out⟩
  | false=>
    have HZ:=hid (show namedV L n.data.toList m.data.toList=digsV q I by rw [HNV.out,HE.out,HR0.out];rfl)
    go_wp2_with fail
    refine (HPa.out _ (below2 HB2.out HB3.out)).mono ?_;rintro e w4 ⟨iv,rfl,hown,hb4⟩
    have HB4:=hid hb4;have HIT:=hid (own_it hown);obtain ⟨a,cap,hive,-,-,-⟩:=HIT.out.view
    clear hown hb4;by_cases hz:I=[]
    ·have hive':iv = .slice a 0 cap:=by rw [hive,hz];rfl
     have HD:=hid (show digsV q I=false by rw [hz];rfl);clear hive hz;subst hive'
     go_wp2
     go_ret
     exact ⟨ret_bool (by rw [HZ.out,HD.out]),below2 HB2.out (below2 HB3.out HB4.out)⟩
    ·obtain ⟨N,hN⟩: ∃ N,I.length=N:=⟨_,rfl⟩
     have hN0:(0:Int)<(N:Int):=by have:=List.length_pos_iff.2 hz;omega
     have HD:=hid (show digsV q I = !(I.any fun x=> !q (shaV x)) by unfold digsV;cases I with | nil=>exact absurd rfl hz | cons x l=>rfl);rw [hN] at hive;obtain ⟨r,hr⟩: ∃ r,(I.any fun x=> !q (shaV x))=r:=⟨_,rfl⟩
     have HCo:=hid (HTail.out _ HB3.out _ _ HB4.out HIT.out);rw [hr] at HCo HD;clear hz hN hr HIT;subst hive
     go_wp2_with (go_at_call 102;refine HCo.out.mono ?_;rintro e w5 ⟨rfl,hb5⟩)
     go_ret
     exact ⟨ret_bool (by rw [HZ.out,HD.out]),below2 HB2.out (below2 (below2 HB3.out HB4.out) hb5)⟩
theorem any11_any (v:Value) (L:List (List UInt8)) (u p:Adr) (uv pv:Value) (hops:Int) (n m:ByteArray) (w:World) (hg:Gd w) (hu:UrlAt w u uv) (hp:UrlAt w p pv) (hz:Sized11 u) (hv:TxAt w v L) (hl:L.length<=1000000) (hs: ∀ x ∈ L,x.length<=1000000) (hn:n.size<=1000000) (hm:m.size<=1000000):
 Calls Tryz.prog 60 #[v,adrVal u uv,adrVal p pv,.int .i64 hops,.string n,.string m] w fun e w'=>e = .returned (.bool (L.any (oneV u p hops)||namedV L n.data.toList m.data.toList))/\Below w.heap.size w w':=by
 obtain ⟨ua,un,uc,rfl⟩:=hu.sl
 obtain ⟨pa,pn,pc,rfl⟩:=hp.sl
 have HM:=hid (fun (w:World) (hg:Gd w) (hu:UrlAt w u (.slice ua un uc)) (hp:UrlAt w p (.slice pa pn pc))=>meaning_any u p (.slice ua un uc) (.slice pa pn pc) hops w hg hu hp hz);obtain ⟨u0,u1,u2,u3,u4,u5,u6,u8,u9,u10,u11,hx,-,-,-,-⟩:=adr_named u ua un uc
 obtain ⟨p0,p1,p2,p3,p4,p5,p6,p8,p9,p10,p11,hy,-,-,-,-⟩:=adr_named p pa pn pc
 have hva:adrVal u (.slice ua un uc) = .agg #[.string u0,.string u1,.string u2,.string u3,.bool u4,.int .i64 u5,.bool u6,.slice ua un uc,.string u8,.string u9,.bool u10,.bool u11]:=by unfold adrVal;rw [hx]
 have hvb:adrVal p (.slice pa pn pc) = .agg #[.string p0,.string p1,.string p2,.string p3,.bool p4,.int .i64 p5,.bool p6,.slice pa pn pc,.string p8,.string p9,.bool p10,.bool p11]:=by unfold adrVal;rw [hy]
 rw [hva,hvb] at HM ⊢
 obtain ⟨W1,hW1⟩: ∃ W1,(w.alloc (.cells #[.string u0,.string u1,.string u2,.string u3,.bool u4,.int .i64 u5,.bool u6,.slice ua un uc,.string u8,.string u9,.bool u10,.bool u11] 24))=W1:=⟨_,rfl⟩
 have hb1:Below w.heap.size w W1:=by rw [<- hW1];exact (Below.refl _ w).alloc (Nat.le_refl _) _
 have hs1:W1.heap.size=w.heap.size+1:=by rw [<- hW1];simp
 have hA1:AdrIn W1 w.heap.size u (.slice ua un uc):=by
  unfold AdrIn;rw [hx,<- hW1]
  exact heap_alloc_new w _
 obtain ⟨W2,hW2⟩: ∃ W2,(W1.alloc (.cells #[.string p0,.string p1,.string p2,.string p3,.bool p4,.int .i64 p5,.bool p6,.slice pa pn pc,.string p8,.string p9,.bool p10,.bool p11] 24))=W2:=⟨_,rfl⟩
 have hb2:Below W1.heap.size W1 W2:=by rw [<- hW2];exact (Below.refl _ W1).alloc (Nat.le_refl _) _
 have hA2:=hA1.kept hb2;have hP2:AdrIn W2 (w.heap.size+1) p (.slice pa pn pc):=by
  unfold AdrIn;rw [hy,<- hW2,<- hs1]
  exact heap_alloc_new W1 _
 have hB2:=below2 hb1 hb2;have HG2:=hid (hg.kept hB2);have HU2:=hid (hu.kept hB2);have HP2:=hid (hp.kept hB2);have HV2:=hid (hv.kept hB2);have HB2:=hid hB2;have HL:=hid hl;have HS:=hid hs;have HRu:=hid (show W2.rangeAt w.heap.size 0 [.string u0,.string u1,.string u2,.string u3,.bool u4,.int .i64 u5,.bool u6,.slice ua un uc,.string u8,.string u9,.bool u10,.bool u11] by
  have:=range_row (show W2.heap[w.heap.size]? = some (.cells (adrCells u (.slice ua un uc)).toArray 24 (0,0)) from hA2);rw [hx] at this;exact this)
 have HRp:=hid (show W2.rangeAt (w.heap.size+1) 0 [.string p0,.string p1,.string p2,.string p3,.bool p4,.int .i64 p5,.bool p6,.slice pa pn pc,.string p8,.string p9,.bool p10,.bool p11] by
  have:=range_row (show W2.heap[w.heap.size+1]? = some (.cells (adrCells p (.slice pa pn pc)).toArray 24 (0,0)) from hP2);rw [hy] at this;exact this)
 obtain ⟨q,hq⟩: ∃ q,L.any (oneV u p hops)=q:=⟨_,rfl⟩
 have HQ:=hid hq;rw [hq];obtain ⟨z,hzn⟩: ∃ z,namedV L n.data.toList m.data.toList=z:=⟨_,rfl⟩
 have HZn:=hid hzn;rw [hzn];clear hzn;clear hb1 hb2 hA1 hA2 hP2 hB2 hg hu hp hx hy hz hva hvb hv hl hs hq
 go_enter Tryz.func60,Tryz.ntmps60
 go_wp2_with (first | refine wpList_load_mid rfl 24 (.tmp 7) rfl w.heap.size 0 rfl [.string u0,.string u1,.string u2,.string u3,.bool u4,.int .i64 u5,.bool u6,.slice ua un uc,.string u8,.string u9,.bool u10,.bool u11] _ HRu.out Tryz.underlying24 rfl sizeU ?_ | refine wpList_load_mid rfl 24 (.tmp 8) rfl (w.heap.size+1) 0 rfl [.string p0,.string p1,.string p2,.string p3,.bool p4,.int .i64 p5,.bool p6,.slice pa pn pc,.string p8,.string p9,.bool p10,.bool p11] _ HRp.out Tryz.underlying24 rfl sizeU ?_)
 refine (HM.out _ HG2.out HU2.out HP2.out).mono ?_;rintro e w3 ⟨fv,rfl,hr,hb3⟩
 have HC:=hid (containsS_any (oneV u p hops) v fv L w3 (HV2.out.kept hb3) HL.out HS.out hr);rw [HQ.out] at HC;have HB3:=hid (below2 HB2.out hb3);have HV3:=hid (HV2.out.kept hb3);have HG3:=hid (HG2.out.kept hb3);clear hr hb3
 go_wp2_with fail
 refine HC.out.mono ?_;rintro e w4 ⟨rfl,hb4⟩
 have HB4:=hid (below2 HB3.out hb4);have HNm:=hid (named_any v L n m w4 (HG3.out.kept hb4) (HV3.out.kept hb4) HL.out HS.out hn hm);rw [HZn.out] at HNm;clear hb4
 cases q with
 | true=>
   go_wp2
   go_ret
   exact ⟨rfl,HB4.out⟩
 | false=>
   go_wp2_with (go_at_call 78;refine HNm.out.mono ?_;rintro e w5 ⟨rfl,hb5⟩)
   go_ret
   exact ⟨rfl,below2 HB4.out hb5⟩
def StOk (u:Adr):Prop:=Fine u/\TrOk u
theorem slim_st {u:Adr} (h:Slim 20000 u):StOk u:=⟨h.fine (by omega),slim_tr h⟩
theorem st_zero:StOk Adr.zero:=⟨⟨.inr ⟨by decide,by decide⟩,⟨by decide,by decide,by decide,by decide⟩,⟨by decide,by decide,by decide⟩,by decide,by decide⟩,by decide,by decide,by decide⟩
theorem st_read (s:List UInt8):StOk (adrOf (readV s none)):=by
 cases hr:readV s none with
 | ok v=>exact slim_st (parse_slim hr)
 | error e=>exact st_zero
def pageD:List UInt8:=[104,116,116,112,115,58,47,47,97,46,101,120,97,109,112,108,101,47,112,63,113]
def pageT (s:List UInt8):List UInt8:=match urlV s with
 | .ok u=>if webV u.scheme then s.take 300 else pageD
 | .error _=>pageD
def pageV (s:List UInt8):Adr:=adrOf (readV (pageT s) none)
theorem pageD_ok:isOk (readV pageD none)=true/\webV (adrOf (readV pageD none)).scheme=true:=by decide +kernel
theorem isOk_of {r:Except Int Adr} (h:isOk r=true):r = .ok (adrOf r):=by
 cases r with
 | ok u=>rfl
 | error e=>cases h
theorem page_web (s:List UInt8):readV (pageT s) none = .ok (pageV s)/\webV (pageV s).scheme=true/\(pageT s).length<=300:=by
 unfold pageV pageT
 cases hu:urlV s with
 | error e=>exact ⟨isOk_of pageD_ok.1,pageD_ok.2,(show pageD.length<=300 by decide)⟩
 | ok u=>
   simp only;split
   ·rename_i hw
    have:readV (s.take 300) none = .ok u:=hu;rw [this];exact ⟨rfl,hw,by rw [List.length_take];omega⟩
   ·exact ⟨isOk_of pageD_ok.1,pageD_ok.2,(show pageD.length<=300 by decide)⟩
def PgPost (A:Adr) (w:World) (e:Ending) (w':World):Prop:= ∃ pv,e = .returned (adrVal A pv)/\PathAt w' pv A.path/\Below w.heap.size w w'
structure GuU (u : Adr) : Prop where
 tl:TlOk u
 sz:Sized11 u
theorem inn_fine (u:Adr):Fine (innV u):=by
 unfold innV;split
 ·exact (st_read _).1
 ·exact st_zero.1
theorem own_port12 (s:List UInt8) (h:specV s=true):0<=ownV s/\ownV s<=65535:=by
 have h1:0<=ownV s:=by unfold specV at h;simpa using h
 refine ⟨h1,?_⟩
 unfold ownV
 repeat' split
 all_goals omega
theorem fine_tl {u:Adr} (h:Fine u) (ht:TrOk u):TlOk u:=by
 have ha:Fine (orgA u):=by
  unfold orgA;split
  ·exact inn_fine u
  ·exact h
 refine ⟨ht,⟨h.1,⟨h.2.1.1,by simp [bareU],by simp [bareU],h.2.1.2.2.2⟩,h.2.2.1,h.2.2.2.1,h.2.2.2.2⟩,?_,?_,?_⟩
 ·unfold orgV
  split
  ·exact ha.2.1.1
  ·decide
 ·unfold orgV
  split
  ·exact ha.2.1.2.2.2
  ·decide
 ·unfold orgV
  split
  ·rename_i hs
   intro _;show 0<=hasP (orgA u)/\hasP (orgA u)<=65535;have:=own_port12 _ hs;unfold hasP;split
   ·exact this
   ·rcases ha.1 with h1 | h1
    ·rename_i hn;exact absurd h1 hn
    ·exact h1
  ·intro h;cases h
theorem slim_gu {u:Adr} (h:Slim 20000 u):GuU u:=by
 refine ⟨fine_tl (slim_st h).1 (slim_st h).2,?_⟩;obtain ⟨h1,h2,h3,h4,h5,h6,h7,h8⟩:=h
 have a1:=slL_len u.path;have a2:=slL_flat u.path;refine ⟨by omega,fun x hx=> ?_⟩
 have:x.length<=u.path.flatten.length:=by
  obtain ⟨a,b,e⟩:=List.append_of_mem hx
  rw [e];simp;omega
 omega
theorem gu_zero:GuU Adr.zero:=⟨fine_tl st_zero.1 st_zero.2,by decide,fun x hx=>by cases hx⟩
theorem gu_read (s:List UInt8):GuU (adrOf (readV s none)):=by
 cases hr:readV s none with
 | ok v=>exact slim_gu (parse_slim hr)
 | error e=>exact gu_zero
theorem gu_page (s:List UInt8):GuU (pageV s):=slim_gu (parse_slim (page_web s).1)
theorem GuU.at {w:World} {u:Adr} {pv:Value} (h:GuU u) (hp:PathAt w pv u.path):UrlAt w u pv:=⟨hp,h.tl.tr.1,h.tl.tr.2.1⟩
def SzL (L:List Ru):Prop:=L.length<=1000 /\ ∀ r ∈ L,r.vals.length<=1000000 /\ ∀ x ∈ r.vals,x.length<=1000000
theorem SzL.asked {L:List Ru} (h:SzL L) {C:List (List UInt8)} {x:List (List UInt8)×List UInt8} (hx:askV L C=some x):x.1.length<=1000000 /\ ∀ y ∈ x.1,y.length<=1000000:=by
 induction C with
 | nil=>cases hx
 | cons c C ih=>
   unfold askV at hx
   cases hf:findR L c with
   | none=>rw [hf] at hx;exact ih hx
   | some v=>
     rw [hf] at hx;injection hx with hx
     subst hx;unfold findR at hf;obtain ⟨r,hr,e⟩:=Option.map_eq_some_iff.1 hf
     subst e;exact h.2 r (List.mem_of_find?_eq_some hr)
def brkO (u p:Adr) (hops:Int) (n m:List UInt8):Option (List (List UInt8)×List UInt8)->Option (List UInt8)
 | none=>none
 | some x=>if x.1.any (oneV u p hops)||namedV x.1 n m then none else some x.2
def brkV (L:List Ru) (u p:Adr) (dt hops:Int) (n m:List UInt8):Option (List UInt8):=brkO u p hops n m (valsV L (forV dt))
theorem brkO_some (u p:Adr) (hops:Int) (n m:List UInt8) (xs:List (List UInt8)) (nm:List UInt8) (q:Bool) (h:(xs.any (oneV u p hops)||namedV xs n m)=q):brkO u p hops n m (some (xs,nm))=if q then none else some nm:=by
 show (if (xs.any (oneV u p hops)||namedV xs n m)=true then none else some nm)=_;rw [h]
def brkA (L:List Ru) (a:AskR):Option (List UInt8):=brkV L a.url a.page a.dest a.hops a.nonce.data.toList a.data.data.toList
def BrPost (o:Option (List UInt8)) (w:World) (e:Ending) (w':World):Prop:=e = .returned (.tuple #[.string ⟨(o.getD []).toArray⟩,.bool o.isSome])/\Below w.heap.size w w'
structure AkOk (a : AskR) : Prop where
 gp:GuU a.page
 gu:GuU a.url
 nn:a.nonce.size<=1000000
 mm:a.data.size<=1000000
theorem ask_page_rg {w:World} {b:Nat} {a:AskR} (h:w.heap[b]? = some (.cells (askCells a).toArray 34 (0,0))):w.rangeAt b 0 (adrCells a.page a.pv):=fun j u hu=>by
 refine range_row (cs:=askCells a) h j u ?_;unfold askCells;rw [List.getElem?_append_left (List.getElem?_eq_some_iff.1 hu).1];exact hu
theorem ask_url_rg {w:World} {b:Nat} {a:AskR} (h:w.heap[b]? = some (.cells (askCells a).toArray 34 (0,0))):w.rangeAt b 12 (adrCells a.url a.uv):=fun j u hu=>by
 have h2:=range_row (cs:=askCells a) h (12+j) u (by
  unfold askCells;have e:(adrCells a.page a.pv).length=12:=rfl;rw [List.getElem?_append_right (by omega),e,Nat.add_sub_cancel_left,List.getElem?_append_left (List.getElem?_eq_some_iff.1 hu).1];exact hu)
 rw [Nat.zero_add] at h2;exact h2
theorem ask_last {w:World} {b:Nat} {a:AskR} (h:w.heap[b]? = some (.cells (askCells a).toArray 34 (0,0))):w.cell? ⟨b,24,none⟩=some (.int .i64 a.dest)/\w.cell? ⟨b,25,none⟩=some (.int .i64 a.hops)/\w.cell? ⟨b,26,none⟩=some (.string a.nonce)/\w.cell? ⟨b,27,none⟩=some (.string a.data):=by
 have key: ∀ j u,[(.int .i64 a.dest:Value),.int .i64 a.hops,.string a.nonce,.string a.data][j]? = some u->w.cell? ⟨b,24+j,none⟩=some u:=fun j u hu=>by
  have h2:=range_row (cs:=askCells a) h (24+j) u (by
   unfold askCells;have e:(adrCells a.page a.pv).length=12:=rfl;have e2:(adrCells a.url a.uv).length=12:=rfl;rw [List.getElem?_append_right (by omega),e,List.getElem?_append_right (by omega),e2,show 24+j - 12 - 12=j by omega];exact hu)
  rw [Nat.zero_add] at h2;exact h2
 exact ⟨key 0 _ rfl,key 1 _ rfl,key 2 _ rfl,key 3 _ rfl⟩
theorem sizePo12:(Tryz.prog.info? 39).map (·.size)=some 2:=by kernel_rfl
theorem load_mid_g12 {P:Program} {ops:Array Oper} {rest:List Oper} {op:Oper} {a:Act} {w:World} {Q:Exit->Act->World->Prop} (hw:Region.wanted op (yielded ops a.tmps)=true) (ty:TypeId) (x:Operand) (ho:op.op = .load ty x)
 (b o:Nat) (hx:a.eval x = .pointer (some ⟨b,o,none⟩)) (cs:List Value) (d:TypeDesc) (hc:w.rangeAt b o cs)
 (hu:P.underlying ty=some d) (hd:d.isRow=true) (hi:(P.info? ty).map (·.size)=some cs.length)
 (h:wpList P ops Q rest (a.put op.dst (.agg cs.toArray)) w):wpList P ops Q (op::rest) a w:=
 wpList_step fun K hK=>by
  rw [if_pos hw];exact wp_load_mid ty x ho b o hx cs d hc hu hd hi (hK _ _ h)
theorem breaks12_any (v:Value) (rp:Bool) (L:List Ru) (a:AskR) (w:World) (hg:Gd w) (hv:PoAt w v L) (hz:SzL L) (ha:AskAt w a) (hk:AkOk a):
 Calls Tryz.prog 33 #[.agg #[v,.bool rp],askVal a] w (BrPost (brkA L a) w):=by
 obtain ⟨va,vc,rfl,_,_,_⟩:=hv.view
 obtain ⟨page,pv,url,uv,dt,hp,nn,mm⟩:=a
 obtain ⟨hp1,hp2⟩:=ha
 obtain ⟨kp,ku,kn,km⟩:=hk
 dsimp only at hp1 hp2 kp ku kn km;obtain ⟨pa,pn,pc,rfl⟩:=path_sl hp1
 obtain ⟨ua,un,uc,rfl⟩:=path_sl hp2
 have HV:=hid (fun (F:ByteArray) (Z:World) (hZ:Below w.heap.size w Z)=>values10 (.slice va L.length vc) rp L F Z (hv.kept hZ) hz.1 (fun r hr=>(hz.2 r hr).1));have HF:Hid (∀ Z:World,Calls Tryz.prog 59 #[.int .i64 dt] Z fun e w'=>e = .returned (.string ⟨(forV dt).toArray⟩)/\Below Z.heap.size Z w'):=fun Z=>(for10 dt Z).mono fun e w' h=>⟨h.1,by rw [<- h.2];exact Below.refl _ _⟩
 have HAs:=hid (fun (x:List (List UInt8)×List UInt8) (hx:valsV L (forV dt)=some x)=>hz.asked (C:=chainV (forV dt)) hx);have HAn:=hid (fun (x:List (List UInt8)×List UInt8) (v2:Value) (Z:World) (hZ:Below w.heap.size w Z) (h2:TxAt Z v2 x.1) (h3:x.1.length<=1000000 /\ ∀ y ∈ x.1,y.length<=1000000)=>any11_any v2 x.1 url page (.slice ua un uc) (.slice pa pn pc) hp nn mm Z (hg.kept hZ) (ku.at (hp2.kept hZ)) (kp.at (hp1.kept hZ)) ku.sz h2 h3.1 h3.2 kn km);obtain ⟨N,hN⟩: ∃ N,L.length=N:=⟨_,rfl⟩
 rw [hN] at HV ⊢;obtain ⟨FB,hFB⟩: ∃ B:ByteArray,⟨(forV dt).toArray⟩=B:=⟨_,rfl⟩
 have HV2:=HV.out FB;rw [show FB.data.toList=forV dt by rw [<- hFB]] at HV2;rw [hFB] at HF;obtain ⟨r,hr⟩: ∃ r,valsV L (forV dt)=r:=⟨_,rfl⟩
 rw [hr] at HV2;have HVr:=hid HV2;have HRr:=hid hr;rw [show brkA L ⟨page,.slice pa pn pc,url,.slice ua un uc,dt,hp,nn,mm⟩=brkO url page hp nn.data.toList mm.data.toList r by rw [<- hr];rfl];obtain ⟨p0,p1,p2,p3,p4,p5,p6,p8,p9,p10,p11,hxp⟩:=adr_cells page pa pn pc
 obtain ⟨u0,u1,u2,u3,u4,u5,u6,u8,u9,u10,u11,hxu⟩:=adr_cells url ua un uc
 have hxa:askCells ⟨page,.slice pa pn pc,url,.slice ua un uc,dt,hp,nn,mm⟩=[.string p0,.string p1,.string p2,.string p3,.bool p4,.int .i64 p5,.bool p6,.slice pa pn pc,.string p8,.string p9,.bool p10,.bool p11,.string u0,.string u1,.string u2,.string u3,.bool u4,.int .i64 u5,.bool u6,.slice ua un uc,.string u8,.string u9,.bool u10,.bool u11,.int .i64 dt,.int .i64 hp,.string nn,.string mm]:=by
  unfold askCells;dsimp only;rw [hxp,hxu];rfl
 have hva:askVal ⟨page,.slice pa pn pc,url,.slice ua un uc,dt,hp,nn,mm⟩ = .agg #[.string p0,.string p1,.string p2,.string p3,.bool p4,.int .i64 p5,.bool p6,.slice pa pn pc,.string p8,.string p9,.bool p10,.bool p11,.string u0,.string u1,.string u2,.string u3,.bool u4,.int .i64 u5,.bool u6,.slice ua un uc,.string u8,.string u9,.bool u10,.bool u11,.int .i64 dt,.int .i64 hp,.string nn,.string mm]:=by unfold askVal;rw [hxa]
 have hvp:adrVal page (.slice pa pn pc) = .agg #[.string p0,.string p1,.string p2,.string p3,.bool p4,.int .i64 p5,.bool p6,.slice pa pn pc,.string p8,.string p9,.bool p10,.bool p11]:=by unfold adrVal;rw [hxp]
 have hvu:adrVal url (.slice ua un uc) = .agg #[.string u0,.string u1,.string u2,.string u3,.bool u4,.int .i64 u5,.bool u6,.slice ua un uc,.string u8,.string u9,.bool u10,.bool u11]:=by unfold adrVal;rw [hxu]
 rw [hva];obtain ⟨W1,hW1⟩: ∃ X,(w.alloc (.cells #[.slice va N vc,.bool rp] 39))=X:=⟨_,rfl⟩
 have hb1:Below w.heap.size w W1:=by rw [<- hW1];exact (Below.refl _ w).alloc (Nat.le_refl _) _
 have hs1:W1.heap.size=w.heap.size+1:=by rw [<- hW1];simp
 have hr1:W1.heap[w.heap.size]? = some (.cells ([.slice va N vc,.bool rp]:List Value).toArray 39 (0,0)):=by rw [<- hW1];exact heap_alloc_new w _
 obtain ⟨W2,hW2⟩: ∃ X,(W1.alloc (.cells #[.string p0,.string p1,.string p2,.string p3,.bool p4,.int .i64 p5,.bool p6,.slice pa pn pc,.string p8,.string p9,.bool p10,.bool p11,.string u0,.string u1,.string u2,.string u3,.bool u4,.int .i64 u5,.bool u6,.slice ua un uc,.string u8,.string u9,.bool u10,.bool u11,.int .i64 dt,.int .i64 hp,.string nn,.string mm] 34))=X:=⟨_,rfl⟩
 have hb2:Below W1.heap.size W1 W2:=by rw [<- hW2];exact (Below.refl _ W1).alloc (Nat.le_refl _) _
 have hr2:W2.heap[W1.heap.size]? = some (.cells (askCells ⟨page,.slice pa pn pc,url,.slice ua un uc,dt,hp,nn,mm⟩).toArray 34 (0,0)):=by rw [hxa,<- hW2];exact heap_alloc_new W1 _
 have HB2:=hid (below2 hb1 hb2);have HRp:=hid (fun (Z:World) (hZ:Below W2.heap.size W2 Z)=>range_row (cs:=[.slice va N vc,.bool rp]) (row_kept (row_kept hr1 hb2) hZ));have HKF:=hid (fun (Z:World) (hZ:Below W2.heap.size W2 Z)=>(ask_last (row_kept hr2 hZ)));have HRg:=hid (show ∀ Z,Below W2.heap.size W2 Z->Z.rangeAt W1.heap.size 0 [.string p0,.string p1,.string p2,.string p3,.bool p4,.int .i64 p5,.bool p6,.slice pa pn pc,.string p8,.string p9,.bool p10,.bool p11] from fun Z hZ=>by
  have:=ask_page_rg (row_kept hr2 hZ);dsimp only at this;rw [hxp] at this;exact this)
 have HRu:=hid (show ∀ Z,Below W2.heap.size W2 Z->Z.rangeAt W1.heap.size 12 [.string u0,.string u1,.string u2,.string u3,.bool u4,.int .i64 u5,.bool u6,.slice ua un uc,.string u8,.string u9,.bool u10,.bool u11] from fun Z hZ=>by
  have:=ask_url_rg (row_kept hr2 hZ);dsimp only at this;rw [hxu] at this;exact this)
 rw [hvu,hvp] at HAn
 have HQ0:=hid ((Below.refl W2.heap.size W2).drew);clear HV HV2 hr hp1 hp2 kp ku kn km hxp hxu hxa hva hvp hvu hb1 hs1 hr1 hb2 hr2 hN hFB hg hv hz
 cases r with
 | none=>
   unfold ValPost at HVr;clear HAn HAs
   go_enter Tryz.func33,Tryz.ntmps33
   go_upto_region 1 with fail
   refine wp_region_held_drew (S:=(fun wx=>Below W2.heap.size W2 wx)) (by kernel_rfl) HQ0.out (fun hHeld=> ?_)
   refine wpAnyH_to (fuel':=12) (listed':= #[false,false,false,false,false,false,false,false,false,false,false,false]) rfl rfl ?_;refine wpAnyH_take (i:=0) (oi:=⟨some 10,_,_,_,_,_⟩) rfl (by kernel_rfl) (by kernel_rfl) (by kernel_rfl) (fun _ _ _ h=>h) (yieldsIf_load_mid (by kernel_rfl) 39 (.tmp 2) rfl (w.heap.size) 0 rfl [.slice va N vc,.bool rp] _ (HRp.out) Tryz.underlying39 rfl sizePo12) (by assumption) ?_
   (try simp only [Act.put,List.setIfInBounds_toArray,List.set_cons_zero,List.set_cons_succ])
   refine' wpAnyH_take (i:=1) (oi:=⟨some 11,_,_,_,_,_⟩) (v:=_) rfl (by kernel_rfl) (by kernel_rfl) (by kernel_rfl) (fun _ _ _ h=>h) (Or.inl ⟨by kernel_rfl,?hyga1⟩) (by assumption) ?restga1
   case hyga1=>(intro wx hSw;(try dsimp only at hSw);obtain ⟨f1,f2,f3,f4⟩:=HKF.out _ hSw;go_simp;first | done | with_reducible rfl)
   (try simp only [Act.put,List.setIfInBounds_toArray,List.set_cons_zero,List.set_cons_succ])
   refine' wpAnyH_take (i:=2) (oi:=⟨some 12,_,_,_,_,_⟩) (v:=_) rfl (by kernel_rfl) (by kernel_rfl) (by kernel_rfl) (fun _ _ _ h=>h) (Or.inl ⟨by kernel_rfl,?hyga2⟩) (by assumption) ?restga2
   case hyga2=>(intro wx hSw;(try dsimp only at hSw);obtain ⟨f1,f2,f3,f4⟩:=HKF.out _ hSw;go_simp;first | done | with_reducible rfl)
   (try simp only [Act.put,List.setIfInBounds_toArray,List.set_cons_zero,List.set_cons_succ])
   refine wpAnyH_ready (rs:=[3]) (by kernel_rfl) (by simp) ?_
   refine AllReadyH.cons rfl (fun K9 hK=> ?_) AllReadyH.nil;rw [if_pos (by kernel_rfl)]
   go_simp
   go_wp2_with (go_at_call 59;refine (HF.out _).mono ?_;rintro e w3 ⟨rfl,hba⟩)
   have HQ3:=hid (below2 HQ0.out hba);clear hba;refine hK.out _ _ HQ3.out (fun hHeld2=> ?_);clear hK K9 hHeld
   rename _=>hHeld
   refine wpAnyH_ready (rs:=[4]) (by kernel_rfl) (by simp) ?_
   refine AllReadyH.cons rfl (fun K9 hK=> ?_) AllReadyH.nil;rw [if_pos (by kernel_rfl)]
   go_simp
   go_wp2_with (go_at_call 58;refine (HVr.out _ (below2 HB2.out HQ3.out)).mono ?_;rintro e w4 ⟨rfl,hba⟩)
   have HQ4:=hid (below2 HQ3.out hba);clear hba;refine hK.out _ _ HQ4.out (fun hHeld2=> ?_);clear hK K9 hHeld
   rename _=>hHeld
   refine' wpAnyH_take (i:=5) (oi:=⟨some 9,_,_,_,_,_⟩) (v:=_) rfl (by kernel_rfl) (by kernel_rfl) (by kernel_rfl) (fun _ _ _ h=>h) (Or.inl ⟨by kernel_rfl,?hyga3⟩) (by assumption) ?restga3
   case hyga3=>(intro wx hSw;(try dsimp only at hSw);obtain ⟨f1,f2,f3,f4⟩:=HKF.out _ hSw;go_simp;first | done | with_reducible rfl)
   (try simp only [Act.put,List.setIfInBounds_toArray,List.set_cons_zero,List.set_cons_succ])
   refine' wpAnyH_take (i:=6) (oi:=⟨some 15,_,_,_,_,_⟩) (v:=_) rfl (by kernel_rfl) (by kernel_rfl) (by kernel_rfl) (fun _ _ _ h=>h) (Or.inl ⟨by kernel_rfl,?hyga4⟩) (by assumption) ?restga4
   case hyga4=>(intro wx hSw;(try dsimp only at hSw);obtain ⟨f1,f2,f3,f4⟩:=HKF.out _ hSw;go_simp;first | done | with_reducible rfl)
   (try simp only [Act.put,List.setIfInBounds_toArray,List.set_cons_zero,List.set_cons_succ])
   refine' wpAnyH_take (i:=7) (oi:=⟨some 16,_,_,_,_,_⟩) (v:=_) rfl (by kernel_rfl) (by kernel_rfl) (by kernel_rfl) (fun _ _ _ h=>h) (Or.inl ⟨by kernel_rfl,?hyga5⟩) (by assumption) ?restga5
   case hyga5=>(intro wx hSw;(try dsimp only at hSw);obtain ⟨f1,f2,f3,f4⟩:=HKF.out _ hSw;go_simp;first | done | with_reducible rfl)
   (try simp only [Act.put,List.setIfInBounds_toArray,List.set_cons_zero,List.set_cons_succ])
   refine' wpAnyH_take (i:=8) (oi:=⟨some 17,_,_,_,_,_⟩) (v:=_) rfl (by kernel_rfl) (by kernel_rfl) (by kernel_rfl) (fun _ _ _ h=>h) (Or.inl ⟨by kernel_rfl,?hyga6⟩) (by assumption) ?restga6
   case hyga6=>(intro wx hSw;(try dsimp only at hSw);obtain ⟨f1,f2,f3,f4⟩:=HKF.out _ hSw;go_simp;first | done | with_reducible rfl)
   (try simp only [Act.put,List.setIfInBounds_toArray,List.set_cons_zero,List.set_cons_succ])
   refine' wpAnyH_take (i:=9) (oi:=⟨some 6,_,_,_,_,_⟩) (v:=_) rfl (by kernel_rfl) (by kernel_rfl) (by kernel_rfl) (fun _ _ _ h=>h) (Or.inl ⟨by kernel_rfl,?hyga7⟩) (by assumption) ?restga7
   case hyga7=>(intro wx hSw;(try dsimp only at hSw);obtain ⟨f1,f2,f3,f4⟩:=HKF.out _ hSw;go_simp;first | done | with_reducible rfl)
   (try simp only [Act.put,List.setIfInBounds_toArray,List.set_cons_zero,List.set_cons_succ])
   refine' wpAnyH_take (i:=10) (oi:=⟨some 7,_,_,_,_,_⟩) (v:=_) rfl (by kernel_rfl) (by kernel_rfl) (by kernel_rfl) (fun _ _ _ h=>h) (Or.inl ⟨by kernel_rfl,?hyga8⟩) (by assumption) ?restga8
   case hyga8=>(intro wx hSw;(try dsimp only at hSw);obtain ⟨f1,f2,f3,f4⟩:=HKF.out _ hSw;go_simp;first | done | with_reducible rfl)
   (try simp only [Act.put,List.setIfInBounds_toArray,List.set_cons_zero,List.set_cons_succ])
   refine' wpAnyH_take (i:=11) (oi:=⟨some 8,_,_,_,_,_⟩) (v:=_) rfl (by kernel_rfl) (by kernel_rfl) (by kernel_rfl) (fun _ _ _ h=>h) (Or.inl ⟨by kernel_rfl,?hyga9⟩) (by assumption) ?restga9
   case hyga9=>(intro wx hSw;(try dsimp only at hSw);obtain ⟨f1,f2,f3,f4⟩:=HKF.out _ hSw;go_simp;first | done | with_reducible rfl)
   (try simp only [Act.put,List.setIfInBounds_toArray,List.set_cons_zero,List.set_cons_succ])
   refine wpAnyH_done (by kernel_rfl) ?_ _
   go_wp2
   go_ret2
   exact ⟨rfl,below2 HB2.out HQ4.out⟩
 | some x=>
   have HA3:=hid (HAs.out x HRr.out);obtain ⟨xs,nm⟩:=x
   obtain ⟨NM,hNM⟩: ∃ B:ByteArray,⟨nm.toArray⟩=B:=⟨_,rfl⟩
   have HNM:=hid hNM;obtain ⟨k,hk⟩: ∃ k,xs.length=k:=⟨_,rfl⟩
   have HK:=hid hk;have HVs:=hid (show ∀ (Z:World),Below w.heap.size w Z->Calls Tryz.prog 58 #[.agg #[.slice va N vc,.bool rp],.string FB] Z fun e w'=> ∃ xa xc,e = .returned (.tuple #[.slice xa k xc,.string NM,.bool true])/\TxAt w' (.slice xa k xc) xs/\Below Z.heap.size Z w' from fun Z hZ=>(HVr.out Z hZ).mono fun e w' h=>by
    obtain ⟨u2,rfl,h2,h3⟩:=h
    dsimp only at h2;have h4:=own_txt' h2;obtain ⟨xa,xc,rfl,h5⟩:=h4.view
    rw [hk] at h4 ⊢;exact ⟨xa,xc,by dsimp only;rw [hNM],h4,h3⟩)
   clear HVr;have HVr:=HVs;clear HVs HAs hk hNM;obtain ⟨q,hq⟩: ∃ q,(xs.any (oneV url page hp)||namedV xs nn.data.toList mm.data.toList)=q:=⟨_,rfl⟩
   have HAx:=hid (fun (v2:Value) (Z:World) (hZ:Below w.heap.size w Z) (h2:TxAt Z v2 xs)=>HAn.out (xs,nm) v2 Z hZ h2 HA3.out);dsimp only at HAx;rw [hq] at HAx;rw [brkO_some _ _ _ _ _ _ _ q hq];obtain ⟨RO,hRO⟩: ∃ O,(if q=true then none else some nm)=O:=⟨_,rfl⟩
   rw [hRO];have HRO:=hid hRO;clear HAn hq hRO
   go_enter Tryz.func33,Tryz.ntmps33
   go_upto_region 1 with fail
   refine wp_region_held_drew (S:=(fun wx=>Below W2.heap.size W2 wx)) (by kernel_rfl) HQ0.out (fun hHeld=> ?_)
   refine wpAnyH_to (fuel':=12) (listed':= #[false,false,false,false,false,false,false,false,false,false,false,false]) rfl rfl ?_;refine wpAnyH_take (i:=0) (oi:=⟨some 10,_,_,_,_,_⟩) rfl (by kernel_rfl) (by kernel_rfl) (by kernel_rfl) (fun _ _ _ h=>h) (yieldsIf_load_mid (by kernel_rfl) 39 (.tmp 2) rfl (w.heap.size) 0 rfl [.slice va N vc,.bool rp] _ (HRp.out) Tryz.underlying39 rfl sizePo12) (by assumption) ?_
   (try simp only [Act.put,List.setIfInBounds_toArray,List.set_cons_zero,List.set_cons_succ])
   refine' wpAnyH_take (i:=1) (oi:=⟨some 11,_,_,_,_,_⟩) (v:=_) rfl (by kernel_rfl) (by kernel_rfl) (by kernel_rfl) (fun _ _ _ h=>h) (Or.inl ⟨by kernel_rfl,?hygb1⟩) (by assumption) ?restgb1
   case hygb1=>(intro wx hSw;(try dsimp only at hSw);obtain ⟨f1,f2,f3,f4⟩:=HKF.out _ hSw;go_simp;first | done | with_reducible rfl)
   (try simp only [Act.put,List.setIfInBounds_toArray,List.set_cons_zero,List.set_cons_succ])
   refine' wpAnyH_take (i:=2) (oi:=⟨some 12,_,_,_,_,_⟩) (v:=_) rfl (by kernel_rfl) (by kernel_rfl) (by kernel_rfl) (fun _ _ _ h=>h) (Or.inl ⟨by kernel_rfl,?hygb2⟩) (by assumption) ?restgb2
   case hygb2=>(intro wx hSw;(try dsimp only at hSw);obtain ⟨f1,f2,f3,f4⟩:=HKF.out _ hSw;go_simp;first | done | with_reducible rfl)
   (try simp only [Act.put,List.setIfInBounds_toArray,List.set_cons_zero,List.set_cons_succ])
   refine wpAnyH_ready (rs:=[3]) (by kernel_rfl) (by simp) ?_
   refine AllReadyH.cons rfl (fun K9 hK=> ?_) AllReadyH.nil;rw [if_pos (by kernel_rfl)]
   go_simp
   go_wp2_with (go_at_call 59;refine (HF.out _).mono ?_;rintro e w3 ⟨rfl,hba⟩)
   have HQ3:=hid (below2 HQ0.out hba);clear hba;refine hK.out _ _ HQ3.out (fun hHeld2=> ?_);clear hK K9 hHeld
   rename _=>hHeld
   refine wpAnyH_ready (rs:=[4]) (by kernel_rfl) (by simp) ?_
   refine AllReadyH.cons rfl (fun K9 hK=> ?_) AllReadyH.nil;rw [if_pos (by kernel_rfl)]
   go_simp
   go_wp2_with (go_at_call 58;refine (HVr.out _ (below2 HB2.out HQ3.out)).mono ?_;rintro e w4 ⟨xa,xc,rfl,htx,hba⟩)
   have HQ4:=hid (below2 HQ3.out hba);have HTx:=hid htx;clear htx;clear hba;refine hK.out _ _ HQ4.out (fun hHeld2=> ?_);clear hK K9 hHeld
   rename _=>hHeld
   refine' wpAnyH_take (i:=5) (oi:=⟨some 9,_,_,_,_,_⟩) (v:=_) rfl (by kernel_rfl) (by kernel_rfl) (by kernel_rfl) (fun _ _ _ h=>h) (Or.inl ⟨by kernel_rfl,?hygb3⟩) (by assumption) ?restgb3
   case hygb3=>(intro wx hSw;(try dsimp only at hSw);obtain ⟨f1,f2,f3,f4⟩:=HKF.out _ hSw;go_simp;first | done | with_reducible rfl)
   (try simp only [Act.put,List.setIfInBounds_toArray,List.set_cons_zero,List.set_cons_succ])
   refine' wpAnyH_take (i:=6) (oi:=⟨some 15,_,_,_,_,_⟩) (v:=_) rfl (by kernel_rfl) (by kernel_rfl) (by kernel_rfl) (fun _ _ _ h=>h) (Or.inl ⟨by kernel_rfl,?hygb4⟩) (by assumption) ?restgb4
   case hygb4=>(intro wx hSw;(try dsimp only at hSw);obtain ⟨f1,f2,f3,f4⟩:=HKF.out _ hSw;go_simp;first | done | with_reducible rfl)
   (try simp only [Act.put,List.setIfInBounds_toArray,List.set_cons_zero,List.set_cons_succ])
   refine' wpAnyH_take (i:=7) (oi:=⟨some 16,_,_,_,_,_⟩) (v:=_) rfl (by kernel_rfl) (by kernel_rfl) (by kernel_rfl) (fun _ _ _ h=>h) (Or.inl ⟨by kernel_rfl,?hygb5⟩) (by assumption) ?restgb5
   case hygb5=>(intro wx hSw;(try dsimp only at hSw);obtain ⟨f1,f2,f3,f4⟩:=HKF.out _ hSw;go_simp;first | done | with_reducible rfl)
   (try simp only [Act.put,List.setIfInBounds_toArray,List.set_cons_zero,List.set_cons_succ])
   refine' wpAnyH_take (i:=8) (oi:=⟨some 17,_,_,_,_,_⟩) (v:=_) rfl (by kernel_rfl) (by kernel_rfl) (by kernel_rfl) (fun _ _ _ h=>h) (Or.inl ⟨by kernel_rfl,?hygb6⟩) (by assumption) ?restgb6
   case hygb6=>(intro wx hSw;(try dsimp only at hSw);obtain ⟨f1,f2,f3,f4⟩:=HKF.out _ hSw;go_simp;first | done | with_reducible rfl)
   (try simp only [Act.put,List.setIfInBounds_toArray,List.set_cons_zero,List.set_cons_succ])
   refine' wpAnyH_take (i:=9) (oi:=⟨some 6,_,_,_,_,_⟩) (v:=_) rfl (by kernel_rfl) (by kernel_rfl) (by kernel_rfl) (fun _ _ _ h=>h) (Or.inl ⟨by kernel_rfl,?hygb7⟩) (by assumption) ?restgb7
   case hygb7=>(intro wx hSw;(try dsimp only at hSw);obtain ⟨f1,f2,f3,f4⟩:=HKF.out _ hSw;go_simp;first | done | with_reducible rfl)
   (try simp only [Act.put,List.setIfInBounds_toArray,List.set_cons_zero,List.set_cons_succ])
   refine' wpAnyH_take (i:=10) (oi:=⟨some 7,_,_,_,_,_⟩) (v:=_) rfl (by kernel_rfl) (by kernel_rfl) (by kernel_rfl) (fun _ _ _ h=>h) (Or.inl ⟨by kernel_rfl,?hygb8⟩) (by assumption) ?restgb8
   case hygb8=>(intro wx hSw;(try dsimp only at hSw);obtain ⟨f1,f2,f3,f4⟩:=HKF.out _ hSw;go_simp;first | done | with_reducible rfl)
   (try simp only [Act.put,List.setIfInBounds_toArray,List.set_cons_zero,List.set_cons_succ])
   refine' wpAnyH_take (i:=11) (oi:=⟨some 8,_,_,_,_,_⟩) (v:=_) rfl (by kernel_rfl) (by kernel_rfl) (by kernel_rfl) (fun _ _ _ h=>h) (Or.inl ⟨by kernel_rfl,?hygb9⟩) (by assumption) ?restgb9
   case hygb9=>(intro wx hSw;(try dsimp only at hSw);obtain ⟨f1,f2,f3,f4⟩:=HKF.out _ hSw;go_simp;first | done | with_reducible rfl)
   (try simp only [Act.put,List.setIfInBounds_toArray,List.set_cons_zero,List.set_cons_succ])
   refine wpAnyH_done (by kernel_rfl) ?_ _
   obtain ⟨f24,f25,f26,f27⟩:=HKF.out _ HQ4.out
   have HRg2:=hid (HRg.out _ HQ4.out);have HRu2:=hid (HRu.out _ HQ4.out)
   go_wp2_with (first | (refine load_mid_g12 (by kernel_rfl) 24 (.tmp 22) rfl W1.heap.size 12 rfl [.string u0,.string u1,.string u2,.string u3,.bool u4,.int .i64 u5,.bool u6,.slice ua un uc,.string u8,.string u9,.bool u10,.bool u11] _ HRu2.out Tryz.underlying24 rfl sizeU ?_) | (refine load_mid_g12 (by kernel_rfl) 24 (.tmp 24) rfl W1.heap.size 0 rfl [.string p0,.string p1,.string p2,.string p3,.bool p4,.int .i64 p5,.bool p6,.slice pa pn pc,.string p8,.string p9,.bool p10,.bool p11] _ HRg2.out Tryz.underlying24 rfl sizeU ?_))
   refine (HAx.out _ _ (below2 HB2.out HQ4.out) HTx.out).mono ?_;rintro e w5 ⟨rfl,hb5⟩
   have HB5:=hid (below2 HB2.out (below2 HQ4.out hb5));clear hb5
   cases q with
   | true=>
     go_wp2
     go_ret2
     exact ⟨by rw [<- HRO.out];rfl,HB5.out⟩
   | false=>
     go_wp2
     go_ret2
     exact ⟨by rw [<- HRO.out,<- HNM.out];rfl,HB5.out⟩
end Go.Proofs.YtijpkalkfbejeaaGreatDoor
