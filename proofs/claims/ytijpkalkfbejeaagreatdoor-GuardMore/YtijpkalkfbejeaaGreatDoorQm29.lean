/- Walks and plain facts. -/
import Derived.Test.YtijpkalkfbejeaaGreatDoorQm28
set_option linter.unusedSimpArgs false
set_option linter.unusedVariables false
set_option maxHeartbeats 16000000
set_option maxRecDepth 100000

namespace Go.Proofs.YtijpkalkfbejeaaGreatDoor
open Go.RowKit
theorem hostM_empty {n h:List UInt8} (e:h=[]):hostM n h=false:=by unfold hostM;rw [if_pos (.inl e),e];rfl
theorem hostM_any {n h:List UInt8} (e:h≠[]) (e2:n=[42]):hostM n h=true:=by unfold hostM;rw [if_pos (.inr e2)];simp [e]
theorem hostM_below {n h:List UInt8} (e:h≠[]) (e2:n≠[42]) (e3:Lib.hasPrefix n [42,46]=true) (e4:n≠[42,46]):hostM n h=(Lib.hasSuffix h (n.drop 1)&&decide ((n.drop 1).length<h.length)):=by
 unfold hostM;rw [if_neg (by simp [e,e2]),e3];simp [e4]
theorem hostM_same {n h:List UInt8} (e:h≠[]) (e2:n≠[42]) (e3:Lib.hasPrefix n [42,46]=false∨n=[42,46]):hostM n h=(n==h):=by
 unfold hostM;rw [if_neg (by simp [e,e2]),if_neg];rcases e3 with e3 | e3
 ·rw [e3];simp
 ·rw [e3];decide
theorem hostMeans_any (n h:ByteArray) (w:World) (hn:n.size<=4000000000) (hh:h.size<=4000000000):
 Calls Tryz.prog 129 #[.string n,.string h] w fun e w'=>e = .returned (.bool (hostM n.data.toList h.data.toList))/\w=w':=by
 have HP:Hid (∀ w:World,Calls Tryz.prog 122 #[.string n,.string ⟨#[42,46]⟩] w fun e w'=>e = .returned (.bool (Lib.hasPrefix n.data.toList [42,46]))/\w'=w):=fun w=>Tryz.strings_HasPrefix n ⟨#[42,46]⟩ w
 by_cases h0:h.data.toList=[]
 ·have HN:=hid (hostM_empty (n:=n.data.toList) h0)
  have he:=empty_yes h h0;clear h0
  go_enter Tryz.func129,Tryz.ntmps129
  go_wp2
  go_ret
  rw [HN.out];exact ⟨rfl,rfl⟩
 ·have he:=empty_no h h0
  by_cases h1:n.data.toList=[42]
  ·have HN:=hid (hostM_any h0 h1)
   have e1:=beq_yes n [42] h1;clear h0 h1
   go_enter Tryz.func129,Tryz.ntmps129
   go_wp2
   go_ret
   rw [HN.out];exact ⟨rfl,rfl⟩
  ·have e1:=beq_no n [42] h1
   by_cases h2:n.data.toList=[42,46]
   ·have HN:=hid (hostM_same h0 h1 (.inr h2))
    have e2:=beq_yes n [42,46] h2
    have HPt:=hid (show Lib.hasPrefix n.data.toList [42,46]=true by rw [h2];rfl);obtain ⟨q,hq⟩: ∃ q,(n.toList==h.toList)=q:=⟨_,rfl⟩
    have HQ:=hid (show (n.data.toList==h.data.toList)=q by rw [<- hq,Lib.toList_data,Lib.toList_data]);clear h0 h1 h2
    go_enter Tryz.func129,Tryz.ntmps129
    go_wp2_with (go_at_call 122;refine (HP.out _).mono ?_;rintro e w1 ⟨rfl,hw⟩;rw [hw,HPt.out];clear hw)
    go_ret
    rw [HN.out,HQ.out];exact ⟨rfl,rfl⟩
   ·have e2:=beq_no n [42,46] h2
    cases hp:Lib.hasPrefix n.data.toList [42,46] with
    | false=>
      have HN:=hid (hostM_same h0 h1 (.inl hp));have HPt:=hid hp;obtain ⟨q,hq⟩: ∃ q,(n.toList==h.toList)=q:=⟨_,rfl⟩
      have HQ:=hid (show (n.data.toList==h.data.toList)=q by rw [<- hq,Lib.toList_data,Lib.toList_data]);clear h0 h1 h2 hp
      go_enter Tryz.func129,Tryz.ntmps129
      go_wp2_with (go_at_call 122;refine (HP.out _).mono ?_;rintro e w1 ⟨rfl,hw⟩;rw [hw,HPt.out];clear hw)
      go_ret
      rw [HN.out,HQ.out];exact ⟨rfl,rfl⟩
    | true=>
      have HN:=hid (hostM_below h0 h1 hp h2);have HPt:=hid hp;have hn1:1<=n.size:=by
       rw [Lib.size_eq]
       cases hx:n.data.toList with
       | nil=>rw [hx] at hp;exact absurd hp (by decide)
       | cons c r=>simp
      have hn1':(1:Int)<=(n.size:Int):=by omega
      obtain ⟨E,hE⟩: ∃ E:ByteArray,n.extract 1 n.size=E:=⟨_,rfl⟩
      have hEl:E.data.toList=n.data.toList.drop 1:=by rw [<- hE,extract_drop]
      have HS:=hid (fun w=>Tryz.strings_HasSuffix h E w (by omega));obtain ⟨q,hq⟩: ∃ q,Lib.hasSuffix h.data.toList E.data.toList=q:=⟨_,rfl⟩
      rw [hq] at HS;obtain ⟨d,hd⟩: ∃ d,decide (E.size<h.size)=d:=⟨_,rfl⟩
      have HV:=hid (show hostM n.data.toList h.data.toList=(q&&d) by
       rw [HN.out,<- hEl,hq,<- hd]
       rfl)
      clear h0 h1 h2 hp HN hEl hq
      cases q with
      | false=>
        go_enter Tryz.func129,Tryz.ntmps129
        go_wp2_with (first | (go_at_call 122;refine (HP.out _).mono ?_;rintro e w1 ⟨rfl,hw⟩;rw [hw,HPt.out];clear hw) | (go_at_call 135;refine (HS.out _).mono ?_;rintro e w1 ⟨rfl,hw⟩;rw [hw];clear hw))
        go_ret
        rw [HV.out];exact ⟨rfl,rfl⟩
      | true=>
        go_enter Tryz.func129,Tryz.ntmps129
        go_wp2_with (first | (go_at_call 122;refine (HP.out _).mono ?_;rintro e w1 ⟨rfl,hw⟩;rw [hw,HPt.out];clear hw) | (go_at_call 135;refine (HS.out _).mono ?_;rintro e w1 ⟨rfl,hw⟩;rw [hw];clear hw))
        go_ret
        rw [HV.out];exact ⟨rfl,rfl⟩
theorem scutScheme_any (s:ByteArray) (w:World) (hg:Gd w) (hs:s.size<=4000000000):
 Calls Tryz.prog 124 #[.string s] w fun e w'=>e = .returned (.tuple #[.string ⟨((schemeV s.data.toList).getD ([],[])).1.toArray⟩,.string ⟨((schemeV s.data.toList).getD ([],[])).2.toArray⟩,.bool (schemeV s.data.toList).isSome])/\Below w.heap.size w w':=by
 have HG:=hid hg;clear hg;have hl:=part_le 58 s.data.toList;obtain ⟨A,hA⟩: ∃ A:ByteArray,A=⟨(part 58 s.data.toList).1.toArray⟩:=⟨_,rfl⟩
 obtain ⟨R,hR⟩: ∃ R:ByteArray,R=⟨(part 58 s.data.toList).2.1.toArray⟩:=⟨_,rfl⟩
 obtain ⟨ok,hok⟩: ∃ ok,ok=(part 58 s.data.toList).2.2:=⟨_,rfl⟩
 have hAl:A.data.toList=(part 58 s.data.toList).1:=by rw [hA]
 have hRl:R.data.toList=(part 58 s.data.toList).2.1:=by rw [hR]
 have hAs:A.size<=4000000000:=by rw [hA];exact size_le hl.1 hs
 have HCut:Hid (∀ w:World,Gd w->Calls Tryz.prog 19 #[.string s,.string ⟨#[58]⟩] w fun e w'=>e = .returned (.tuple #[.string A,.string R,.bool ok])/\Below w.heap.size w w'):=fun w hg=>by
  have:=cut_any s ⟨#[58]⟩ w hg hs;rw [show (⟨#[58]⟩:ByteArray).data.toList=[58] from rfl,cut_part,<- hA,<- hR,<- hok] at this;exact this
 have HNo:Hid ((ok&&schOk A.data.toList)=false->schemeV s.data.toList=none):=fun h=>by unfold schemeV;rw [<- hAl,<- hok,h];rfl
 have HYes:Hid ((ok&&schOk A.data.toList)=true->schemeV s.data.toList=some (low A.data.toList,R.data.toList)):=fun h=>by
  unfold schemeV;rw [<- hAl,<- hok,h,<- hRl];rfl
 clear hA hR hok hl hAl hRl;have HLo:=hid (fun w=>lower_any A w (by omega))
 cases hok2:ok with
 | false=>
   subst hok2;have HN:=hid (HNo.out rfl)
   go_enter Tryz.func124,Tryz.ntmps124
   go_wp2_with (go_at_call 19;refine (HCut.out _ HG.out).mono ?_;rintro e w1 ⟨rfl,hb1⟩)
   go_ret3
   rw [HN.out];exact ⟨rfl,hb1⟩
 | true=>
   subst hok2;by_cases h0:A.data.toList=[]
   ·have HN:=hid (HNo.out (by rw [h0];rfl))
    have he:=empty_yes A h0;clear h0
    go_enter Tryz.func124,Tryz.ntmps124
    go_wp2_with (go_at_call 19;refine (HCut.out _ HG.out).mono ?_;rintro e w1 ⟨rfl,hb1⟩)
    go_ret3
    rw [HN.out];exact ⟨rfl,hb1⟩
   ·have he:=empty_no A h0
    have hA0:0<A.size:=by
     rw [Lib.size_eq];exact List.length_pos_iff.2 h0
    have hA0':(0:Int)<(A.size:Int):=by omega
    clear h0;by_cases h1:letterI A[0].toNat=true
    ·have H1:=hid h1
     go_enter Tryz.func124,Tryz.ntmps124
     go_wp2_with (first | (go_at_call 19;refine (HCut.out _ HG.out).mono ?_;rintro e w1 ⟨rfl,hb1⟩) | (go_at_call 164;refine (sletter_any _ _).mono ?_;rintro e w' ⟨rfl,rfl⟩;rw [H1.out]))
     have HB1:=hid hb1;clear h1 hb1
     go_loop [29] (fun i=> ∃ k:Nat,k<=A.size/\i = .int .i64 k/\(A.data.toList.take k).all schC=true) (fun i=>A.size - (intOf i).toNat)
     case atStart=>exact ⟨0,Nat.zero_le _,rfl,rfl⟩
     case round=>
      obtain ⟨k,hk,rfl,hall⟩:=hrel
      have HA:=hid hall;clear hall;by_cases hlt:k<A.size
      ·have HT:=hid (take_snoc A k hlt)
       cases hb:schC A[k] with
       | true=>
         have HB:=hid hb;have HSB:=hid (show schI (A[k].toNat:Int)=true by rw [schI_C];exact hb);clear hb
         go_wp2_with (go_at_call 165;refine (schemeByte_any _ _).mono ?_;rintro e w' ⟨rfl,rfl⟩;rw [HSB.out])
         go_round
         case rel=>exact ⟨k+1,by omega,by go_num,by rw [HT.out,List.all_append,HA.out];simp [HB.out]⟩
         case measure=>simp [intOf];omega
       | false=>
         have HN:=hid (HNo.out (by rw [schOk_bad A k hlt hb,Bool.and_false]));have HSB:=hid (show schI (A[k].toNat:Int)=false by rw [schI_C];exact hb);clear hb
         go_wp2_with (go_at_call 165;refine (schemeByte_any _ _).mono ?_;rintro e w' ⟨rfl,rfl⟩;rw [HSB.out])
         go_ret3
         rw [HN.out];exact ⟨rfl,HB1.out⟩
      ·have HY:=hid (HYes.out (by
        have:=HA.out;rw [take_all A k hlt] at this;rw [schOk_all A hA0 H1.out this];rfl))
       go_wp2_with (go_at_call 37;refine (HLo.out _).mono ?_;rintro e w' ⟨rfl,hb2⟩)
       go_ret3
       rw [HY.out];exact ⟨rfl,by first | exact below2 HB1.out hb2 | (subst hb2;exact HB1.out) | exact HB1.out⟩
    ·have h1':letterI A[0].toNat=false:=by simpa using h1
     have HN:=hid (HNo.out (by rw [schOk_head A hA0 h1',Bool.and_false]));have H1:=hid h1';clear h1 h1'
     go_enter Tryz.func124,Tryz.ntmps124
     go_wp2_with (first | (go_at_call 19;refine (HCut.out _ HG.out).mono ?_;rintro e w1 ⟨rfl,hb1⟩) | (go_at_call 164;refine (sletter_any _ _).mono ?_;rintro e w' ⟨rfl,rfl⟩;rw [H1.out]))
     go_ret3
     rw [HN.out];exact ⟨rfl,hb1⟩
theorem portM_empty {t:List UInt8} {u:Adr} (h:t=[]):portM t u=(u.port == -1):=by unfold portM;rw [if_pos h]
theorem portM_star {t:List UInt8} {u:Adr} (h:t=[58,42]):portM t u=true:=by unfold portM;rw [if_neg (by rw [h];simp),if_pos h]
theorem portM_num {t:List UInt8} {u:Adr} {P n:Int} {ok c4 sH sW e1 e2:Bool} (h0:t≠[]) (h1:t≠[58,42]) (hP:hasP u=P) (hok:intOk (t.drop 1)=ok) (hn:intV (t.drop 1)=n) (h4:(P==443)=c4) (hH:(u.scheme==sHttps)=sH) (hW:(u.scheme==sWss)=sW) (he1:(n==P)=e1) (he2:(n==80)=e2):
 portM t u=(ok&&(e1||(e2&&(c4&&(sH||sW))))):=by
 unfold portM saferM;rw [if_neg h0,if_neg h1,hP,hok,hn,h4,hH,hW,he1,he2]
theorem portMeans_any (t:ByteArray) (u:Adr) (pv:Value) (w:World) (ht:t.size<=4000000000) (hsl:IsSl pv):
 Calls Tryz.prog 131 #[.string t,adrVal u pv] w fun e w'=>e = .returned (.bool (portM t.data.toList u))/\Below w.heap.size w w':=by
 have HBx:=hid (show Below w.heap.size w (w.alloc (.cells (adrCells u pv).toArray 24)) from (Below.refl _ w).alloc (Nat.le_refl _) _);obtain ⟨a0,n0,c0,rfl⟩:=hsl
 obtain ⟨PO,hPO⟩: ∃ p,u.port=p:=⟨_,rfl⟩
 obtain ⟨SC,hSC⟩: ∃ X:ByteArray,X=⟨u.scheme.toArray⟩:=⟨_,rfl⟩
 have hSl:SC.data.toList=u.scheme:=by rw [hSC]
 obtain ⟨s1,s2,s3,b4,b6,s8,s9,b10,b11,hx⟩: ∃ s1 s2 s3 b4 b6 s8 s9 b10 b11,adrCells u (.slice a0 n0 c0)=[.string SC,.string s1,.string s2,.string s3,.bool b4,.int .i64 PO,.bool b6,.slice a0 n0 c0,.string s8,.string s9,.bool b10,.bool b11]:=⟨_,_,_,_,_,_,_,_,_,by rw [hSC,<- hPO];rfl⟩
 unfold adrVal;rw [hx] at HBx ⊢;clear hx hSC;by_cases h0:t.data.toList=[]
 ·have HN:=hid (portM_empty (u:=u) h0)
  have he:=empty_yes t h0;rw [hPO] at HN;clear h0 hPO hSl
  go_enter Tryz.func131,Tryz.ntmps131
  go_wp2
  go_ret
  rw [HN.out];exact ⟨rfl,HBx.out⟩
 ·have he:=empty_no t h0
  by_cases h1:t.data.toList=[58,42]
  ·have HN:=hid (portM_star (u:=u) h1)
   have e1:=beq_yes t [58,42] h1
   clear h0 h1 hPO hSl
   go_enter Tryz.func131,Tryz.ntmps131
   go_wp2
   go_ret
   rw [HN.out];exact ⟨rfl,HBx.out⟩
  ·have e1:=beq_no t [58,42] h1
   have hn1:1<=t.size:=by
    rw [Lib.size_eq];exact List.length_pos_iff.2 h0
   have hn1':(1:Int)<=(t.size:Int):=by omega
   obtain ⟨E,hE⟩: ∃ E:ByteArray,t.extract 1 t.size=E:=⟨_,rfl⟩
   have hEl:E.data.toList=t.data.toList.drop 1:=by rw [<- hE,extract_drop]
   have hEs:E.size<=4000000000:=by rw [Lib.size_eq,hEl,List.length_drop,<- Lib.size_eq];omega
   have HI:=hid (fun w=>int_any E w (by omega));obtain ⟨ok,hok⟩: ∃ b,intOk E.data.toList=b:=⟨_,rfl⟩
   obtain ⟨n,hn⟩: ∃ b,intV E.data.toList=b:=⟨_,rfl⟩
   rw [hok,hn] at HI
   rw [hEl] at hok hn;obtain ⟨P,hP⟩: ∃ p,hasP u=p:=⟨_,rfl⟩
   obtain ⟨c4,h4⟩: ∃ b,(P==443)=b:=⟨_,rfl⟩
   obtain ⟨sH,hH⟩: ∃ b,(SC.toList==[104,116,116,112,115])=b:=⟨_,rfl⟩
   obtain ⟨sW,hW⟩: ∃ b,(SC.toList==[119,115,115])=b:=⟨_,rfl⟩
   obtain ⟨q1,hq1⟩: ∃ b,(n==P)=b:=⟨_,rfl⟩
   obtain ⟨q2,hq2⟩: ∃ b,(n==80)=b:=⟨_,rfl⟩
   have HN:=hid (portM_num h0 h1 hP hok hn h4 (sH:=sH) (sW:=sW) (by rw [<- hH,<- hSl,Lib.toList_data];rfl) (by rw [<- hW,<- hSl,Lib.toList_data];rfl) hq1 hq2);have HO:=hid (fun w=>own_any SC w);have hPc:(PO = -1/\ownV SC.data.toList=P)∨(PO ≠ -1/\PO=P):=by
    unfold hasP at hP;rw [hPO] at hP;by_cases h:PO = -1
    ·rw [if_pos h] at hP;exact .inl ⟨h,by rw [hSl];exact hP⟩
    ·rw [if_neg h] at hP;exact .inr ⟨h,hP⟩
   clear h0 h1 hPO hSl hP hEl hok hn;rcases hPc with ⟨rfl,how⟩ | ⟨hne,rfl⟩
   ·rw [how] at HO
    clear how
    cases ok<;>cases q1<;>cases q2<;>cases c4<;>cases sH<;>
    ·go_enter Tryz.func131,Tryz.ntmps131
     go_wp2_with (first | (go_at_call 168;refine (HI.out _).mono ?_;rintro e w1 ⟨rfl,hw⟩;rw [<- hw];clear hw) | (go_at_call 70;refine (HO.out _).mono ?_;rintro e w1 ⟨rfl,hw⟩;rw [<- hw];clear hw))
     go_ret
     rw [HN.out];exact ⟨ret_bool (by simp),HBx.out⟩
   ·have hnb:(PO == -1)=false:=beq_eq_false_iff_ne.2 hne
    clear hne
    cases ok<;>cases q1<;>cases q2<;>cases c4<;>cases sH<;>
    ·go_enter Tryz.func131,Tryz.ntmps131
     go_wp2_with (first | (go_at_call 168;refine (HI.out _).mono ?_;rintro e w1 ⟨rfl,hw⟩;rw [<- hw];clear hw) | (go_at_call 70;refine (HO.out _).mono ?_;rintro e w1 ⟨rfl,hw⟩;rw [<- hw];clear hw))
     go_ret
     rw [HN.out];exact ⟨ret_bool (by simp),HBx.out⟩
def Rdr11 (w:World) (v:Value) (q:List UInt8->Bool):Prop:=
 ∃ (f:Nat) (lb:Array Value),v = .func (.func f) #[] lb/\(∀ args w,(callFunc f args).run Tryz.prog w = .ok (.enter f args) w) /\ ∀ (X:World) (s:ByteArray),Below w.heap.size w X->s.size<=4000000000->Calls Tryz.prog f (#[.string s]++lb) X fun e w'=>e = .returned (.bool (q s.data.toList))/\Below X.heap.size X w'
theorem Rdr11.kept {w w':World} {v:Value} {q:List UInt8->Bool} (h:Rdr11 w v q) (hb:Below w.heap.size w w'):Rdr11 w' v q:=by
 obtain ⟨f,lb,h1,h2,h3⟩:=h
 exact ⟨f,lb,h1,h2,fun X s hX hs=>h3 X s (below2 hb hX) hs⟩
theorem keptC {w w':World} {a:Addr} {v:Value} (h:w.cell? a=some v) (hb:Below w.heap.size w w'):w'.cell? a=some v:=(hb.cell (World.block_lt_of_cell? w _ h)).trans h
theorem portC_any (u:Adr) (pv:Value) (hsl:IsSl pv) (cu cn:Nat) (nv:Value) (q:List UInt8->Bool) (s:ByteArray) (w:World) (hA:AdrIn w cu u pv) (hn:w.cell? ⟨cn,0,none⟩=some nv) (hr:Rdr11 w nv q) (hs:s.size<=4000000000):
 Calls Tryz.prog 130 #[.string s,.pointer (some ⟨cu,0,none⟩),.pointer (some ⟨cn,0,none⟩)] w fun e w'=>e = .returned (.bool (portR u q s.data.toList))/\Below w.heap.size w w':=by
 obtain ⟨f,lb,rfl,eg,hc⟩:=hr
 obtain ⟨A,hAe⟩: ∃ A:ByteArray,A=⟨(aheadV [47] s.data.toList).1.toArray⟩:=⟨_,rfl⟩
 obtain ⟨R,hRe⟩: ∃ A:ByteArray,A=⟨(aheadV [47] s.data.toList).2.toArray⟩:=⟨_,rfl⟩
 have hle:=ahead_le [47] s.data.toList;have hAl:A.data.toList=(aheadV [47] s.data.toList).1:=by rw [hAe]
 have hRl:R.data.toList=(aheadV [47] s.data.toList).2:=by rw [hRe]
 have hAs:A.size<=4000000000:=by rw [hAe];exact size_le hle.1 hs
 have hRs:R.size<=4000000000:=by rw [hRe];exact size_le hle.2 hs
 have HCut:=hid (fun w=>scut1_any s w hs);rw [<- hAe,<- hRe] at HCut;have HPo:=hid (fun w=>portMeans_any A u pv w hAs hsl);have HV:=hid (show portR u q s.data.toList=(portM A.data.toList u&&q R.data.toList) by unfold portR;rw [hAl,hRl]);obtain ⟨p,hpq⟩: ∃ p,portM A.data.toList u=p:=⟨_,rfl⟩
 rw [hpq] at HV HPo;have HN:=hid hn;have HA:=hid hA;have HC:=hid (fun (X:World) (hX:Below w.heap.size w X)=>hc X R hX hRs);obtain ⟨a0,n0,c0,rfl⟩:=hsl
 obtain ⟨u0,u1,u2,u3,u4,u5,u6,u8,u9,u10,u11,hx⟩: ∃ u0 u1 u2 u3 u4 u5 u6 u8 u9 u10 u11,adrCells u (.slice a0 n0 c0)=[.string u0,.string u1,.string u2,.string u3,.bool u4,.int .i64 u5,.bool u6,.slice a0 n0 c0,.string u8,.string u9,.bool u10,.bool u11]:=⟨_,_,_,_,_,_,_,_,_,_,_,rfl⟩
 have hva:adrVal u (.slice a0 n0 c0) = .agg #[.string u0,.string u1,.string u2,.string u3,.bool u4,.int .i64 u5,.bool u6,.slice a0 n0 c0,.string u8,.string u9,.bool u10,.bool u11]:=by unfold adrVal;rw [hx]
 rw [hva] at HPo;have HX:=hid hx;clear hn hA hc hle hAe hRe hAl hRl hAs hpq hva hx
 go_enter Tryz.func130,Tryz.ntmps130
 go_wp2_with fail
 refine (HCut.out _).mono ?_;rintro e w1 ⟨rfl,hb1⟩
 have hfl: ∀ j v,(adrCells u (.slice a0 n0 c0))[j]? = some v->w1.cell? ⟨cu,j,none⟩=some v:=fun j v h=>(HA.out.kept hb1).cell j v h
 rw [HX.out] at hfl;have y0:=hfl 0 _ rfl;have y1:=hfl 1 _ rfl;have y2:=hfl 2 _ rfl;have y3:=hfl 3 _ rfl;have y4:=hfl 4 _ rfl;have y5:=hfl 5 _ rfl;have y6:=hfl 6 _ rfl;have y7:=hfl 7 _ rfl;have y8:=hfl 8 _ rfl;have y9:=hfl 9 _ rfl;have y10:=hfl 10 _ rfl;have y11:=hfl 11 _ rfl;have HB1:=hid hb1;clear hb1 hfl
 cases p with
 | false=>
   go_wp2_with (go_at_call 131;refine (HPo.out _).mono ?_;rintro e w2 ⟨rfl,hb2⟩)
   go_ret
   exact ⟨ret_bool (by rw [HV.out];rfl),below2 HB1.out hb2⟩
 | true=>
   have hcf:=fun (w2:World) (hb2:Below w1.heap.size w1 w2)=>keptC HN.out (below2 HB1.out hb2)
   have HCF:=hid hcf;clear hcf
   go_wp2_with (go_at_call 131;refine (HPo.out _).mono ?_;rintro e w2 ⟨rfl,hb2⟩;have hcell:=HCF.out _ hb2;have HB2:=hid hb2;clear hb2)
   refine (HC.out _ (below2 HB1.out HB2.out)).mono ?_;rintro e w3 ⟨rfl,hb3⟩
   go_wp2
   go_ret
   exact ⟨ret_bool (by rw [HV.out];rfl),below2 (below2 HB1.out HB2.out) hb3⟩
theorem enters_port: ∀ args w,(callFunc 130 args).run Tryz.prog w = .ok (.enter 130 args) w:=enters_of Tryz.func130 (by kernel_rfl) rfl
theorem readPort11_mk (u:Adr) (pv:Value) (hsl:IsSl pv) (f:Nat) (lb:Array Value) (w:World):
 Calls Tryz.prog 97 #[adrVal u pv,.func (.func f) #[] lb] w fun e w'=>e = .returned (.func (.func 130) #[] #[.pointer (some ⟨w.heap.size,0,none⟩),.pointer (some ⟨w.heap.size+1,0,none⟩)])/\w'=(w.alloc (.cells (adrCells u pv).toArray 24)).alloc (.cells #[.func (.func f) #[] lb] 115):=by
 have hmf: ∀ (fn:Fn) (first cap:Array Value) (w:World),(Instr.makeFunc fn first cap).run Tryz.prog w = .ok (.func fn first cap) w:=fun _ _ _ _=>rfl
 obtain ⟨a0,n0,c0,rfl⟩:=hsl
 unfold adrVal adrCells
 go_enter Tryz.func97,Tryz.ntmps97
 go_wp2
 go_ret
 exact ⟨rfl,rfl⟩
def MkPost11 (q:List UInt8->Bool) (w:World) (e:Ending) (w':World):Prop:= ∃ v,e = .returned v/\Rdr11 w' v q/\Below w.heap.size w w'
theorem readPort11_any (u:Adr) (pv:Value) (hsl:IsSl pv) (nv:Value) (q:List UInt8->Bool) (w:World) (hr:Rdr11 w nv q):
 Calls Tryz.prog 97 #[adrVal u pv,nv] w (MkPost11 (portR u q) w):=by
 have hr0:=hr;obtain ⟨f,lb,rfl,eg,hc⟩:=hr0
 refine (readPort11_mk u pv hsl f lb w).mono ?_;rintro e w' ⟨rfl,hw⟩
 have h1:AdrIn (w.alloc (.cells (adrCells u pv).toArray 24)) w.heap.size u pv:=heap_alloc_new _ _;have hb1:Below w.heap.size w (w.alloc (.cells (adrCells u pv).toArray 24)):=(Below.refl _ w).alloc (Nat.le_refl _) _;have hz:(w.alloc (.cells (adrCells u pv).toArray 24)).heap.size=w.heap.size+1:=by simp
 have hb2:Below (w.alloc (.cells (adrCells u pv).toArray 24)).heap.size (w.alloc (.cells (adrCells u pv).toArray 24)) w':=by rw [hw];exact (Below.refl _ _).alloc (Nat.le_refl _) _
 have h2:w'.heap[w.heap.size+1]? = some (.cells #[.func (.func f) #[] lb] 115 (0,0)):=by
  rw [hw,<- hz];exact heap_alloc_new _ _
 have hA:=h1.kept hb2;have hB:=below2 hb1 hb2;have hcell:w'.cell? ⟨w.heap.size+1,0,none⟩=some (.func (.func f) #[] lb):=by rw [Lib.cell_of_heap h2];rfl
 refine ⟨_,rfl,⟨_,_,rfl,enters_port,fun X s hX hs=> ?_⟩,hB⟩
 exact portC_any u pv hsl w.heap.size (w.heap.size+1) _ q s X (hA.kept hX) (keptC hcell hX) (hr.kept (below2 hB hX)) hs
def textO (o:Org):List UInt8:=if o.opq then [110,117,108,108] else o.scheme++[58,47,47]++o.host++(if o.port=ownV o.scheme then [] else [58]++portT o.port)
theorem textO_any (o:Org) (w:World) (hg:Gd w) (hs:o.scheme.length<=1000000) (hh:o.host.length<=1000000) (hp:o.opq=false->0<=o.port/\o.port<=65535):
 Calls Tryz.prog 57 #[orgVal o] w fun e w'=>e = .returned (.string ⟨(textO o).toArray⟩)/\Below w.heap.size w w':=by
 obtain ⟨sa,ah,ap,ao⟩:=o
 obtain ⟨AS,rfl⟩: ∃ X:ByteArray,sa=X.data.toList:=⟨⟨sa.toArray⟩,rfl⟩
 obtain ⟨AH,rfl⟩: ∃ X:ByteArray,ah=X.data.toList:=⟨⟨ah.toArray⟩,rfl⟩
 rw [show orgVal ⟨AS.data.toList,AH.data.toList,ap,ao⟩ = .agg #[.string AS,.string AH,.int .i64 ap,.bool ao] from rfl];have hss:AS.size<=1000000:=by rw [Lib.size_eq];exact hs
 have hhs:AH.size<=1000000:=by rw [Lib.size_eq];exact hh
 obtain ⟨T1,hT1⟩: ∃ Z:ByteArray,AS++(⟨#[58,47,47]⟩:ByteArray)=Z:=⟨_,rfl⟩
 have hT1l:T1.data.toList=AS.data.toList++[58,47,47]:=by rw [<- hT1,ByteArray.data_append,Array.toList_append]
 have hT1s:T1.size<=1000003:=by rw [Lib.size_eq,hT1l,List.length_append,<- Lib.size_eq];simp;omega
 obtain ⟨T2,hT2⟩: ∃ Z:ByteArray,T1++AH=Z:=⟨_,rfl⟩
 have hT2l:T2.data.toList=AS.data.toList++[58,47,47]++AH.data.toList:=by rw [<- hT2,ByteArray.data_append,Array.toList_append,hT1l]
 have hT2s:T2.size<=2000003:=by rw [Lib.size_eq,<- hT2,ByteArray.data_append,Array.toList_append,List.length_append,<- Lib.size_eq,<- Lib.size_eq];omega
 obtain ⟨PT,hPT⟩: ∃ X:ByteArray,X=⟨(portT ap).toArray⟩:=⟨_,rfl⟩
 have hPl:PT.data.toList=portT ap:=by rw [hPT]
 have hPs:PT.size<=100:=by rw [hPT];exact portT_le ap
 obtain ⟨T3,hT3⟩: ∃ Z:ByteArray,(⟨#[58]⟩:ByteArray)++PT=Z:=⟨_,rfl⟩
 have hT3l:T3.data.toList=[58]++portT ap:=by rw [<- hT3,ByteArray.data_append,Array.toList_append,hPl]
 have hT3s:T3.size<=101:=by rw [Lib.size_eq,hT3l,<- hPl,List.length_append,<- Lib.size_eq];simp;omega
 obtain ⟨T4,hT4⟩: ∃ Z:ByteArray,T2++T3=Z:=⟨_,rfl⟩
 have HT4:=hid (show T4.data.toList=AS.data.toList++[58,47,47]++AH.data.toList++([58]++portT ap) by rw [<- hT4,ByteArray.data_append,Array.toList_append,hT2l,hT3l]);have HT2:=hid hT2l;obtain ⟨W,hW⟩: ∃ W,(w.alloc (.cells #[.string AS,.string AH,.int .i64 ap,.bool ao] 94))=W:=⟨_,rfl⟩
 have hbW:Below w.heap.size w W:=by rw [<- hW];exact (Below.refl _ w).alloc (Nat.le_refl _) _
 have hrow:W.heap[w.heap.size]? = some (.cells #[.string AS,.string AH,.int .i64 ap,.bool ao] 94 (0,0)):=by rw [<- hW];exact heap_alloc_new w _
 have h0:W.cell? ⟨w.heap.size,0,none⟩=some (.string AS):=by rw [Lib.cell_of_heap hrow];rfl
 have h1:W.cell? ⟨w.heap.size,1,none⟩=some (.string AH):=by rw [Lib.cell_of_heap hrow];rfl
 have h2:W.cell? ⟨w.heap.size,2,none⟩=some (.int .i64 ap):=by rw [Lib.cell_of_heap hrow];rfl
 have h3:W.cell? ⟨w.heap.size,3,none⟩=some (.bool ao):=by rw [Lib.cell_of_heap hrow];rfl
 have HKF:=hid (show ∀ Z,Below W.heap.size W Z->Z.cell? ⟨w.heap.size,0,none⟩=some (.string AS)/\Z.cell? ⟨w.heap.size,1,none⟩=some (.string AH)/\Z.cell? ⟨w.heap.size,2,none⟩=some (.int .i64 ap)/\Z.cell? ⟨w.heap.size,3,none⟩=some (.bool ao) from fun Z hZ=>⟨keptC h0 hZ,keptC h1 hZ,keptC h2 hZ,keptC h3 hZ⟩);have HGW:=hid (fun (X:World) (hX:Below W.heap.size W X)=>(hg.kept hbW).kept hX);have HBW:=hid hbW;have HOw:=hid (fun w=>own_any AS w);obtain ⟨ow,how⟩: ∃ z,ownV AS.data.toList=z:=⟨_,rfl⟩
 rw [how] at HOw;have HOwE:=hid how;have HPT:=hid hPT;clear hg hs hh hT1l hT2l hPT hPl hT3l hbW hrow how
 cases ao with
 | true=>
   clear hp
   go_enter Tryz.func57,Tryz.ntmps57
   go_wp2
   go_ret
   exact ⟨rfl,HBW.out⟩
 | false=>
   have HP:=hid (hp rfl);have HIt:Hid (∀ (X:World),Below W.heap.size W X->Calls Tryz.prog 73 #[.int .i64 ap] X fun e w'=>e = .returned (.string PT)/\Below X.heap.size X w'):=fun X hX=>by rw [HPT.out];exact itoaP_any ap X (HGW.out _ hX) HP.out.1 HP.out.2
   clear hp
   go_enter Tryz.func57,Tryz.ntmps57
   go_wp2_with fail
   have HQ0:=hid ((Below.refl W.heap.size W).drew);refine wp_region_held_drew (S:=(fun wx=>Below W.heap.size W wx)) (by kernel_rfl) HQ0.out (fun hHeld=> ?_)
   refine' wpAnyH_take (i:=0) (oi:=⟨some 12,_,_,_,_,_⟩) (v:=_) rfl (by kernel_rfl) (by kernel_rfl) (by kernel_rfl) (fun _ _ _ h=>h) (Or.inl ⟨by kernel_rfl,?hy1⟩) (by assumption) ?rest1
   case hy1=>(intro wx hSw;(try dsimp only at hSw);obtain ⟨k0,k1,k2,k3⟩:=HKF.out _ hSw;go_simp;first | done | with_reducible rfl | (rw [if_neg (by omega)];with_reducible rfl))
   (try simp only [Act.put,List.setIfInBounds_toArray,List.set_cons_zero,List.set_cons_succ])
   refine' wpAnyH_take (i:=1) (oi:=⟨some 13,_,_,_,_,_⟩) (v:=_) rfl (by kernel_rfl) (by kernel_rfl) (by kernel_rfl) (fun _ _ _ h=>h) (Or.inl ⟨by kernel_rfl,?hy2⟩) (by assumption) ?rest2
   case hy2=>(intro wx hSw;(try dsimp only at hSw);obtain ⟨k0,k1,k2,k3⟩:=HKF.out _ hSw;go_simp;first | done | with_reducible rfl | (rw [if_neg (by omega)];with_reducible rfl))
   (try simp only [Act.put,List.setIfInBounds_toArray,List.set_cons_zero,List.set_cons_succ])
   refine' wpAnyH_take (i:=2) (oi:=⟨some 14,_,_,_,_,_⟩) (v:=_) rfl (by kernel_rfl) (by kernel_rfl) (by kernel_rfl) (fun _ _ _ h=>h) (Or.inl ⟨by kernel_rfl,?hy3⟩) (by assumption) ?rest3
   case hy3=>(intro wx hSw;(try dsimp only at hSw);obtain ⟨k0,k1,k2,k3⟩:=HKF.out _ hSw;go_simp;first | done | with_reducible rfl | (rw [if_neg (by omega)];with_reducible rfl))
   (try simp only [Act.put,List.setIfInBounds_toArray,List.set_cons_zero,List.set_cons_succ])
   refine' wpAnyH_take (i:=3) (oi:=⟨some 15,_,_,_,_,_⟩) (v:=_) rfl (by kernel_rfl) (by kernel_rfl) (by kernel_rfl) (fun _ _ _ h=>h) (Or.inl ⟨by kernel_rfl,?hy4⟩) (by assumption) ?rest4
   case hy4=>(intro wx hSw;(try dsimp only at hSw);obtain ⟨k0,k1,k2,k3⟩:=HKF.out _ hSw;go_simp;first | done | with_reducible rfl | (rw [if_neg (by omega)];with_reducible rfl))
   (try simp only [Act.put,List.setIfInBounds_toArray,List.set_cons_zero,List.set_cons_succ])
   refine wpAnyH_ready (rs:=[4]) (by kernel_rfl) (by simp) ?_
   refine AllReadyH.cons rfl (fun K hK=> ?_) AllReadyH.nil;rw [if_pos (by kernel_rfl)]
   go_simp
   go_wp2_with (go_at_call 70;refine (HOw.out _).mono ?_;rintro e wz ⟨rfl,hwz⟩;rw [<- hwz];clear hwz)
   refine hK.out _ _ HQ0.out (fun hHeld2=> ?_);clear hK K hHeld
   rename _=>hHeld
   by_cases hpo:ap=ow
   ·have hpo':(ap != ow)=false:=by rw [hpo];exact bne_self_eq_false ow
    have HZ:=hid (show textO ⟨AS.data.toList,AH.data.toList,ap,false⟩=AS.data.toList++[58,47,47]++AH.data.toList by unfold textO;simp [hpo,HOwE.out]);clear hpo
    refine' wpAnyH_take (i:=5) (oi:=⟨some 17,_,_,_,_,_⟩) (v:=_) rfl (by kernel_rfl) (by kernel_rfl) (by kernel_rfl) (fun _ _ _ h=>h) (Or.inl ⟨by kernel_rfl,?hy5⟩) (by assumption) ?rest5
    case hy5=>(intro wx hSw;(try dsimp only at hSw);obtain ⟨k0,k1,k2,k3⟩:=HKF.out _ hSw;go_simp;first | done | with_reducible rfl | (rw [if_neg (by omega)];with_reducible rfl))
    (try simp only [Act.put,List.setIfInBounds_toArray,List.set_cons_zero,List.set_cons_succ])
    refine wpAnyH_done (by kernel_rfl) ?_ _
    go_wp2
    go_ret
    exact ⟨ret_str' (by refine ba_ext ?_;rw [HT2.out,HZ.out]),below2 HBW.out HQ0.out⟩
   ·have hpo':(ap != ow)=true:=bne_iff_ne.2 hpo
    have HZ:=hid (show textO ⟨AS.data.toList,AH.data.toList,ap,false⟩=AS.data.toList++[58,47,47]++AH.data.toList++([58]++portT ap) by unfold textO;simp [hpo,HOwE.out]);clear hpo
    refine' wpAnyH_take (i:=5) (oi:=⟨some 17,_,_,_,_,_⟩) (v:=_) rfl (by kernel_rfl) (by kernel_rfl) (by kernel_rfl) (fun _ _ _ h=>h) (Or.inl ⟨by kernel_rfl,?hy6⟩) (by assumption) ?rest6
    case hy6=>(intro wx hSw;(try dsimp only at hSw);obtain ⟨k0,k1,k2,k3⟩:=HKF.out _ hSw;go_simp;first | done | with_reducible rfl | (rw [if_neg (by omega)];with_reducible rfl))
    (try simp only [Act.put,List.setIfInBounds_toArray,List.set_cons_zero,List.set_cons_succ])
    refine wpAnyH_done (by kernel_rfl) ?_ _
    obtain ⟨k0,k1,k2,k3⟩:=HKF.out _ HQ0.out
    go_wp2_with fail
    refine (HIt.out _ HQ0.out).mono ?_;rintro e w5 ⟨rfl,hb5⟩
    go_wp2
    go_ret
    exact ⟨ret_str' (by refine ba_ext ?_;rw [HT4.out,HZ.out]),below2 HBW.out (below2 HQ0.out hb5)⟩
theorem wpAnyH_to {P:Program} {md:Region.Mode} {ops:Array Oper} {Q:Exit->Act->World->Prop} {S:World->Prop} {fuel fuel':Nat} {listed listed':Array Bool} {a:Act} {w:World} (hf:fuel=fuel') (hl:listed=listed') (h:wpAnyH P md ops Q S fuel' listed' a w):wpAnyH P md ops Q S fuel listed a w:=by
 subst hf;subst hl;exact h
theorem path_sl {w:World} {v:Value} {L:List (List UInt8)} (h:PathAt w v L):IsSl v:=by
 rcases h with ⟨rfl,_⟩ | ⟨b,cap,rfl,_⟩
 ·exact ⟨_,_,_,rfl⟩
 ·exact ⟨_,_,_,rfl⟩
theorem adr_cells (A:Adr) (a:Option Addr) (n c:Nat): ∃ s0 s1 s2 s3 b4 i5 b6 s8 s9 b10 b11,adrCells A (.slice a n c)=[.string s0,.string s1,.string s2,.string s3,.bool b4,.int .i64 i5,.bool b6,.slice a n c,.string s8,.string s9,.bool b10,.bool b11]:=⟨_,_,_,_,_,_,_,_,_,_,_,rfl⟩
theorem adr_twelve {W:World} {b:Nat} {A:Adr} {ua:Option Addr} {un uc:Nat} {u0 u1 u2 u3:ByteArray} {u4:Bool} {u5:Int} {u6:Bool} {u8 u9:ByteArray} {u10 u11:Bool} (hx:adrCells A (.slice ua un uc)=[.string u0,.string u1,.string u2,.string u3,.bool u4,.int .i64 u5,.bool u6,.slice ua un uc,.string u8,.string u9,.bool u10,.bool u11]) (h:AdrIn W b A (.slice ua un uc)):
 W.cell? ⟨b,0,none⟩=some (.string u0)/\W.cell? ⟨b,1,none⟩=some (.string u1)/\W.cell? ⟨b,2,none⟩=some (.string u2)/\W.cell? ⟨b,3,none⟩=some (.string u3)/\W.cell? ⟨b,4,none⟩=some (.bool u4)/\W.cell? ⟨b,5,none⟩=some (.int .i64 u5)/\W.cell? ⟨b,6,none⟩=some (.bool u6)/\W.cell? ⟨b,7,none⟩=some (.slice ua un uc)/\W.cell? ⟨b,8,none⟩=some (.string u8)/\W.cell? ⟨b,9,none⟩=some (.string u9)/\W.cell? ⟨b,10,none⟩=some (.bool u10)/\W.cell? ⟨b,11,none⟩=some (.bool u11):=by
 have f: ∀ j v,[.string u0,.string u1,.string u2,.string u3,.bool u4,.int .i64 u5,.bool u6,.slice ua un uc,.string u8,.string u9,.bool u10,.bool u11][j]? = some v->W.cell? ⟨b,j,none⟩=some v:=fun j v hj=>h.cell j v (by rw [hx];exact hj)
 exact ⟨f 0 _ rfl,f 1 _ rfl,f 2 _ rfl,f 3 _ rfl,f 4 _ rfl,f 5 _ rfl,f 6 _ rfl,f 7 _ rfl,f 8 _ rfl,f 9 _ rfl,f 10 _ rfl,f 11 _ rfl⟩
def TrOk (u:Adr):Prop:=u.path.length<=1000000/\u.path.flatten.length<=100000/\u.host.length<=1000000
theorem slim_tr {u:Adr} (h:Slim 20000 u):TrOk u:=by
 obtain ⟨h1,h2,h3,h4,h5,h6,h7,h8⟩:=h
 have a:=slL_len u.path;have b:=slL_flat u.path;exact ⟨by omega,by omega,by omega⟩
theorem org_named12 (o:Org): ∃ (s h:ByteArray) (p:Int) (q:Bool),orgVal o = .agg #[.string s,.string h,.int .i64 p,.bool q]/\orgCells o=[.string s,.string h,.int .i64 p,.bool q]/\q=o.opq:=⟨_,_,_,_,rfl,rfl,rfl⟩
theorem org_four12 {W:World} {b:Nat} {o:Org} {s h:ByteArray} {p:Int} {q:Bool} (hx:orgCells o=[.string s,.string h,.int .i64 p,.bool q]) (H:OrgIn W b o):
 W.cell? ⟨b,0,none⟩=some (.string s)/\W.cell? ⟨b,1,none⟩=some (.string h)/\W.cell? ⟨b,2,none⟩=some (.int .i64 p)/\W.cell? ⟨b,3,none⟩=some (.bool q):=
 ⟨H.cell 0 _ (by rw [hx];rfl),H.cell 1 _ (by rw [hx];rfl),H.cell 2 _ (by rw [hx];rfl),H.cell 3 _ (by rw [hx];rfl)⟩
def bareU (u:Adr):Adr:={ u with user:=[],pass:=[] }
def toldV12 (u p:Adr):List UInt8:=if sameO (orgV u) (orgV p) then bareV (bareU u) else if (orgV u).opq then u.scheme else textO (orgV u)
structure TlOk (u : Adr) : Prop where
 tr:TrOk u
 fine:Fine (bareU u)
 sch:(orgV u).scheme.length<=1000000
 hst:(orgV u).host.length<=1000000
 prt:(orgV u).opq=false->0<=(orgV u).port/\(orgV u).port<=65535
theorem told12_any (u p:Adr) (uv pv:Value) (w:World) (hg:Gd w) (hu:PathAt w uv u.path) (hp:PathAt w pv p.path) (ho:TlOk u) (ht:TrOk p):
 Calls Tryz.prog 32 #[adrVal u uv,adrVal p pv] w fun e w'=>e = .returned (.string ⟨(toldV12 u p).toArray⟩)/\Below w.heap.size w w':=by
 obtain ⟨da,dn,dc,rfl⟩:=path_sl hu
 obtain ⟨pa,pn,pc,rfl⟩:=path_sl hp
 obtain ⟨d0,d1,d2,d3,d4,d5,d6,d8,d9,d10,d11,hxd,hd0,-,-,-⟩:=adr_named u da dn dc
 have hvd:adrVal u (.slice da dn dc) = .agg #[.string d0,.string d1,.string d2,.string d3,.bool d4,.int .i64 d5,.bool d6,.slice da dn dc,.string d8,.string d9,.bool d10,.bool d11]:=by unfold adrVal;rw [hxd]
 obtain ⟨p0,p1,p2,p3,p4,p5,p6,p8,p9,p10,p11,hxp⟩:=adr_cells p pa pn pc
 have hvp:adrVal p (.slice pa pn pc) = .agg #[.string p0,.string p1,.string p2,.string p3,.bool p4,.int .i64 p5,.bool p6,.slice pa pn pc,.string p8,.string p9,.bool p10,.bool p11]:=by unfold adrVal;rw [hxp]
 have hxu:adrCells (bareU u) (.slice da dn dc)=[.string d0,.string ⟨#[]⟩,.string ⟨#[]⟩,.string d3,.bool d4,.int .i64 d5,.bool d6,.slice da dn dc,.string d8,.string d9,.bool d10,.bool d11]:=by
  have:adrCells (bareU u) (.slice da dn dc)=((adrCells u (.slice da dn dc)).set 1 (.string ⟨#[]⟩)).set 2 (.string ⟨#[]⟩):=rfl;rw [this,hxd];rfl
 have hvu:adrVal (bareU u) (.slice da dn dc) = .agg #[.string d0,.string ⟨#[]⟩,.string ⟨#[]⟩,.string d3,.bool d4,.int .i64 d5,.bool d6,.slice da dn dc,.string d8,.string d9,.bool d10,.bool d11]:=by unfold adrVal;rw [hxu]
 rw [hvd,hvp]
 obtain ⟨W1,hW1⟩: ∃ X,(w.alloc (.cells #[.string d0,.string d1,.string d2,.string d3,.bool d4,.int .i64 d5,.bool d6,.slice da dn dc,.string d8,.string d9,.bool d10,.bool d11] 24))=X:=⟨_,rfl⟩
 have hbW1:Below w.heap.size w W1:=by rw [<- hW1];exact (Below.refl _ w).alloc (Nat.le_refl _) _
 have hsW1:W1.heap.size=w.heap.size+1:=by rw [<- hW1];simp
 have hAW1:AdrIn W1 w.heap.size u (.slice da dn dc):=by
  unfold AdrIn;rw [hxd,<- hW1]
  exact heap_alloc_new w _
 obtain ⟨W2,hW2⟩: ∃ X,(W1.alloc (.cells #[.string p0,.string p1,.string p2,.string p3,.bool p4,.int .i64 p5,.bool p6,.slice pa pn pc,.string p8,.string p9,.bool p10,.bool p11] 24))=X:=⟨_,rfl⟩
 have hbW2:Below W1.heap.size W1 W2:=by rw [<- hW2];exact (Below.refl _ W1).alloc (Nat.le_refl _) _
 have hsW2:W2.heap.size=W1.heap.size+1:=by rw [<- hW2];simp
 have hAW2:AdrIn W2 W1.heap.size p (.slice pa pn pc):=by
  unfold AdrIn;rw [hxp,<- hW2]
  exact heap_alloc_new W1 _
 have hb2:=below2 hbW1 hbW2;have HB2:=hid hb2;have HG2:=hid (hg.kept hb2);have HPu:=hid (hu.kept hb2);have HPp:=hid (hp.kept hb2);have HAu:=hid (hAW1.kept hbW2);have HAp:=hid hAW2;have HXd:=hid hxd;have HXp:=hid hxp;have HXu:=hid hxu;have HD0:=hid hd0;have HOk:=hid ho;have HOf:=hid (of_any u (.slice da dn dc) W2 HG2.out HPu.out ho.tr.1 ho.tr.2.1);have HOp:=hid (fun (Z:World) (hZ:Below W2.heap.size W2 Z)=>of_any p (.slice pa pn pc) Z (HG2.out.kept hZ) (HPp.out.kept hZ) ht.1 ht.2.1)
 have HTx:=hid (fun (Z:World) (hZ:Below W2.heap.size W2 Z)=>textO_any (orgV u) Z (HG2.out.kept hZ) ho.sch ho.hst ho.prt);have HBa:=hid (fun (Z:World) (hZ:Below w.heap.size w Z)=>bare_any (bareU u) (.slice da dn dc) Z (hg.kept hZ) (hu.kept hZ) ho.fine);unfold OfPost at HOf HOp;rw [hvd] at HOf;rw [hvp] at HOp;rw [hvu] at HBa;have HV:=hid (show toldV12 u p=if sameO (orgV u) (orgV p) then bareV (bareU u) else if (orgV u).opq then u.scheme else textO (orgV u) from rfl);obtain ⟨TV,hTV⟩: ∃ T,toldV12 u p=T:=⟨_,rfl⟩
 rw [hTV] at HV ⊢;obtain ⟨OA,hOA⟩: ∃ O,orgV u=O:=⟨_,rfl⟩
 obtain ⟨OB,hOB⟩: ∃ O,orgV p=O:=⟨_,rfl⟩
 rw [hOA] at HOf HTx HV;rw [hOB] at HOp HV;obtain ⟨aS,aH,aP,aQ,hva,hxa,hqa⟩:=org_named12 OA
 obtain ⟨bS,bH,bP,bQ,hvb,hxb,-⟩:=org_named12 OB
 have HSm:=hid (fun (Z:World) (hZ:Below W2.heap.size W2 Z)=>same4_any OA OB Z);rw [hva] at HOf HTx HSm;rw [hvb] at HOp HSm;rw [<- hqa] at HV;generalize sameO OA OB=sm at HSm HV;have HXa:=hid hxa;obtain ⟨y0,y1,y2,y3,y4,y5,y6,y7,y8,y9,y10,y11⟩:=adr_twelve hxd HAu.out
 clear hg hu hp ho ht hxd hvd hxp hvp hxu hvu hbW1 hsW1 hAW1 hbW2 hsW2 hAW2 hb2 hd0 hTV hOA hOB hva hxa hqa hvb hxb
 go_enter Tryz.func32,Tryz.ntmps32
 go_wp2_with fail
 refine HOf.out.mono ?_;rintro e w3 ⟨rfl,hb3⟩
 obtain ⟨W4,hW4⟩: ∃ X,(w3.alloc (.cells #[.string aS,.string aH,.int .i64 aP,.bool aQ] 94))=X:=⟨_,rfl⟩
 have hbW4:Below w3.heap.size w3 W4:=by rw [<- hW4];exact (Below.refl _ w3).alloc (Nat.le_refl _) _
 have hsW4:W4.heap.size=w3.heap.size+1:=by rw [<- hW4];simp
 have hOW4:OrgIn W4 w3.heap.size (OA):=by
  unfold OrgIn;rw [HXa.out,<- hW4]
  exact heap_alloc_new w3 _
 have hb4:=below2 hb3 hbW4;have HB4:=hid hb4;have HO4:=hid hOW4;have HQ0:=hid ((Below.refl W4.heap.size W4).drew);have HRo:=hid (show ∀ Z,Below W4.heap.size W4 Z->Z.rangeAt (w3.heap.size) 0 [.string aS,.string aH,.int .i64 aP,.bool aQ] from fun Z hZ=>by
  have:=range_row (show Z.heap[w3.heap.size]? = some (.cells (orgCells (OA)).toArray 94 (0,0)) from HO4.out.kept hZ);rw [HXa.out] at this;exact this)
 have HRp:=hid (show ∀ Z,Below W4.heap.size W4 Z->Z.rangeAt (W1.heap.size) 0 [.string p0,.string p1,.string p2,.string p3,.bool p4,.int .i64 p5,.bool p6,.slice pa pn pc,.string p8,.string p9,.bool p10,.bool p11] from fun Z hZ=>by
  have:=range_row (show Z.heap[W1.heap.size]? = some (.cells (adrCells p (.slice pa pn pc)).toArray 24 (0,0)) from (HAp.out.kept HB4.out).kept hZ);rw [HXp.out] at this;exact this)
 have HOp4:=hid (fun (Z:World) (hZ:Below W4.heap.size W4 Z)=>HOp.out Z (below2 HB4.out hZ));have HSm4:=hid (fun (Z:World) (hZ:Below W4.heap.size W4 Z)=>HSm.out Z (below2 HB4.out hZ));clear hb3 hbW4 hsW4 hOW4 hb4 y0 y1 y2 y3 y4 y5 y6 y7 y8 y9 y10 y11
 go_upto_region 2 with fail
 refine wp_region_held_drew (S:=(fun wx=>Below W4.heap.size W4 wx)) (by kernel_rfl) HQ0.out (fun hHeld=> ?_)
 refine wpAnyH_to (fuel':=5) (listed':= #[false,false,false,false,false]) rfl rfl ?_;refine wpAnyH_take (i:=0) (oi:=⟨some 9,_,_,_,_,_⟩) rfl (by kernel_rfl) (by kernel_rfl) (by kernel_rfl) (fun _ _ _ h=>h) (yieldsIf_load_mid (by kernel_rfl) 94 (.tmp 5) rfl (w3.heap.size) 0 rfl [.string aS,.string aH,.int .i64 aP,.bool aQ] _ HRo.out Tryz.underlying94 rfl sizeO) (by assumption) ?_
 (try simp only [Act.put,List.setIfInBounds_toArray,List.set_cons_zero,List.set_cons_succ])
 refine wpAnyH_take (i:=1) (oi:=⟨some 10,_,_,_,_,_⟩) rfl (by kernel_rfl) (by kernel_rfl) (by kernel_rfl) (fun _ _ _ h=>h) (yieldsIf_load_mid (by kernel_rfl) 24 (.tmp 3) rfl (W1.heap.size) 0 rfl [.string p0,.string p1,.string p2,.string p3,.bool p4,.int .i64 p5,.bool p6,.slice pa pn pc,.string p8,.string p9,.bool p10,.bool p11] _ HRp.out Tryz.underlying24 rfl sizeU) (by assumption) ?_
 (try simp only [Act.put,List.setIfInBounds_toArray,List.set_cons_zero,List.set_cons_succ])
 refine wpAnyH_ready (rs:=[2]) (by kernel_rfl) (by simp) ?_
 refine AllReadyH.cons rfl (fun K9 hK=> ?_) AllReadyH.nil;rw [if_pos (by kernel_rfl)]
 go_simp
 go_wp2_with (go_at_call 54;refine (HOp4.out _ HQ0.out).mono ?_;rintro e w5 ⟨rfl,hba⟩)
 have HQ5:=hid (below2 HQ0.out hba);clear hba;refine hK.out _ _ HQ5.out (fun hHeld2=> ?_);clear hK K9 hHeld
 rename _=>hHeld
 refine wpAnyH_ready (rs:=[3]) (by kernel_rfl) (by simp) ?_
 refine AllReadyH.cons rfl (fun K9 hK=> ?_) AllReadyH.nil;rw [if_pos (by kernel_rfl)]
 go_simp
 go_wp2_with (go_at_call 55;refine (HSm4.out _ HQ5.out).mono ?_;rintro e w6 ⟨rfl,hba⟩)
 have HQ6:=hid (below2 HQ5.out hba);clear hba;refine hK.out _ _ HQ6.out (fun hHeld2=> ?_);clear hK K9 hHeld
 rename _=>hHeld
 refine' wpAnyH_take (i:=4) (oi:=⟨some 8,_,_,_,_,_⟩) (v:=_) rfl (by kernel_rfl) (by kernel_rfl) (by kernel_rfl) (fun _ _ _ h=>h) (Or.inl ⟨by kernel_rfl,?hyt1⟩) (by assumption) ?restt1
 case hyt1=>(intro wx hSw;(try dsimp only at hSw);go_simp;first | done | with_reducible rfl)
 (try simp only [Act.put,List.setIfInBounds_toArray,List.set_cons_zero,List.set_cons_succ])
 refine wpAnyH_done (by kernel_rfl) ?_ _
 have HB6:=hid (below2 HB4.out HQ6.out);have HA6:=hid (HAu.out.kept HB6.out);have HO6:=hid (HO4.out.kept HQ6.out)
 cases sm with
 | true=>
   have HE:=hid (show TV=bareV (bareU u) by rw [HV.out];rfl);have HA7:=hid (show AdrIn ((w6.setCell ⟨w.heap.size,1,none⟩ (.string ⟨#[]⟩)).setCell ⟨w.heap.size,2,none⟩ (.string ⟨#[]⟩)) w.heap.size (bareU u) (.slice da dn dc) from
    (HA6.out.set (v:={ u with user:=[] }) 1 _ rfl).set (v:=bareU u) 2 _ rfl)
   have HB7:=hid (show Below w.heap.size w ((w6.setCell ⟨w.heap.size,1,none⟩ (.string ⟨#[]⟩)).setCell ⟨w.heap.size,2,none⟩ (.string ⟨#[]⟩)) from
    ((below2 HB2.out HB6.out).setCell (p:=⟨w.heap.size,1,none⟩) (Nat.le_refl _) _).setCell (p:=⟨w.heap.size,2,none⟩) (Nat.le_refl _) _)
   obtain ⟨y0,y1,y2,y3,y4,y5,y6,y7,y8,y9,y10,y11⟩:=adr_twelve HXd.out HA6.out
   have z1:=HA6.out.frozen 1;have z2:=HA6.out.frozen 2;obtain ⟨W7,hW7⟩: ∃ X,((w6.setCell ⟨w.heap.size,1,none⟩ (.string ⟨#[]⟩)).setCell ⟨w.heap.size,2,none⟩ (.string ⟨#[]⟩))=X:=⟨_,rfl⟩
   rw [hW7] at HA7 HB7;obtain ⟨c0,c1,c2,c3,c4,c5,c6,c7,c8,c9,c10,c11⟩:=adr_twelve HXu.out HA7.out
   clear y0 y3 y4 y5 y6 y7 y8 y9 y10 y11
   go_wp2_with fail
   refine (HBa.out _ HB7.out).mono ?_;rintro e w8 ⟨rfl,hb8⟩
   go_wp2
   go_ret
   exact ⟨ret_str' (by rw [HE.out]),below2 HB7.out hb8⟩
 | false=>
   obtain ⟨q0,q1,q2,q3⟩:=org_four12 HXa.out HO6.out
   cases aQ with
   | true=>
     have HE:=hid (show TV=u.scheme by rw [HV.out];rfl);obtain ⟨y0,y1,y2,y3,y4,y5,y6,y7,y8,y9,y10,y11⟩:=adr_twelve HXd.out HA6.out
     go_wp2_with fail
     go_ret
     exact ⟨ret_str' (by rw [HE.out,<- HD0.out]),below2 HB2.out HB6.out⟩
   | false=>
     have HE:=hid (show TV=textO OA by rw [HV.out];rfl)
     go_wp2_with fail
     refine (HTx.out _ HB6.out).mono ?_;rintro e w8 ⟨rfl,hb8⟩
     go_wp2
     go_ret
     exact ⟨ret_str' (by rw [HE.out]),below2 HB2.out (below2 HB6.out hb8)⟩
end Go.Proofs.YtijpkalkfbejeaaGreatDoor
