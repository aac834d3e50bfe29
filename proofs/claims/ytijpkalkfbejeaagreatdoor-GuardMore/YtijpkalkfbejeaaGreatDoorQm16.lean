/- Walks and plain facts. -/
import Derived.Test.YtijpkalkfbejeaaGreatDoorQm15
set_option linter.unusedSimpArgs false
set_option linter.unusedVariables false
set_option maxHeartbeats 16000000
set_option maxRecDepth 100000

namespace Go.Proofs.YtijpkalkfbejeaaGreatDoor
open Go.RowKit
theorem readAuthority_any (s:ByteArray) (b:Nat) (u:Adr) (pv:Value) (w0 w:World) (hg0:Gd w0) (h00:Below w0.heap.size w0 w) (hb00:w0.heap.size<=b) (hs:s.size<=100000) (hA:AdrIn w b u pv):
 Calls Tryz.prog 154 #[.string s,.pointer (some ⟨b,0,none⟩)] w (AuthPost b u pv (authV u.scheme s.data.toList) w):=by
 have HG:=hid (hg0.kept h00);have HG0:=hid hg0;have H00:=hid h00;have HB00:=hid hb00;have HAd:=hid hA;have HLt:=hid (Nat.le_of_lt hA.lt);clear hg0 h00 hb00 hA;have hle:=at_le s.data.toList;obtain ⟨UI,hUI⟩: ∃ X:ByteArray,X=⟨(atV s.data.toList).1.toArray⟩:=⟨_,rfl⟩
 obtain ⟨T,hT⟩: ∃ X:ByteArray,X=⟨(atV s.data.toList).2.toArray⟩:=⟨_,rfl⟩
 have hUIl:UI.data.toList=(atV s.data.toList).1:=by rw [hUI]
 have hTl:T.data.toList=(atV s.data.toList).2:=by rw [hT]
 have hUIs:UI.size<=100000:=by rw [hUI];exact size_le hle.1 hs
 have hTs:T.size<=100000:=by rw [hT];exact size_le hle.2 hs
 have hat:(Lib.lastIndexByte s 64 = -1/\s.extract 0 0=UI/\s.extract 0 s.size=T)∨(∃ i:Nat,i<s.size/\Lib.lastIndexByte s 64=i/\s.extract 0 i=UI/\s.extract (i+1) s.size=T):=by
  rcases last_at s with ⟨h1,h2⟩ | ⟨i,hi,h1,h2⟩
  ·refine .inl ⟨h1,?_,?_⟩
   ·rw [hUI,h2];exact ba_ext (by rw [Lib.extract_data];simp)
   ·rw [hT,h2];exact ba_ext (by rw [extract_drop];simp)
  ·refine .inr ⟨i,hi,h1,?_,?_⟩
   ·rw [hUI,h2];exact ba_ext (by rw [Lib.extract_data];simp)
   ·rw [hT,h2];exact ba_ext (by rw [extract_drop])
 have hpl:=part_le 58 UI.data.toList;obtain ⟨A1,hA1⟩: ∃ X:ByteArray,X=⟨(part 58 UI.data.toList).1.toArray⟩:=⟨_,rfl⟩
 obtain ⟨A2,hA2⟩: ∃ X:ByteArray,X=⟨(part 58 UI.data.toList).2.1.toArray⟩:=⟨_,rfl⟩
 obtain ⟨ok1,hok1⟩: ∃ b,b=(part 58 UI.data.toList).2.2:=⟨_,rfl⟩
 have hA1s:A1.size<=100000:=by rw [hA1];exact size_le hpl.1 hUIs
 have hA2s:A2.size<=100000:=by rw [hA2];exact size_le hpl.2 hUIs
 have HCut:Hid (∀ w:World,Gd w->Calls Tryz.prog 19 #[.string UI,.string ⟨#[58]⟩] w fun e w'=>e = .returned (.tuple #[.string A1,.string A2,.bool ok1])/\Below w.heap.size w w'):=fun w hg=>by
  have:=cut_any UI ⟨#[58]⟩ w hg (by omega)
  rw [show (⟨#[58]⟩:ByteArray).data.toList=[58] from rfl,cut_part,<- hA1,<- hA2,<- hok1] at this;exact this
 obtain ⟨P1,hp1⟩: ∃ x:ByteArray,x=⟨(pct 6 A1.data.toList).toArray⟩:=⟨_,rfl⟩
 obtain ⟨P2,hp2⟩: ∃ x:ByteArray,x=⟨(pct 6 A2.data.toList).toArray⟩:=⟨_,rfl⟩
 have HP1:Hid (∀ w:World,Calls Tryz.prog 153 #[.string A1,.int .i64 6] w fun e w'=>e = .returned (.string P1)/\Below w.heap.size w w'):=fun w=>by
  have:=percent_any A1 6 w (by omega)
  rw [<- hp1] at this;exact this
 have HP2:Hid (∀ w:World,Calls Tryz.prog 153 #[.string A2,.int .i64 6] w fun e w'=>e = .returned (.string P2)/\Below w.heap.size w w'):=fun w=>by
  have:=percent_any A2 6 w (by omega)
  rw [<- hp2] at this;exact this
 have hck:=colV_le T.data.toList;obtain ⟨k,hk⟩: ∃ k,k=colV T.data.toList:=⟨_,rfl⟩
 have hks:k<=T.size:=by rw [hk,Lib.size_eq];exact hck
 have hks':(k:Int)<=(T.size:Int):=by omega
 obtain ⟨D,hD⟩: ∃ X:ByteArray,X=⟨((T.data.toList.drop k).drop 1).toArray⟩:=⟨_,rfl⟩
 have hDs:D.size<=100000:=by rw [hD];exact size_le (by simp<;>omega) hTs
 obtain ⟨H,hH⟩: ∃ X:ByteArray,X=T.extract 0 k:=⟨_,rfl⟩
 have hHl:H.data.toList=T.data.toList.take k:=by rw [hH,Lib.extract_data];simp
 have hHs:H.size<=100000:=by rw [hH];simp<;>omega
 have HCol:Hid (∀ w:World,Calls Tryz.prog 188 #[.string T] w fun e w'=>e = .returned (.int .i64 (k:Nat))/\w=w'):=fun w=>by
  have:=colonOfPort_any T w (by omega)
  rw [<- hk] at this;exact this
 have HTrim:Hid (∀ w:World,Calls Tryz.prog 189 #[.string (T.extract k T.size),.string ⟨#[58]⟩] w fun e w'=>e = .returned (.string D)/\w=w'):=fun w=>by
  have:=Tryz.strings_TrimPrefix (T.extract k T.size) ⟨#[58]⟩ w;rw [show (⟨#[58]⟩:ByteArray).data.toList=[58] from rfl,extract_drop,hk,trim_colon,<- hk,<- hD] at this;exact this.mono fun e w' ⟨h,h'⟩=>⟨h,h'.symm⟩
 have HOwn:Hid (∀ w:World,Calls Tryz.prog 70 #[.string ⟨u.scheme.toArray⟩] w fun e w'=>e = .returned (.int .i64 (ownV u.scheme))/\w=w'):=fun w=>own_any ⟨u.scheme.toArray⟩ w
 have HSpec:Hid (∀ w:World,Calls Tryz.prog 69 #[.string ⟨u.scheme.toArray⟩] w fun e w'=>e = .returned (.bool (specV u.scheme))/\w=w'):=fun w=>special_any ⟨u.scheme.toArray⟩ w
 have HE1:Hid (portV (ownV u.scheme) D.data.toList=none->authV u.scheme s.data.toList = .error 11):=fun h=>auth_port (by rw [<- hTl,<- hk];rw [hD] at h;exact h)
 have HE2:Hid (∀ p,portV (ownV u.scheme) D.data.toList=some p->parseV H.data.toList (specV u.scheme)=none->authV u.scheme s.data.toList = .error 10):=fun p h h2=>auth_host (p:=p) (by rw [<- hTl,<- hk];rw [hD] at h;exact h) (by rw [<- hTl,<- hk,<- hHl];exact h2)
 have HE3:Hid (∀ p h,portV (ownV u.scheme) D.data.toList=some p->parseV H.data.toList (specV u.scheme)=some h->(h=[]/\(P1.data.toList≠[]∨P2.data.toList≠[]∨D.data.toList≠[]))->authV u.scheme s.data.toList = .error 10):=fun p h h1 h2 h3=>auth_empty (p:=p) (h:=h) (by rw [<- hTl,<- hk];rw [hD] at h1;exact h1) (by rw [<- hTl,<- hk,<- hHl];exact h2) (by rw [<- hTl,<- hk,<- hUIl];rw [hp1,hp2,hA1,hA2,hD] at h3;exact h3)
 have HE4:Hid (∀ p h,portV (ownV u.scheme) D.data.toList=some p->parseV H.data.toList (specV u.scheme)=some h -> ¬ (h=[]/\(P1.data.toList≠[]∨P2.data.toList≠[]∨D.data.toList≠[]))->authV u.scheme s.data.toList = .ok (P1.data.toList,P2.data.toList,h,p)):=fun p h h1 h2 h3=>by
  rw [auth_ok (p:=p) (h:=h) (by rw [<- hTl,<- hk];rw [hD] at h1;exact h1) (by rw [<- hTl,<- hk,<- hHl];exact h2) (by rw [<- hTl,<- hk,<- hUIl];rw [hp1,hp2,hA1,hA2,hD] at h3;exact h3),<- hUIl,hp1,hp2,hA1,hA2]
 have HH:=hid hH;clear hUI hT hUIl hTl hle hpl hA1 hA2 hok1 hp1 hp2 hck hk hD hH hHl;have hat2:(∃ at_:Int,Lib.lastIndexByte s 64=at_/\s.extract 0 (max at_ 0).toNat=UI/\(0<=max at_ 0/\max at_ 0<=s.size)/\s.extract (at_+1).toNat s.size=T/\(0<=at_+1/\at_+1<=s.size)):=by
  rcases hat with ⟨ha1,ha2,ha3⟩ | ⟨i,hi,ha1,ha2,ha3⟩
  ·exact ⟨-1,ha1,ha2,by omega,ha3,by omega⟩
  ·refine ⟨i,ha1,?_,by omega,?_,by omega⟩
   ·rw [show (max (i:Int) 0).toNat=i by omega];exact ha2
   ·rw [show ((i:Int)+1).toNat=i+1 by omega];exact ha3
 clear hat;obtain ⟨at_,ha1,ha2,ha2',ha3,ha3'⟩:=hat2
 have HA2:=hid ha2;have HA3:=hid ha3;clear ha2 ha3
 go_enter Tryz.func154,Tryz.ntmps154
 go_wp2_with (go_at_call 187;refine (Tryz.strings_LastIndexByte _ _ (by omega) _).mono ?_;rintro e w' ⟨rfl,hw⟩;rw [hw,ha1])
 rw [HA2.out];refine (HCut.out _ HG.out).mono ?_;rintro e w1 ⟨rfl,hb1⟩
 have H1:=hid (HAd.out.kept hb1);have HB1:=hid hb1;clear hb1
 go_wp2_with fail
 refine (HP1.out w1).mono ?_;rintro e w2 ⟨rfl,hb2⟩
 have H2:=hid (H1.out.kept hb2);have HB2:=hid (below2 HB1.out hb2);clear hb2
 go_wp2_with fail
 refine (HP2.out w2).mono ?_;rintro e w3 ⟨rfl,hb3⟩
 have h3:=H2.out.kept hb3;have hc1:=h3.cell 1 _ rfl;have hc2:=h3.cell 2 _ rfl;have hf1:=h3.frozen 1;have hf2:=h3.frozen 2;have H3:=hid h3;have HB3:=hid (below2 HB2.out hb3);clear hb3 h3
 go_wp2_with fail
 rw [HA3.out];have h4:AdrIn ((w3.setCell ⟨b,1,none⟩ (Value.string P1)).setCell ⟨b,2,none⟩ (Value.string P2)) b { u with user:=P1.data.toList,pass:=P2.data.toList } pv:=(H3.out.set (v:={ u with user:=P1.data.toList }) 1 _ rfl).set 2 _ rfl;have hb4:Below b w ((w3.setCell ⟨b,1,none⟩ (Value.string P1)).setCell ⟨b,2,none⟩ (Value.string P2)):=((HB3.out.mono HLt.out).setCell (p:=⟨b,1,none⟩) (Nat.le_refl _) _).setCell (p:=⟨b,2,none⟩) (Nat.le_refl _) _;have hg4:Gd ((w3.setCell ⟨b,1,none⟩ (Value.string P1)).setCell ⟨b,2,none⟩ (Value.string P2)):=HG0.out.kept (H00.out.trans (hb4.mono HB00.out))
 generalize ((w3.setCell ⟨b,1,none⟩ (Value.string P1)).setCell ⟨b,2,none⟩ (Value.string P2))=w4 at h4 hb4 hg4 ⊢;have H4:=hid h4;have HB4:=hid hb4;have HG4:=hid hg4;have hlt4:=h4.lt;have hc0:=h4.cell 0 _ rfl;clear h4 hb4 hg4 hc1 hc2 hf1 hf2;refine (HCol.out w4).mono ?_;rintro e w' ⟨rfl,rfl⟩
 go_wp2_with fail
 refine (HTrim.out w4).mono ?_;rintro e w' ⟨rfl,rfl⟩
 go_wp2_with fail
 refine (HOwn.out w4).mono ?_;rintro e w' ⟨rfl,rfl⟩
 go_wp2_with fail
 refine (readPort_any D (ownV u.scheme) w4 (by omega)).mono ?_;rintro e w' ⟨rfl,rfl⟩
 cases hport:portV (ownV u.scheme) D.data.toList with
 | none=>
   have HN:=hid (HE1.out hport)
   go_wp2
   go_ret
   rw [HN.out];exact ⟨rfl,HB4.out,fun h=>by cases h⟩
 | some p=>
   obtain ⟨HT,hHT⟩: ∃ x:ByteArray,x=⟨((parseV H.data.toList (specV u.scheme)).getD []).toArray⟩:=⟨_,rfl⟩
   obtain ⟨ee,hee⟩: ∃ x,x=er (parseV H.data.toList (specV u.scheme)):=⟨_,rfl⟩
   have HPar:Hid (∀ w:World,Gd w->Calls Tryz.prog 191 #[.string H,.bool (specV u.scheme)] w fun e w'=>e = .returned (.tuple #[.string HT,.int .i64 ee])/\Below w.heap.size w w'):=fun w hg=>by
    have:=parse_any H (specV u.scheme) w hg (by omega)
    rw [<- hHT,<- hee] at this;exact this
   have HPo:=hid hport;have HHT:=hid hHT;have HEE:=hid hee;clear hport hHT hee
   go_wp2
   go_region_with (first | (go_at_call 69;refine (HSpec.out _).mono ?_;rintro e w' ⟨rfl,rfl⟩) | (go_at_call 191;rw [<- HH.out];refine (HPar.out _ (by first | exact HG4.out | exact HG4.out.kept (Below.refl _ _).drew)).mono ?_;rintro e w5 ⟨rfl,hb5⟩))
   have hb45:Below w4.heap.size w4 w5:=by first | exact hb5 | exact (Below.refl _ w4).drew.trans hb5
   have H5:=hid (H4.out.kept hb45);have HB5:=hid (HB4.out.trans (hb45.mono (Nat.le_of_lt H4.out.lt)));have hc1:w5.cell? ⟨b,1,none⟩=some (.string P1):=H5.out.cell 1 _ rfl
   have hc2:w5.cell? ⟨b,2,none⟩=some (.string P2):=H5.out.cell 2 _ rfl
   clear hb5 hb45 hc0;have hpar:=HHT.out
   cases hpv:parseV H.data.toList (specV u.scheme) with
   | none=>
     have HN:=hid (HE2.out p HPo.out hpv);have hee:=HEE.out;rw [hpv] at hee;rw [show ee=10 from hee];clear hpar hpv hee
     go_wp2
     go_ret
     rw [HN.out];exact ⟨rfl,HB5.out,fun h=>by cases h⟩
   | some h=>
     have hee:=HEE.out;rw [hpv] at hee;rw [show ee=0 from hee];have hth:HT.data.toList=h:=by rw [hpar,hpv];rfl
     have hpv2:parseV H.data.toList (specV u.scheme)=some HT.data.toList:=by rw [hth];exact hpv
     clear hpar hpv hee hth;by_cases hh:HT.data.toList=[]
     ·have q0:=empty_yes HT hh
      by_cases h1:P1.data.toList=[]
      ·have q1:=empty_yes P1 h1
       by_cases h2:P2.data.toList=[]
       ·have q2:=empty_yes P2 h2
        by_cases h3:D.data.toList=[]
        ·have q3:=empty_yes D h3
         have HN:=hid (HE4.out p _ HPo.out hpv2 (by rintro ⟨_,h4 | h4 | h4⟩;exact h4 h1;exact h4 h2;exact h4 h3));clear hpv2 hh h1 h2 h3;have hc3:=H5.out.cell 3 _ rfl;have hc4:=H5.out.cell 4 _ rfl;have hc5:=H5.out.cell 5 _ rfl;have hf3:=H5.out.frozen 3;have hf4:=H5.out.frozen 4;have hf5:=H5.out.frozen 5
         go_wp2
         go_ret
         rw [HN.out];refine ⟨rfl,((HB5.out.setCell (p:=⟨b,3,none⟩) (Nat.le_refl _) _).setCell (p:=⟨b,4,none⟩) (Nat.le_refl _) _).setCell (p:=⟨b,5,none⟩) (Nat.le_refl _) _,fun _=> ?_⟩
         exact ((H5.out.set (v:={ u with user:=P1.data.toList,pass:=P2.data.toList,host:=HT.data.toList }) 3 _ rfl).set (v:={ u with user:=P1.data.toList,pass:=P2.data.toList,host:=HT.data.toList,hasHost:=true }) 4 _ rfl).set 5 _ rfl
        ·have q3:=empty_no D h3
         have HN:=hid (HE3.out p _ HPo.out hpv2 ⟨hh,.inr (.inr h3)⟩);clear hpv2 hh h1 h2 h3
         go_wp2
         go_ret
         rw [HN.out];exact ⟨rfl,HB5.out,fun h=>by cases h⟩
       ·have q2:=empty_no P2 h2
        have HN:=hid (HE3.out p _ HPo.out hpv2 ⟨hh,.inr (.inl h2)⟩);clear hpv2 hh h1 h2
        go_wp2
        go_ret
        rw [HN.out];exact ⟨rfl,HB5.out,fun h=>by cases h⟩
      ·have q1:=empty_no P1 h1
       have HN:=hid (HE3.out p _ HPo.out hpv2 ⟨hh,.inl h1⟩);clear hpv2 hh h1
       go_wp2
       go_ret
       rw [HN.out];exact ⟨rfl,HB5.out,fun h=>by cases h⟩
     ·have q0:=empty_no HT hh
      have HN:=hid (HE4.out p _ HPo.out hpv2 (by rintro ⟨h4,_⟩;exact hh h4));clear hpv2 hh;have hc3:=H5.out.cell 3 _ rfl;have hc4:=H5.out.cell 4 _ rfl;have hc5:=H5.out.cell 5 _ rfl;have hf3:=H5.out.frozen 3;have hf4:=H5.out.frozen 4;have hf5:=H5.out.frozen 5
      go_wp2
      go_ret
      rw [HN.out];refine ⟨rfl,((HB5.out.setCell (p:=⟨b,3,none⟩) (Nat.le_refl _) _).setCell (p:=⟨b,4,none⟩) (Nat.le_refl _) _).setCell (p:=⟨b,5,none⟩) (Nat.le_refl _) _,fun _=> ?_⟩
      exact ((H5.out.set (v:={ u with user:=P1.data.toList,pass:=P2.data.toList,host:=HT.data.toList }) 3 _ rfl).set (v:={ u with user:=P1.data.toList,pass:=P2.data.toList,host:=HT.data.toList,hasHost:=true }) 4 _ rfl).set 5 _ rfl
def ReadPost (r:Except Int Adr) (w:World) (e:Ending) (w':World):Prop:=
 ∃ pv,e = .returned (.tuple #[adrVal (adrOf r) pv,.int .i64 (numOf r)])/\w'.ownsRow w.heap.size 9 1 pv (adrOf r).path.length (cellsS (adrOf r).path)/\Below w.heap.size w w'
theorem own_sl {w:World} {B n:Nat} {v:Value} {xs:List Value} (h:w.ownsRow B 9 1 v n xs):IsSl v:=by
 rcases h.2 with ⟨hv,hn⟩ | ⟨g',cap',cur,hv,_⟩
 ·exact ⟨none,0,0,hv⟩
 ·exact ⟨_,_,_,hv⟩
theorem own_apart {w:World} {B n b:Nat} {v:Value} {xs:List Value} {u:Adr} {pv:Value} (h:w.ownsRow B 9 1 v n xs) (hb:AdrIn w b u pv) {g:Nat} (hg:v.ownBlock=some g):g≠b:=by
 intro e;subst e;rcases h.2 with ⟨hv,hn⟩ | ⟨g',cap',cur,hv,_,hrow,_⟩
 ·rw [hv] at hg;simp [Value.ownBlock] at hg
 ·rw [hv] at hg
  simp [Value.ownBlock] at hg;subst hg;rw [show w.heap[g']? = _ from hb] at hrow
  cases hrow
theorem own_set {w:World} {B n b:Nat} {v:Value} {xs:List Value} {u:Adr} {pv:Value} (h:w.ownsRow B 9 1 v n xs) (hb:AdrIn w b u pv) (j:Nat) (x:Value):(w.setCell ⟨b,j,none⟩ x).ownsRow B 9 1 v n xs:=
 ownsRow_same h fun g hg=>heap_setCell_other _ _ _ _ (own_apart h hb hg)
theorem setCells_other {b g:Nat} (hne:g≠b): ∀ (vs:List Value) (o:Nat) (w:World),(w.setCells b o vs).heap[g]? = w.heap[g]?
 | [],_,_=>rfl
 | v::r,o,w=>by
   rw [World.setCells,setCells_other hne r (o+1) _]
   exact heap_setCell_other _ _ _ _ hne
theorem own_cells {w:World} {B n b:Nat} {v:Value} {xs:List Value} {u:Adr} {pv:Value} (h:w.ownsRow B 9 1 v n xs) (hb:AdrIn w b u pv) (vs:List Value) (o:Nat):(w.setCells b o vs).ownsRow B 9 1 v n xs:=
 ownsRow_same h fun g hg=>setCells_other (own_apart h hb hg) _ _ _
theorem AdrIn.set_other {w:World} {b d:Nat} {u:Adr} {pv:Value} (h:AdrIn w b u pv) (hne:b≠d) (j:Nat) (x:Value):AdrIn (w.setCell ⟨d,j,none⟩ x) b u pv:=by
 unfold AdrIn;rw [heap_setCell_other _ _ _ _ hne];exact h
theorem seg_query (r0 c X:Code) (hc:Tryz.f115.body=some (.seq r0 (.scope c))) (hf:findLabel c 2=some (.seq .skip X)) (t0 t1 t2 t3 t5 t6 t7 t10 t11 t12 t13 t14 t15 t16 t17 t18 t19 t20 t21 t22 t23 t24 t25 t26 t27 t28 t29 t30 t31 t32 t33 t34 t35 t36 t37 t38 t39 t40 t41 t42 t43 t44 t45 t46 t47 t48 t49 t50 t51 t52 t53 t54 t55 t56 t57 t58 t59 t60 t61 t62 t63 t64 t65 t66 t67 t68 t69 t70 t71 t72 t73 t74 t75 t76 t77 t78 t79 t80 t81 t82 t83 t84 t85 t86 t87 t88 t89 t90 t91 t92 t93 t94 t95 t96 t97 t98 t99 t100 t101 t102 t103 t104 t105 t106 t107 t108 t109 t110 t111 t112 t113 t114 t115 t116 t117 t118 t119 t120 t121 t122 t123 t124 t125 t126 t127 t128 t129 t130 t131 t132 t133 t134 t135 t136 t137 t138 t139 t140 t141 t142 t143 t144 t145 t146 t147 t148 t149 t150 t151 t152 t153 t154 t155 t156 t157 t158 t159 t160 t161 t162 t163 t164 t165 t166 t167 t168 t169 t170 t171 t172 t173 t174 t175 t176 t177 t178 t179 t180 t181 t182 t183 t184 t185 t186 t187 t188 t189 t190 t191 t192 t193 t194 t195 t196 t197 t198 t199 t200:Value) (w0 w:World) (rb ub:Nat) (u:Adr) (pv:Value) (R:ByteArray)
 (hg0:Gd w0) (h0:Below w0.heap.size w0 w) (hr:AdrIn w rb Adr.zero (.slice none 0 0)) (hu:AdrIn w ub u pv) (hrb:w0.heap.size<=rb) (hub:w0.heap.size<=ub) (hne:rb≠ub)
 (hown:w.ownsRow w0.heap.size 9 1 pv u.path.length (cellsS u.path)) (hR:R.size<=100000):
 X.wp Tryz.prog (bodyPost Tryz.prog Tryz.f115 (ReadPost (.ok (withQuery u R.data.toList)) w0)) { tmps:= #[t0,t1,t2,t3,.pointer (some ⟨rb,0,none⟩),t5,t6,t7,.pointer (some ⟨ub,0,none⟩),.string R,t10,t11,t12,t13,t14,t15,t16,t17,t18,t19,t20,t21,t22,t23,t24,t25,t26,t27,t28,t29,t30,t31,t32,t33,t34,t35,t36,t37,t38,t39,t40,t41,t42,t43,t44,t45,t46,t47,t48,t49,t50,t51,t52,t53,t54,t55,t56,t57,t58,t59,t60,t61,t62,t63,t64,t65,t66,t67,t68,t69,t70,t71,t72,t73,t74,t75,t76,t77,t78,t79,t80,t81,t82,t83,t84,t85,t86,t87,t88,t89,t90,t91,t92,t93,t94,t95,t96,t97,t98,t99,t100,t101,t102,t103,t104,t105,t106,t107,t108,t109,t110,t111,t112,t113,t114,t115,t116,t117,t118,t119,t120,t121,t122,t123,t124,t125,t126,t127,t128,t129,t130,t131,t132,t133,t134,t135,t136,t137,t138,t139,t140,t141,t142,t143,t144,t145,t146,t147,t148,t149,t150,t151,t152,t153,t154,t155,t156,t157,t158,t159,t160,t161,t162,t163,t164,t165,t166,t167,t168,t169,t170,t171,t172,t173,t174,t175,t176,t177,t178,t179,t180,t181,t182,t183,t184,t185,t186,t187,t188,t189,t190,t191,t192,t193,t194,t195,t196,t197,t198,t199,t200],defers:=[] } w:=by
 have HU:=hid hu;have HR:=hid hr;have H0:=hid h0;have HG:=hid hg0;have HO:=hid hown;clear hu hr h0 hg0 hown;unfold Tryz.f115 at hc
 cases hc
 simp only [findLabel] at hf;simp at hf;subst hf;by_cases hR0:R.data.toList=[]
 ·have he:=empty_yes R hR0
  have HN:=hid (show withQuery u R.data.toList=u by rw [withQuery,if_pos hR0]);clear hR0;have hsl:=own_sl HO.out
  go_wp2_with (first | refine wpList_load_mid rfl 24 (.tmp 8) rfl ub 0 rfl (adrCells u pv) _ (range_row HU.out) Tryz.underlying24 rfl (sizeUl u pv) ?_ | refine wpList_store_mid rfl 24 (.tmp 4) (.tmp 200) rfl rb 0 (adrCells u pv).toArray rfl rfl HR.out.there (sizeUa u pv) (all_oneCell_toArray (adrCells_one u pv hsl)) ?_)
  refine bodyPost_ret (results_u2 rfl _ _ rb u pv rfl (range_row HR.out.store)) rfl ⟨pv,?_,?_,below_setCells hrb _ _ _ H0.out⟩
  ·rw [HN.out];rfl
  ·rw [HN.out];exact own_cells HO.out HR.out _ _
 ·have he:=empty_no R hR0
  have hsl:=own_sl HO.out;have hR1:1<=R.size:=by rw [Lib.size_eq];exact List.length_pos_iff.2 hR0
  have hR1':(1:Int)<=(R.size:Int):=by omega
  have hc0:=HU.out.cell 0 _ rfl;obtain ⟨T,hT⟩: ∃ T:ByteArray,T=R.extract 1 R.size:=⟨_,rfl⟩
  have hTl:T.data.toList=R.data.toList.drop 1:=by rw [hT,extract_drop]
  have hTs:T.size<=100000:=by rw [hT];simp;omega
  have HT:=hid hT;obtain ⟨q,hq⟩: ∃ q:ByteArray,q=⟨(querV (specV u.scheme) T.data.toList).toArray⟩:=⟨_,rfl⟩
  have HN:=hid (show withQuery u R.data.toList={ u with query:=q.data.toList,hasQuery:=true } by rw [withQuery,if_neg hR0,hq,hTl]);have HSpec:Hid (∀ w:World,Calls Tryz.prog 69 #[.string ⟨u.scheme.toArray⟩] w fun e w'=>e = .returned (.bool (specV u.scheme))/\w=w'):=fun w=>special_any ⟨u.scheme.toArray⟩ w
  have HQu:Hid (∀ w:World,Calls Tryz.prog 156 #[.string T,.bool (specV u.scheme)] w fun e w'=>e = .returned (.string q)/\Below w.heap.size w w'):=fun w=>by
   have:=readQuery_any T (specV u.scheme) w (by omega)
   rw [<- hq] at this;exact this
  clear hR0 hT hTl hq
  go_wp2
  go_region_with (first | (go_at_call 69;refine (HSpec.out _).mono ?_;rintro e w' ⟨rfl,rfl⟩) | (go_at_call 156;rw [<- HT.out];refine (HQu.out _).mono ?_;rintro e w5 ⟨rfl,hb5⟩;have h5:=HU.out.kept (by first | exact hb5 | exact (Below.refl _ w).drew.trans hb5);have hc8:=h5.cell 8 _ rfl;have hf8:=h5.frozen 8;have hc10:=h5.cell 10 _ rfl;have hf10:=h5.frozen 10))
  have hb05:Below w.heap.size w w5:=by first | exact hb5 | exact (Below.refl _ w).drew.trans hb5
  have h6:AdrIn ((w5.setCell ⟨ub,8,none⟩ (Value.string q)).setCell ⟨ub,10,none⟩ (Value.bool true)) ub { u with query:=q.data.toList,hasQuery:=true } pv:=(h5.set (v:={ u with query:=q.data.toList }) 8 _ rfl).set 10 _ rfl;have h7:AdrIn (w5.setCell ⟨ub,8,none⟩ (Value.string q)) ub { u with query:=q.data.toList } pv:=h5.set 8 _ rfl;have HR6:=hid (((HR.out.kept hb05).set_other hne 8 (.string q)).set_other hne 10 (.bool true));have HB6:=hid (((below2 H0.out hb05).setCell (p:=⟨ub,8,none⟩) hub (.string q)).setCell (p:=⟨ub,10,none⟩) hub (.bool true))
  have HO6:=hid (own_set (own_set (own_below HO.out hb05) h5 8 (.string q)) h7 10 (.bool true));generalize ((w5.setCell ⟨ub,8,none⟩ (Value.string q)).setCell ⟨ub,10,none⟩ (Value.bool true))=w6 at h6 HR6 HB6 HO6 ⊢;have HU6:=hid h6;clear h6 h7 h5 hc8 hf8 hc10 hf10 hb5 hb05
  go_wp2_with (first | refine wpList_load_mid rfl 24 (.tmp 8) rfl ub 0 rfl (adrCells { u with query:=q.data.toList,hasQuery:=true } pv) _ (range_row HU6.out) Tryz.underlying24 rfl (sizeUl _ pv) ?_ | refine wpList_store_mid rfl 24 (.tmp 4) (.tmp 200) rfl rb 0 (adrCells { u with query:=q.data.toList,hasQuery:=true } pv).toArray rfl rfl HR6.out.there (sizeUa _ pv) (all_oneCell_toArray (adrCells_one _ pv hsl)) ?_)
  refine bodyPost_ret (results_u2 rfl _ _ rb { u with query:=q.data.toList,hasQuery:=true } pv rfl (range_row HR6.out.store)) rfl ⟨pv,?_,?_,below_setCells hrb _ _ _ HB6.out⟩
  ·rw [HN.out];rfl
  ·rw [HN.out];exact own_cells HO6.out HR6.out _ _
theorem wp_skip_seq {P:Program} {X:Code} {Q:Exit->Act->World->Prop} {a:Act} {w:World} (h:X.wp P Q a w):(Code.seq .skip X).wp P Q a w:=by
 go_wp2
 exact h
theorem wp_mono {P:Program} {X:Code} {Q Q':Exit->Act->World->Prop} {a:Act} {w:World} (h:X.wp P Q a w) (hq: ∀ e a w,Q e a w->Q' e a w):X.wp P Q' a w:=by
 intro b k cs;obtain ⟨e,a',w',h1,h2⟩:=h b k cs
 exact ⟨e,a',w',hq _ _ _ h1,h2⟩
theorem seg_path (r0 c X Y:Code) (hc:Tryz.f115.body=some (.seq r0 (.scope c))) (hfq:findLabel c 2=some (.seq .skip X)) (hf:findLabel c 1=some (.seq .skip Y)) (t0 t1 t2 t3 t5 t7 t10 t11 t12 t13 t14 t15 t16 t17 t18 t19 t20 t21 t22 t23 t24 t25 t26 t27 t28 t29 t30 t31 t32 t33 t34 t35 t36 t37 t38 t39 t40 t41 t42 t43 t44 t45 t46 t47 t48 t49 t50 t51 t52 t53 t54 t55 t56 t57 t58 t59 t60 t61 t62 t63 t64 t65 t66 t67 t68 t69 t70 t71 t72 t73 t74 t75 t76 t77 t78 t79 t80 t81 t82 t83 t84 t85 t86 t87 t88 t89 t90 t91 t92 t93 t94 t95 t96 t97 t98 t99 t100 t101 t102 t103 t104 t105 t106 t107 t108 t109 t110 t111 t112 t113 t114 t115 t116 t117 t118 t119 t120 t121 t122 t123 t124 t125 t126 t127 t128 t129 t130 t131 t132 t133 t134 t135 t136 t137 t138 t139 t140 t141 t142 t143 t144 t145 t146 t147 t148 t149 t150 t151 t152 t153 t154 t155 t156 t157 t158 t159 t160 t161 t162 t163 t164 t165 t166 t167 t168 t169 t170 t171 t172 t173 t174 t175 t176 t177 t178 t179 t180 t181 t182 t183 t184 t185 t186 t187 t188 t189 t190 t191 t192 t193 t194 t195 t196 t197 t198 t199 t200:Value) (w0 w:World) (rb ub:Nat) (u:Adr) (va:Value) (hv:List (List UInt8)) (R:ByteArray)
 (hg0:Gd w0) (h0:Below w0.heap.size w0 w) (hr:AdrIn w rb Adr.zero (.slice none 0 0)) (hu:AdrIn w ub u (.slice none 0 0)) (hrb:w0.heap.size<=rb) (hub:w0.heap.size<=ub) (hne:rb≠ub)
 (hva:PathAt w va hv) (hvl:hv.length<=100000) (hR:R.size<=100000):
 Y.wp Tryz.prog (bodyPost Tryz.prog Tryz.f115 (ReadPost (.ok (withPath u hv R.data.toList)) w0)) { tmps:= #[t0,t1,t2,t3,.pointer (some ⟨rb,0,none⟩),t5,va,t7,.pointer (some ⟨ub,0,none⟩),.string R,t10,t11,t12,t13,t14,t15,t16,t17,t18,t19,t20,t21,t22,t23,t24,t25,t26,t27,t28,t29,t30,t31,t32,t33,t34,t35,t36,t37,t38,t39,t40,t41,t42,t43,t44,t45,t46,t47,t48,t49,t50,t51,t52,t53,t54,t55,t56,t57,t58,t59,t60,t61,t62,t63,t64,t65,t66,t67,t68,t69,t70,t71,t72,t73,t74,t75,t76,t77,t78,t79,t80,t81,t82,t83,t84,t85,t86,t87,t88,t89,t90,t91,t92,t93,t94,t95,t96,t97,t98,t99,t100,t101,t102,t103,t104,t105,t106,t107,t108,t109,t110,t111,t112,t113,t114,t115,t116,t117,t118,t119,t120,t121,t122,t123,t124,t125,t126,t127,t128,t129,t130,t131,t132,t133,t134,t135,t136,t137,t138,t139,t140,t141,t142,t143,t144,t145,t146,t147,t148,t149,t150,t151,t152,t153,t154,t155,t156,t157,t158,t159,t160,t161,t162,t163,t164,t165,t166,t167,t168,t169,t170,t171,t172,t173,t174,t175,t176,t177,t178,t179,t180,t181,t182,t183,t184,t185,t186,t187,t188,t189,t190,t191,t192,t193,t194,t195,t196,t197,t198,t199,t200],defers:=[] } w:=by
 have HU:=hid hu;have HR:=hid hr;have H0:=hid h0;have HG:=hid hg0;have HVa:=hid hva;clear hu hr h0 hg0 hva;have HSeg:=hid (@seg_query r0 c X hc hfq);have hc2:=hc;clear hc;unfold Tryz.f115 at hc2
 cases hc2
 simp only [findLabel] at hf hfq;simp at hf hfq;subst hf;subst hfq;have hal:=ahead_le [63] R.data.toList;obtain ⟨A,hA⟩: ∃ A:ByteArray,A=⟨(aheadV [63] R.data.toList).1.toArray⟩:=⟨_,rfl⟩
 obtain ⟨T,hT⟩: ∃ A:ByteArray,A=⟨(aheadV [63] R.data.toList).2.toArray⟩:=⟨_,rfl⟩
 have hAs:A.size<=100000:=by rw [hA];exact size_le hal.1 hR
 have hTs:T.size<=100000:=by rw [hT];exact size_le hal.2 hR
 have HCut:Hid (∀ w:World,Calls Tryz.prog 152 #[.string R,.string ⟨#[63]⟩] w fun e w'=>e = .returned (.tuple #[.string A,.string T])/\Below w.heap.size w w'):=fun w=>by
  have:=cutAhead1_any R w (by omega)
  rw [<- hA,<- hT] at this;exact this
 have HSpec:Hid (∀ w:World,Calls Tryz.prog 69 #[.string ⟨u.scheme.toArray⟩] w fun e w'=>e = .returned (.bool (specV u.scheme))/\w=w'):=fun w=>special_any ⟨u.scheme.toArray⟩ w
 have HN:=hid (show withPath u hv R.data.toList=withQuery { u with path:=pathV (specV u.scheme) hv A.data.toList } T.data.toList by rw [hA,hT];rfl);clear hal hA hT
 go_wp2_with fail
 refine (HCut.out w).mono ?_;rintro e w1 ⟨rfl,hb1⟩
 have hu1:=HU.out.kept hb1;have hc0:=hu1.cell 0 _ rfl;have HU1:=hid hu1;have HR1:=hid (HR.out.kept hb1);have HB1:=hid (below2 H0.out hb1);have HV1:=hid (HVa.out.kept hb1);clear hu1 hb1
 go_wp2_with fail
 refine (HSpec.out w1).mono ?_;rintro e w' ⟨rfl,rfl⟩
 go_wp2_with fail
 refine (readPath_any A va hv (specV u.scheme) w1 (HG.out.kept HB1.out) hAs HV1.out hvl).mono ?_;rintro e w2 ⟨pv,rfl,hown,hb2⟩
 have h2:=HU1.out.kept hb2;have hc7:=h2.cell 7 _ rfl;have hf7:=h2.frozen 7;have HU2:=hid h2;have HR2:=hid (HR1.out.kept hb2);have HB2:=hid (below2 HB1.out hb2);have HO2:=hid (ownsRow_lower hown HB1.out.size);clear h2 hb2;obtain ⟨pa,pn,pc,hpv⟩:=own_sl hown
 subst hpv;clear hown
 go_wp2
 go_step3
 rename_i K hK;refine hK _ _ ?_;clear hK K;rw [HN.out];apply HSeg.out
 ·exact HG.out
 ·exact HB2.out.setCell (p:=⟨ub,7,none⟩) hub _
 ·exact HR2.out.set_other hne 7 _
 ·exact HU2.out.set (v:={ u with path:=pathV (specV u.scheme) hv A.data.toList }) (qv:= .slice pa pn pc) 7 _ rfl
 ·exact hrb
 ·exact hub
 ·exact hne
 ·exact own_set HO2.out HU2.out 7 _
 ·exact hTs
theorem withAuth_bad {u:Adr} {r:List UInt8} {e:Int} (h:authV u.scheme (aheadV [47,63] r).1 = .error e):withAuth u r = .error e:=by rw [withAuth,h]
theorem withAuth_ok {u:Adr} {r a b c:List UInt8} {p:Int} (h:authV u.scheme (aheadV [47,63] r).1 = .ok (a,b,c,p)):withAuth u r = .ok (withPath { u with user:=a,pass:=b,host:=c,hasHost:=true,port:=p } [] (aheadV [47,63] r).2):=by rw [withAuth,h]
theorem authV_err {sc s:List UInt8} {e:Int} (h:authV sc s = .error e):e=10∨e=11:=by
 unfold authV at h;split at h
 ·cases h;exact .inr rfl
 ·split at h
  ·cases h;exact .inl rfl
  ·split at h
   ·cases h;exact .inl rfl
   ·cases h
theorem seg_auth (r0 c X Y Z:Code) (hc:Tryz.f115.body=some (.seq r0 (.scope c))) (hfq:findLabel c 2=some (.seq .skip X)) (hfp:findLabel c 1=some (.seq .skip Y)) (hf:findLabel c 3=some (.seq .skip Z)) (t0 t1 t2 t3 t5 t7 t10 t11 t12 t13 t14 t15 t16 t17 t18 t19 t20 t21 t22 t23 t24 t25 t26 t27 t28 t29 t30 t31 t32 t33 t34 t35 t36 t37 t38 t39 t40 t41 t42 t43 t44 t45 t46 t47 t48 t49 t50 t51 t52 t53 t54 t55 t56 t57 t58 t59 t60 t61 t62 t63 t64 t65 t66 t67 t68 t69 t70 t71 t72 t73 t74 t75 t76 t77 t78 t79 t80 t81 t82 t83 t84 t85 t86 t87 t88 t89 t90 t91 t92 t93 t94 t95 t96 t97 t98 t99 t100 t101 t102 t103 t104 t105 t106 t107 t108 t109 t110 t111 t112 t113 t114 t115 t116 t117 t118 t119 t120 t121 t122 t123 t124 t125 t126 t127 t128 t129 t130 t131 t132 t133 t134 t135 t136 t137 t138 t139 t140 t141 t142 t143 t144 t145 t146 t147 t148 t149 t150 t151 t152 t153 t154 t155 t156 t157 t158 t159 t160 t161 t162 t163 t164 t165 t166 t167 t168 t169 t170 t171 t172 t173 t174 t175 t176 t177 t178 t179 t180 t181 t182 t183 t184 t185 t186 t187 t188 t189 t190 t191 t192 t193 t194 t195 t196 t197 t198 t199 t200:Value) (w0 w:World) (rb ub:Nat) (u:Adr) (R:ByteArray)
 (hg0:Gd w0) (h0:Below w0.heap.size w0 w) (hr:AdrIn w rb Adr.zero (.slice none 0 0)) (hu:AdrIn w ub u (.slice none 0 0)) (hrb:w0.heap.size<=rb) (hrub:rb<ub) (hR:R.size<=100000):
 Z.wp Tryz.prog (bodyPost Tryz.prog Tryz.f115 (ReadPost (withAuth u R.data.toList) w0)) { tmps:= #[t0,t1,t2,t3,.pointer (some ⟨rb,0,none⟩),t5,.slice none 0 0,t7,.pointer (some ⟨ub,0,none⟩),.string R,t10,t11,t12,t13,t14,t15,t16,t17,t18,t19,t20,t21,t22,t23,t24,t25,t26,t27,t28,t29,t30,t31,t32,t33,t34,t35,t36,t37,t38,t39,t40,t41,t42,t43,t44,t45,t46,t47,t48,t49,t50,t51,t52,t53,t54,t55,t56,t57,t58,t59,t60,t61,t62,t63,t64,t65,t66,t67,t68,t69,t70,t71,t72,t73,t74,t75,t76,t77,t78,t79,t80,t81,t82,t83,t84,t85,t86,t87,t88,t89,t90,t91,t92,t93,t94,t95,t96,t97,t98,t99,t100,t101,t102,t103,t104,t105,t106,t107,t108,t109,t110,t111,t112,t113,t114,t115,t116,t117,t118,t119,t120,t121,t122,t123,t124,t125,t126,t127,t128,t129,t130,t131,t132,t133,t134,t135,t136,t137,t138,t139,t140,t141,t142,t143,t144,t145,t146,t147,t148,t149,t150,t151,t152,t153,t154,t155,t156,t157,t158,t159,t160,t161,t162,t163,t164,t165,t166,t167,t168,t169,t170,t171,t172,t173,t174,t175,t176,t177,t178,t179,t180,t181,t182,t183,t184,t185,t186,t187,t188,t189,t190,t191,t192,t193,t194,t195,t196,t197,t198,t199,t200],defers:=[] } w:=by
 have HU:=hid hu;have HR:=hid hr;have H0:=hid h0;have HG:=hid hg0;clear hu hr h0 hg0;have HSeg:=hid (@seg_path r0 c X Y hc hfq hfp);have hc2:=hc;clear hc;unfold Tryz.f115 at hc2
 cases hc2
 simp only [findLabel] at hf hfp;simp at hf hfp;subst hf;subst hfp;clear hfq;have hal:=ahead_le [47,63] R.data.toList
 obtain ⟨A,hA⟩: ∃ A:ByteArray,A=⟨(aheadV [47,63] R.data.toList).1.toArray⟩:=⟨_,rfl⟩
 obtain ⟨T,hT⟩: ∃ A:ByteArray,A=⟨(aheadV [47,63] R.data.toList).2.toArray⟩:=⟨_,rfl⟩
 have hAs:A.size<=100000:=by rw [hA];exact size_le hal.1 hR
 have hTs:T.size<=100000:=by rw [hT];exact size_le hal.2 hR
 have hAl:A.data.toList=(aheadV [47,63] R.data.toList).1:=by rw [hA]
 have hTl:T.data.toList=(aheadV [47,63] R.data.toList).2:=by rw [hT]
 have HCut:Hid (∀ w:World,Calls Tryz.prog 152 #[.string R,.string ⟨#[47,63]⟩] w fun e w'=>e = .returned (.tuple #[.string A,.string T])/\Below w.heap.size w w'):=fun w=>by
  have:=cutAhead2_any R w (by omega)
  rw [<- hA,<- hT] at this;exact this
 have HAl:=hid hAl;have HTl:=hid hTl;clear hal hA hT hAl hTl
 go_wp2_with fail
 refine (HCut.out w).mono ?_;rintro e w1 ⟨rfl,hb1⟩
 have HU1:=hid (HU.out.kept hb1);have HR1:=hid (HR.out.kept hb1);have HB1:=hid (below2 H0.out hb1);clear hb1
 go_wp2_with fail
 refine (readAuthority_any A ub u (.slice none 0 0) w0 w1 HG.out HB1.out (by omega) hAs HU1.out).mono ?_;rintro e w2 ⟨rfl,hb2,hok⟩
 have HB2:=hid (HB1.out.trans (hb2.mono (by omega)));have HR2:=hid (show AdrIn w2 rb Adr.zero (.slice none 0 0) by
  unfold AdrIn;rw [hb2.block rb hrub];exact HR1.out)
 have HOk:=hid hok;clear hok hb2
 cases hau:authV u.scheme A.data.toList with
 | error n=>
   have hn:=authV_err hau;have hn':(n==0)=false:=by rw [beq_eq_false_iff_ne];omega
   have HN:=hid (withAuth_bad (u:=u) (r:=R.data.toList) (by rw [<- HAl.out];exact hau));have e1:authE (Except.error n:Except Int (List UInt8×List UInt8×List UInt8×Int))=n:=rfl;rw [e1];clear hau hn HOk e1
   go_wp2_with (refine wpList_store_mid rfl 24 (.tmp 4) (.tmp 176) rfl rb 0 (adrCells Adr.zero (.slice none 0 0)).toArray rfl rfl HR2.out.there (sizeUa _ _) (all_oneCell_toArray (adrCells_one _ _ ⟨_,_,_,rfl⟩)) ?_)
   refine bodyPost_ret (results_u2 rfl _ _ rb Adr.zero (.slice none 0 0) rfl (range_row HR2.out.store)) rfl ⟨.slice none 0 0,?_,?_,below_setCells hrb _ _ _ HB2.out⟩
   ·rw [HN.out];rfl
   ·rw [HN.out];exact own_nil _ _ _
 | ok x=>
   obtain ⟨a,b,h,p⟩:=x
   have HN:=hid (withAuth_ok (u:=u) (r:=R.data.toList) (by rw [<- HAl.out];exact hau));have h3:=HOk.out (by rw [hau];rfl)
   rw [hau] at h3;have HU2:=hid (show AdrIn w2 ub { u with user:=a,pass:=b,host:=h,hasHost:=true,port:=p } (.slice none 0 0) from h3);have e1:authE (Except.ok (a,b,h,p):Except Int (List UInt8×List UInt8×List UInt8×Int))=0:=rfl;rw [e1];clear hau HOk h3 e1
   go_wp2
   go_step3
   rename_i K hK;refine hK _ _ ?_;clear hK K;rw [HN.out,<- HTl.out]
   apply HSeg.out
   ·exact HG.out
   ·exact HB2.out
   ·exact HR2.out
   ·exact HU2.out
   ·exact hrb
   ·omega
   ·omega
   ·exact .inl ⟨rfl,rfl⟩
   ·simp
   ·exact hTs
theorem bp_fwd {P:Program} {fn:Func} {R:Ending->World->Prop} {c:Code} (n:Nat): ∀ e a w,bodyPost P fn R e a w->exitFwd P c (bodyPost P fn R) n e a w:=by
 intro e a w h
 cases e with
 | goto l=>exact h.elim
 | normal=>rw [exitFwd_normal];exact h
 | exit i=>rw [exitFwd_exit];exact h
 | ret=>rw [exitFwd_ret];exact h
 | panic ch=>rw [exitFwd_panic];exact h
 | outgrown=>cases n<;>exact h
theorem skip_le (l:List UInt8):(skip47 l).length<=l.length:=(List.dropWhile_suffix _).length_le
theorem hasP_len {l p:List UInt8} (h:Lib.hasPrefix l p=true):p.length<=l.length:=by
 have:p.isPrefixOf l=true:=h;rw [List.isPrefixOf_iff_prefix] at this;exact this.length_le
theorem seg_start (r0 c X Y Z S:Code) (hc:Tryz.f115.body=some (.seq r0 (.scope c))) (hfq:findLabel c 2=some (.seq .skip X)) (hfp:findLabel c 1=some (.seq .skip Y)) (hfa:findLabel c 3=some (.seq .skip Z)) (hf:findLabel c 0=some (.seq .skip S)) (n:Nat) (t0 t1 t2 t3 t5 t7 t10 t11 t12 t13 t14 t15 t16 t17 t18 t19 t20 t21 t22 t23 t24 t25 t26 t27 t28 t29 t30 t31 t32 t33 t34 t35 t36 t37 t38 t39 t40 t41 t42 t43 t44 t45 t46 t47 t48 t49 t50 t51 t52 t53 t54 t55 t56 t57 t58 t59 t60 t61 t62 t63 t64 t65 t66 t67 t68 t69 t70 t71 t72 t73 t74 t75 t76 t77 t78 t79 t80 t81 t82 t83 t84 t85 t86 t87 t88 t89 t90 t91 t92 t93 t94 t95 t96 t97 t98 t99 t100 t101 t102 t103 t104 t105 t106 t107 t108 t109 t110 t111 t112 t113 t114 t115 t116 t117 t118 t119 t120 t121 t122 t123 t124 t125 t126 t127 t128 t129 t130 t131 t132 t133 t134 t135 t136 t137 t138 t139 t140 t141 t142 t143 t144 t145 t146 t147 t148 t149 t150 t151 t152 t153 t154 t155 t156 t157 t158 t159 t160 t161 t162 t163 t164 t165 t166 t167 t168 t169 t170 t171 t172 t173 t174 t175 t176 t177 t178 t179 t180 t181 t182 t183 t184 t185 t186 t187 t188 t189 t190 t191 t192 t193 t194 t195 t196 t197 t198 t199 t200:Value) (w0 w:World) (rb ub:Nat) (u:Adr) (R:ByteArray)
 (hg0:Gd w0) (h0:Below w0.heap.size w0 w) (hr:AdrIn w rb Adr.zero (.slice none 0 0)) (hu:AdrIn w ub u (.slice none 0 0)) (hrb:w0.heap.size<=rb) (hrub:rb<ub) (hR:R.size<=100000):
 S.wp Tryz.prog (exitFwd Tryz.prog c (bodyPost Tryz.prog Tryz.f115 (ReadPost (startV u R.data.toList) w0)) (n+1)) { tmps:= #[t0,t1,t2,t3,.pointer (some ⟨rb,0,none⟩),t5,.slice none 0 0,t7,.pointer (some ⟨ub,0,none⟩),.string R,t10,t11,t12,t13,t14,t15,t16,t17,t18,t19,t20,t21,t22,t23,t24,t25,t26,t27,t28,t29,t30,t31,t32,t33,t34,t35,t36,t37,t38,t39,t40,t41,t42,t43,t44,t45,t46,t47,t48,t49,t50,t51,t52,t53,t54,t55,t56,t57,t58,t59,t60,t61,t62,t63,t64,t65,t66,t67,t68,t69,t70,t71,t72,t73,t74,t75,t76,t77,t78,t79,t80,t81,t82,t83,t84,t85,t86,t87,t88,t89,t90,t91,t92,t93,t94,t95,t96,t97,t98,t99,t100,t101,t102,t103,t104,t105,t106,t107,t108,t109,t110,t111,t112,t113,t114,t115,t116,t117,t118,t119,t120,t121,t122,t123,t124,t125,t126,t127,t128,t129,t130,t131,t132,t133,t134,t135,t136,t137,t138,t139,t140,t141,t142,t143,t144,t145,t146,t147,t148,t149,t150,t151,t152,t153,t154,t155,t156,t157,t158,t159,t160,t161,t162,t163,t164,t165,t166,t167,t168,t169,t170,t171,t172,t173,t174,t175,t176,t177,t178,t179,t180,t181,t182,t183,t184,t185,t186,t187,t188,t189,t190,t191,t192,t193,t194,t195,t196,t197,t198,t199,t200],defers:=[] } w:=by
 have HU:=hid hu;have HR:=hid hr;have H0:=hid h0;have HG:=hid hg0;clear hu hr h0 hg0;have HSQ:=hid (@seg_query r0 c X hc hfq);have HSP:=hid (@seg_path r0 c X Y hc hfq hfp);have HSA:=hid (@seg_auth r0 c X Y Z hc hfq hfp hfa);have HFQ:=hid hfq;have HFP:=hid hfp;have HFA:=hid hfa;clear hfq hfp hfa;have hc2:=hc;clear hc;generalize hQ:exitFwd Tryz.prog c (bodyPost Tryz.prog Tryz.f115 (ReadPost (startV u R.data.toList) w0)) (n+1)=Q
 have HJ:Hid (∀ (l:Nat) (C:Code) a w,findLabel c l=some (.seq .skip C)->C.wp Tryz.prog (bodyPost Tryz.prog Tryz.f115 (ReadPost (startV u R.data.toList) w0)) a w->Q (.goto l) a w):=fun l C a w hl hw=>by
  rw [<- hQ];exact exitFwd_goto _ hl (wp_skip_seq (wp_mono hw (bp_fwd n)))
 clear hQ;unfold Tryz.f115 at hc2
 cases hc2
 simp only [findLabel] at hf;simp at hf;subst hf;have hc0:=HU.out.cell 0 _ rfl;obtain ⟨A,hA⟩: ∃ A:ByteArray,A=⟨(slashedV u.scheme R.data.toList).toArray⟩:=⟨_,rfl⟩
 have hAl:A.data.toList=slashedV u.scheme R.data.toList:=by rw [hA]
 have hAs:A.size<=100000:=by rw [hA];exact size_le (by rw [slashed_len];exact Nat.le_refl _) hR
 have HSl:Hid (∀ w:World,Gd w->Calls Tryz.prog 150 #[.string R,.string ⟨u.scheme.toArray⟩] w fun e w'=>e = .returned (.string A)/\Below w.heap.size w w'):=fun w hg=>by
  have:=slashed_any R ⟨u.scheme.toArray⟩ w hg (by omega)
  rw [show (⟨u.scheme.toArray⟩:ByteArray).data.toList=u.scheme from rfl,<- hA] at this;exact this
 have HSpec:Hid (∀ w:World,Calls Tryz.prog 69 #[.string ⟨u.scheme.toArray⟩] w fun e w'=>e = .returned (.bool (specV u.scheme))/\w=w'):=fun w=>special_any ⟨u.scheme.toArray⟩ w
 have HAl:=hid hAl;clear hA hAl
 go_wp2_with fail
 refine (HSl.out w (HG.out.kept H0.out)).mono ?_;rintro e w1 ⟨rfl,hb1⟩
 have hu1:=HU.out.kept hb1;have hc1:=hu1.cell 0 _ rfl;have HU1:=hid hu1;have HR1:=hid (HR.out.kept hb1);have HB1:=hid (below2 H0.out hb1);clear hu1 hb1 hc0
 go_wp2_with fail
 refine (HSpec.out w1).mono ?_;rintro e w' ⟨rfl,rfl⟩
 by_cases hsp:specV u.scheme=true
 ·rw [hsp]
  have hAl2:=HAl.out;rw [slashedV,if_pos hsp] at hAl2
  obtain ⟨T,hT⟩: ∃ T:ByteArray,T=⟨(skip47 A.data.toList).toArray⟩:=⟨_,rfl⟩
  have hTs:T.size<=100000:=by rw [hT];exact size_le (skip_le _) hAs
  have HN:=hid (show startV u R.data.toList=withAuth u T.data.toList by rw [startV,if_pos hsp,hT,hAl2]);have HTr:Hid (∀ w:World,Calls Tryz.prog 151 #[.string A,.string ⟨#[47]⟩] w fun e w'=>e = .returned (.string T)/\w=w'):=fun w=>by
   have:=Tryz.strings_TrimLeft_one A 47 (by decide) w
   rw [show Lib.trimLeftB A.data.toList 47=skip47 A.data.toList from rfl,<- hT] at this;exact this.mono fun e w' ⟨h,h'⟩=>⟨h,h'.symm⟩
  clear hsp hAl2 hT
  go_wp2_with (go_at_call 151;refine (HTr.out _).mono ?_;rintro e w' ⟨rfl,rfl⟩)
  go_step3
  refine HJ.out _ _ _ _ HFA.out ?_;rw [HN.out];apply HSA.out
  ·exact HG.out
  ·exact HB1.out
  ·exact HR1.out
  ·exact HU1.out
  ·exact hrb
  ·exact hrub
  ·exact hTs
 ·have hsp':specV u.scheme=false:=by simpa using hsp
  rw [hsp'];have hAl2:=HAl.out;rw [slashedV,hsp'] at hAl2
  have hAl3:A.data.toList=R.data.toList:=hAl2;by_cases h2:Lib.hasPrefix A.data.toList [47,47]=true
  ·have hA2:2<=A.size:=by rw [Lib.size_eq];exact hasP_len h2
   have hA2':(2:Int)<=(A.size:Int):=by omega
   obtain ⟨T,hT⟩: ∃ T:ByteArray,T=A.extract 2 A.size:=⟨_,rfl⟩
   have hTs:T.size<=100000:=by rw [hT];simp<;>omega
   have HN:=hid (show startV u R.data.toList=withAuth u T.data.toList by rw [startV,hsp',if_neg (by decide),<- hAl3,if_pos h2,hT,extract_drop]);have HT:=hid hT;clear hsp hAl2 hAl3 hT
   go_wp2_with (go_at_call 122;refine (hasPrefix_any _ _ _).mono ?_;rintro e w' ⟨rfl,rfl⟩;rw [show (⟨#[47,47]⟩:ByteArray).data.toList=[47,47] from rfl,h2])
   go_step3
   refine HJ.out _ _ _ _ HFA.out ?_;rw [HN.out,<- HT.out]
   apply HSA.out
   ·exact HG.out
   ·exact HB1.out
   ·exact HR1.out
   ·exact HU1.out
   ·exact hrb
   ·exact hrub
   ·exact hTs
  ·have h2':Lib.hasPrefix A.data.toList [47,47]=false:=by simpa using h2
   by_cases h1:Lib.hasPrefix A.data.toList [47]=true
   ·have HN:=hid (show startV u R.data.toList = .ok (withPath u [] A.data.toList) by rw [startV,hsp',if_neg (by decide),<- hAl3,if_neg h2,if_pos h1])
    clear hsp hAl2 hAl3 h2
    go_wp2_with (go_at_call 122;refine (hasPrefix_any _ _ _).mono ?_;rintro e w' ⟨rfl,rfl⟩;first | rw [show (⟨#[47,47]⟩:ByteArray).data.toList=[47,47] from rfl,h2'] | rw [show (⟨#[47]⟩:ByteArray).data.toList=[47] from rfl,h1])
    go_step3
    refine HJ.out _ _ _ _ HFP.out ?_;rw [HN.out];apply HSP.out
    ·exact HG.out
    ·exact HB1.out
    ·exact HR1.out
    ·exact HU1.out
    ·exact hrb
    ·omega
    ·omega
    ·exact .inl ⟨rfl,rfl⟩
    ·simp
    ·exact hAs
   ·have h1':Lib.hasPrefix A.data.toList [47]=false:=by simpa using h1
    have hal:=ahead_le [63] A.data.toList;obtain ⟨P,hP⟩: ∃ A':ByteArray,A'=⟨(aheadV [63] A.data.toList).1.toArray⟩:=⟨_,rfl⟩
    obtain ⟨T,hT⟩: ∃ A':ByteArray,A'=⟨(aheadV [63] A.data.toList).2.toArray⟩:=⟨_,rfl⟩
    have hPs:P.size<=100000:=by rw [hP];exact size_le hal.1 hAs
    have hTs:T.size<=100000:=by rw [hT];exact size_le hal.2 hAs
    obtain ⟨D,hD⟩: ∃ D:ByteArray,D=⟨(pct 1 P.data.toList).toArray⟩:=⟨_,rfl⟩
    have HCut:Hid (∀ w:World,Calls Tryz.prog 152 #[.string A,.string ⟨#[63]⟩] w fun e w'=>e = .returned (.tuple #[.string P,.string T])/\Below w.heap.size w w'):=fun w=>by
     have:=cutAhead1_any A w (by omega)
     rw [<- hP,<- hT] at this;exact this
    have HPc:Hid (∀ w:World,Calls Tryz.prog 153 #[.string P,.int .i64 1] w fun e w'=>e = .returned (.string D)/\Below w.heap.size w w'):=fun w=>by
     have:=percent_any P 1 w (by omega)
     rw [<- hD] at this;exact this
    have HN:=hid (show startV u R.data.toList = .ok (withQuery { u with opq:=true,path:=[D.data.toList] } T.data.toList) by rw [startV,hsp',if_neg (by decide),<- hAl3,if_neg h2,if_neg h1,hD,hP,hT]);clear hsp hAl2 hAl3 h2 h1 hal hP hT hD
    go_wp2_with (go_at_call 122;refine (hasPrefix_any _ _ _).mono ?_;rintro e w' ⟨rfl,rfl⟩;first | rw [show (⟨#[47,47]⟩:ByteArray).data.toList=[47,47] from rfl,h2'] | rw [show (⟨#[47]⟩:ByteArray).data.toList=[47] from rfl,h1'])
    refine (HCut.out w1).mono ?_;rintro e w2 ⟨rfl,hb2⟩
    have HU2:=hid (HU1.out.kept hb2);have HR2:=hid (HR1.out.kept hb2);have HB2:=hid (below2 HB1.out hb2);clear hb2
    go_wp2_with fail
    refine (HPc.out w2).mono ?_;rintro e w3 ⟨rfl,hb3⟩
    have HU3:=hid (HU2.out.kept hb3);have HR3:=hid (HR2.out.kept hb3);have HB3:=hid (below2 HB2.out hb3);clear hb3;have hb4:Below w3.heap.size w3 (w3.alloc (.cells #[.string D] 9)):=(Below.refl _ w3).alloc (Nat.le_refl _) _;have h4:=HU3.out.kept hb4;have hc6:=h4.cell 6 _ rfl;have hf6:=h4.frozen 6;have hc7:=h4.cell 7 _ rfl;have hf7:=h4.frozen 7;have HU4:=hid h4;have HR4:=hid (HR3.out.kept hb4);have HB4:=hid (below2 HB3.out hb4);have HO4:=hid (show (w3.alloc (.cells #[.string D] 9)).ownsRow w0.heap.size 9 1 (.slice (some ⟨w3.heap.size,0,none⟩) 1 1) 1 (cellsS [D.data.toList]) from
     ⟨rfl,.inr ⟨w3.heap.size,1,#[.string D],rfl,HB3.out.size,heap_alloc_new w3 _,Nat.le_refl _,by unfold maxLen;decide,rfl,rfl⟩⟩)
    clear h4 hb4
    go_wp2
    go_step3
    refine HJ.out _ _ _ _ HFQ.out ?_;rw [HN.out];apply HSQ.out
    ·exact HG.out
    ·exact (HB4.out.setCell (p:=⟨ub,6,none⟩) (show w0.heap.size<=ub by omega) _).setCell (p:=⟨ub,7,none⟩) (show w0.heap.size<=ub by omega) _
    ·exact (HR4.out.set_other (by omega) 6 _).set_other (by omega) 7 _
    ·exact (HU4.out.set (v:={ u with opq:=true }) 6 _ rfl).set (v:={ u with opq:=true,path:=[D.data.toList] }) (qv:= .slice (some ⟨w3.heap.size,0,none⟩) 1 1) 7 _ rfl
    ·exact hrb
    ·omega
    ·omega
    ·exact own_set (own_set HO4.out HU4.out 6 _) (HU4.out.set (v:={ u with opq:=true }) (qv:= .slice none 0 0) 6 _ rfl) 7 _
    ·exact hTs
end Go.Proofs.YtijpkalkfbejeaaGreatDoor
