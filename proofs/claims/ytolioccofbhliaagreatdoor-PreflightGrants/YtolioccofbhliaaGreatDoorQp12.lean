/-
  Walks and plain facts that this claim leans on, put together out of 2 texts: Tj, Tk.
-/
import Derived.Test.YtolioccofbhliaaGreatDoorProg
import Derived.Test.YtolioccofbhliaaGreatDoorQp1
import Derived.Test.YtolioccofbhliaaGreatDoorQp2
import Derived.Test.YtolioccofbhliaaGreatDoorQp3
import Derived.Test.YtolioccofbhliaaGreatDoorQp4
import Derived.Test.YtolioccofbhliaaGreatDoorQp5
import Derived.Test.YtolioccofbhliaaGreatDoorQp8
import Derived.Test.YtolioccofbhliaaGreatDoorQp11
import Derived.Lib.IndexMore
import Derived.Lib.Join
import Derived.Lib.LastIndexByte
import Derived.WalkKit
import Derived.Lib.Strings
import Derived.Lib.UnsafeStr
import Derived.Laws.IdiomStrings
import Derived.Laws.AppendOwn
import Derived.Laws.BitsAllLaws
import Derived.Lib.Bytealg
import Derived.Lib.BufferMore
import Derived.Lib.BufferRead
import Derived.Lib.RuneBytes
import Derived.Laws.RangeAny
import Derived.LoopN
import Derived.RegionTactic
import Derived.Deep.RegionWith
import Derived.Deep.QuietTactic
import Derived.BigQuiet
import Derived.OwnWalk
import Derived.Deep.RegionLaw
import Derived.Laws.OwnMore
import Derived.Deep.LoopGhost
import Derived.Shelf.Strings.Builder1
import Derived.Shelf.Strings.Builder2
import Derived.Shelf.Strings.OnBuilder
import Derived.Shelf.Strings.Trim
import Derived.Shelf.Small.Utf8
import Derived.Shelf.Small.Bits
import Derived.Shelf.Small.Strs
import Derived.Shelf.Small.Wraps
import Derived.Shelf.Strings.BuilderF
import Derived.Shelf.Strings.BuilderK
import Derived.Shelf.Strings.Builder2Cap
import Derived.Shelf.Strconv.Itoa0
import Derived.Shelf.Strconv.Itoa1
import Derived.Shelf.LaysM
import Derived.Shelf.Strconv.Itoa2
import Derived.Shelf.Strconv.Itoa3
import Derived.Shelf.Strings.Search1
import Derived.Shelf.Strings.Search2
import Derived.Shelf.Strings.Cut
import Derived.Shelf.Strings.Shaped
import Derived.Shelf.Sort.Plain
import Derived.Shelf.Strings.Prefix
import Derived.Shelf.Strings.Runes
import Derived.Shelf.Strings.IndexAny
import Derived.Shelf.Strings.AsciiSet
import Derived.Shelf.Strings.IndexAnyAll
import Derived.Shelf.Unicode.DecodeSlow
import Derived.Shelf.Unicode.DecodeAny
import Derived.Shelf.Unicode.DecodeLast
import Derived.Shelf.Slices.CompactS
import Derived.Shelf.Slices.In.SortNone
import Derived.Ground.SlgnProg
import Derived.Shelf.SlicesE.Compact
import Derived.Ground.SlgfProg
import Derived.Shelf.SlicesE.IndexFunc
import Derived.Shelf.SlicesE.DeleteFunc
import Derived.BigRegion
import Derived.Laws.AppendOwnNone
import Derived.Deep.Cut
import Derived.Scope
import Derived.ScopeJumps
import Derived.WalkMore
import Derived.Lib.IndexAny
import Derived.Lib.Replace
import Derived.Lib.TrimByte
import Derived.Lib.ItoaNum
import Derived.Lib.DecodeN
import Derived.Lib.OthersKept
import Derived.Laws.BytesString
import Derived.Deep.WholeRow
import Derived.WalkSpells
import Derived.WalkLawsBesides
import Derived.Lib.AppendIntMem
import Derived.Lib.SmallJoins
import Derived.WalkSmall
import Derived.Laws.CopyOwn
import Derived.Laws.ResultCell
import Derived.Deep.MidRow
import Derived.Lib.FrozenHead2
import Derived.Lib.Builder
set_option linter.unusedSimpArgs false
set_option linter.unusedVariables false

namespace Go.Proofs.YtolioccofbhliaaGreatDoor
open Go.RowKit

theorem at_here (s:ByteArray) (i:Nat) (hi:i<s.size) (h:s[i]=64) (hno:64 ∉ s.data.toList.drop (i+1)):atV s.data.toList=(s.data.toList.take i,s.data.toList.drop (i+1)):=by
 have e:s.data.toList=s.data.toList.take i++64::s.data.toList.drop (i+1):=by
  have:=(List.take_append_drop i s.data.toList).symm;rw [drop_cons s i hi,h] at this;exact this
 have h2:=at_some (s.data.toList.take i) (s.data.toList.drop (i+1)) hno;rw [← e] at h2;exact h2

theorem drop_at (s:ByteArray) (i k:Nat) (hi:i<k) (hk:k<s.size):(s.data.toList.take (k+1)).drop (i+1)=(s.data.toList.take k).drop (i+1)++[s[k]]:=by
 rw [take_snoc s k hk,List.drop_append_of_le_length (by simp;omega)]

theorem portB {own:Int} {t:List UInt8} (h:t≠[]) (hb:intOk t=false∨65535<intV t):portV own t=none:=by
 unfold portV;rw [if_neg h];have:(intOk t&&decide (intV t≤65535))=false:=by
  rcases hb with h1 | h1
  ·rw [h1];rfl
  ·rw [decide_eq_false (by omega),Bool.and_false]
 rw [this];rfl

theorem portG {own:Int} {t:List UInt8} (h:t≠[]) (h1:intOk t=true) (h2:intV t≤65535):portV own t=some (if intV t=own then -1 else intV t):=by
 unfold portV;rw [if_neg h,h1,decide_eq_true h2];rfl

set_option maxHeartbeats 8000000 in
set_option maxRecDepth 100000 in
theorem rauthority_any (s:ByteArray) (b:Nat) (u:Adr) (pv:Value) (w:World) (hs:s.size≤100000) (hA:AdrIn w b u pv) (hup:u.user=[]∧u.pass=[]):
 Calls Tryz.prog 240 #[.pointer (some ⟨b,0,none⟩),.string s] w (AuthPost b u pv (authV u.scheme s.data.toList) w):=by
 have HAd:=hid hA;have HLt:=hid (Nat.le_of_lt hA.lt);have HUp:=hid hup;clear hA hup;obtain ⟨res,hres⟩: ∃ r,r=authV u.scheme s.data.toList:=⟨_,rfl⟩
 rw [← hres];have HRes:=hid hres;clear hres;have HOwn:Hid (∀ w:World,Calls Tryz.prog 175 #[.string ⟨u.scheme.toArray⟩] w fun e w'=>e = .returned (.int .i64 (ownV u.scheme))∧w=w'):=fun w=>rown_any ⟨u.scheme.toArray⟩ w
 have HSpec:Hid (∀ w:World,Calls Tryz.prog 129 #[.string ⟨u.scheme.toArray⟩] w fun e w'=>e = .returned (.bool (specV u.scheme))∧w=w'):=fun w=>rspecial_any ⟨u.scheme.toArray⟩ w
 go_enter Tryz.func240,Tryz.ntmps240
 go_wp2
 go_loop [5,6] (fun a i=> ∃ (k:Nat) (at_:Int),k≤s.size∧i = .int .i64 k∧a = .int .i64 at_∧((at_ = -1∧64 ∉ s.data.toList.take k)∨(∃ (j:Nat) (h:j<s.size),at_=j∧j<k∧s[j]=64∧64 ∉ (s.data.toList.take k).drop (j+1)))) (fun _ i=>s.size - (intOf i).toNat)
 case atStart=>exact ⟨0,-1,Nat.zero_le _,rfl,rfl,.inl ⟨rfl,by simp⟩⟩
 case round=>
  obtain ⟨k,at_,hk,rfl,rfl,hor⟩:=hrel
  have HOr:=hid hor;clear hor;by_cases hlt:k<s.size
  ·have hlt':(k:Int)<(s.size:Int):=by omega
   by_cases h64:s[k]=64
   ·have e64:((s[k].toNat:Int)==64)=true:=byte_is h64
    have HN:=hid h64;clear h64
    go_wp2
    go_round
    case rel=>
     refine ⟨k+1,k,by omega,by go_num,rfl,.inr ⟨k,hlt,rfl,by omega,HN.out,?_⟩⟩;rw [List.drop_eq_nil_of_le (by simp<;>omega)];simp
    case measure=>simp [intOf];omega
   ·have e64:((s[k].toNat:Int)==64)=false:=byte_not h64
    have HN:=hid h64;clear h64
    go_wp2
    go_round
    case rel=>
     refine ⟨k+1,at_,by omega,by go_num,rfl,?_⟩;rcases HOr.out with ⟨h1,h2⟩ | ⟨j,hj,h1,h2,h3,h4⟩
     ·refine .inl ⟨h1,?_⟩
      rw [take_snoc s k hlt,List.mem_append];rintro (h | h)
      ·exact h2 h
      ·exact HN.out (List.mem_singleton.1 h).symm
     ·refine .inr ⟨j,hj,h1,by omega,h3,?_⟩
      rw [drop_at s j k h2 hlt,List.mem_append];rintro (h | h)
      ·exact h4 h
      ·exact HN.out (List.mem_singleton.1 h).symm
    case measure=>simp [intOf];omega
  ·have hlt': ¬ (k:Int)<(s.size:Int):=by omega
   have hall:s.data.toList.take k=s.data.toList:=take_all s k hlt;have hle:=at_le s.data.toList;obtain ⟨UI,hUI⟩: ∃ X:ByteArray,X=⟨(atV s.data.toList).1.toArray⟩:=⟨_,rfl⟩
   obtain ⟨T,hT⟩: ∃ X:ByteArray,X=⟨(atV s.data.toList).2.toArray⟩:=⟨_,rfl⟩
   have hUIl:UI.data.toList=(atV s.data.toList).1:=by rw [hUI]
   have hTl:T.data.toList=(atV s.data.toList).2:=by rw [hT]
   have hUIs:UI.size≤100000:=by rw [hUI];exact size_le hle.1 hs
   have hTs:T.size≤100000:=by rw [hT];exact size_le hle.2 hs
   have hat:(at_ = -1∧UI.data.toList=[]∧s=T)∨(∃ i:Nat,i<s.size∧at_=i∧s.extract 0 i=UI∧s.extract (i+1) s.size=T):=by
    rcases HOr.out with ⟨h1,h2⟩ | ⟨j,hj,h1,h2,h3,h4⟩
    ·rw [hall] at h2
     have:=at_none _ h2;exact .inl ⟨h1,by rw [hUIl,this],by rw [hT,this]⟩
    ·rw [hall] at h4
     have:=at_here s j hj h3 h4;refine .inr ⟨j,hj,h1,?_,?_⟩
     ·rw [hUI,this];exact ba_ext (by rw [Lib.extract_data];simp)
     ·rw [hT,this];exact ba_ext (by rw [extract_drop])
   have hpl:=part_le 58 UI.data.toList;obtain ⟨A1,hA1⟩: ∃ X:ByteArray,X=⟨(part 58 UI.data.toList).1.toArray⟩:=⟨_,rfl⟩
   obtain ⟨A2,hA2⟩: ∃ X:ByteArray,X=⟨(part 58 UI.data.toList).2.1.toArray⟩:=⟨_,rfl⟩
   obtain ⟨ok1,hok1⟩: ∃ b,b=(part 58 UI.data.toList).2.2:=⟨_,rfl⟩
   have hA1s:A1.size≤100000:=by rw [hA1];exact size_le hpl.1 hUIs
   have hA2s:A2.size≤100000:=by rw [hA2];exact size_le hpl.2 hUIs
   have HCut:Hid (∀ w:World,Calls Tryz.prog 113 #[.string UI,.int .u8 58] w fun e w'=>e = .returned (.tuple #[.string A1,.string A2,.bool ok1])∧Below w.heap.size w w'):=fun w=>by
    rw [hA1,hA2,hok1];exact rpart_any UI 58 w (by omega)
   obtain ⟨P1,hp1⟩: ∃ x:ByteArray,x=⟨(pct 6 A1.data.toList).toArray⟩:=⟨_,rfl⟩
   obtain ⟨P2,hp2⟩: ∃ x:ByteArray,x=⟨(pct 6 A2.data.toList).toArray⟩:=⟨_,rfl⟩
   have HP1:Hid (∀ w:World,Calls Tryz.prog 211 #[.string A1,.int .i64 6] w fun e w'=>e = .returned (.string P1)∧Below w.heap.size w w'):=fun w=>by
    have:=rpctS_any A1 6 w (by omega)
    rw [← hp1] at this;exact this
   have HP2:Hid (∀ w:World,Calls Tryz.prog 211 #[.string A2,.int .i64 6] w fun e w'=>e = .returned (.string P2)∧Below w.heap.size w w'):=fun w=>by
    have:=rpctS_any A2 6 w (by omega)
    rw [← hp2] at this;exact this
   have HEm:=hid (show UI.data.toList=[]→P1.data.toList=[]∧P2.data.toList=[] by
    intro h;rw [hp1,hp2,hA1,hA2,h]
    exact ⟨rfl,rfl⟩)
   have hck:=colV_le T.data.toList;obtain ⟨cv,hcv⟩: ∃ k,k=colV T.data.toList:=⟨_,rfl⟩
   have hcvs:cv≤T.size:=by rw [hcv,Lib.size_eq];exact hck
   obtain ⟨D,hD⟩: ∃ X:ByteArray,X=⟨((T.data.toList.drop cv).drop 1).toArray⟩:=⟨_,rfl⟩
   have hDs:D.size≤100000:=by rw [hD];exact size_le (by simp<;>omega) hTs
   obtain ⟨H,hH⟩: ∃ X:ByteArray,X=T.extract 0 cv:=⟨_,rfl⟩
   have hHl:H.data.toList=T.data.toList.take cv:=by rw [hH,Lib.extract_data];simp
   have hHs:H.size≤100000:=by rw [hH];simp<;>omega
   have HE1:Hid (portV (ownV u.scheme) D.data.toList=none→res = .error 11):=fun h=>by
    rw [HRes.out];exact auth_port (by rw [← hTl,← hcv];rw [hD] at h;exact h)
   have HE2:Hid (∀ p,portV (ownV u.scheme) D.data.toList=some p→parseV H.data.toList (specV u.scheme)=none→res = .error 10):=fun p h h2=>by
    rw [HRes.out];exact auth_host (p:=p) (by rw [← hTl,← hcv];rw [hD] at h;exact h) (by rw [← hTl,← hcv,← hHl];exact h2)
   have HE3:Hid (∀ p h,portV (ownV u.scheme) D.data.toList=some p→parseV H.data.toList (specV u.scheme)=some h→(h=[]∧(P1.data.toList≠[]∨P2.data.toList≠[]∨D.data.toList≠[]))→res = .error 10):=fun p h h1 h2 h3=>by
    rw [HRes.out];exact auth_empty (p:=p) (h:=h) (by rw [← hTl,← hcv];rw [hD] at h1;exact h1) (by rw [← hTl,← hcv,← hHl];exact h2) (by rw [← hTl,← hcv,← hUIl];rw [hp1,hp2,hA1,hA2,hD] at h3;exact h3)
   have HE4:Hid (∀ p h,portV (ownV u.scheme) D.data.toList=some p→parseV H.data.toList (specV u.scheme)=some h → ¬ (h=[]∧(P1.data.toList≠[]∨P2.data.toList≠[]∨D.data.toList≠[]))→res = .ok (P1.data.toList,P2.data.toList,h,p)):=fun p h h1 h2 h3=>by
    rw [HRes.out,auth_ok (p:=p) (h:=h) (by rw [← hTl,← hcv];rw [hD] at h1;exact h1) (by rw [← hTl,← hcv,← hHl];exact h2) (by rw [← hTl,← hcv,← hUIl];rw [hp1,hp2,hA1,hA2,hD] at h3;exact h3),← hUIl,hp1,hp2,hA1,hA2]
   have HDc:=hid (show (cv=T.size∧D.data.toList=[]∧H=T)∨(cv<T.size∧T.extract (cv+1) T.size=D∧T.extract 0 cv=H) by
    rcases Nat.lt_or_ge cv T.size with h | h
    ·refine .inr ⟨h,?_,hH.symm⟩
     rw [hD];exact ba_ext (by rw [extract_drop,List.drop_drop])
    ·have h2:cv=T.size:=by omega
     refine .inl ⟨h2,?_,?_⟩
     ·rw [hD,h2];show List.drop 1 (List.drop T.size T.data.toList)=[];rw [List.drop_drop];exact List.drop_eq_nil_of_le (by simp)
     ·rw [hH,h2];exact ba_ext (by rw [Lib.extract_data,List.drop_zero,Nat.sub_zero,List.take_of_length_le (by simp)]))
   have HCv:=hid hcv;clear HOr hUI hT hUIl hTl hle hpl hA1 hA2 hok1 hp1 hp2 hck hcv hD hH hHl hall
   go_upto_if 31 with fail
   go_cut [1] from 30 (fun x wc=>x = .string T∧Below b w wc∧AdrIn wc b { u with user:=P1.data.toList,pass:=P2.data.toList } pv)
   case first=>
    rcases hat with ⟨h1,h2,h3⟩ | ⟨i,hi,h1,h2,h3⟩
    ·subst h1
     have HH3:=hid h3;clear h3
     go_wp2_with fail
     go_meet
     case rel=>
      refine ⟨by rw [HH3.out],Below.refl _ _,?_⟩
      have e:=HEm.out h2;have:({ u with user:=P1.data.toList,pass:=P2.data.toList }:Adr)=u:=by
       have h:=HUp.out
       cases u
       simp only at h;rw [e.1,e.2,h.1,h.2]
      rw [this];exact HAd.out
    ·subst h1
     have hi0:(0:Int)≤(i:Int):=by omega
     have hi1:(i:Int)≤(s.size:Int):=by omega
     have hi2:(0:Int)≤(i:Int)+1∧(i:Int)+1≤(s.size:Int):=by omega
     have HH2:=hid h2;have HH3:=hid h3;clear h2 h3
     go_wp2_with fail
     rw [HH2.out];refine (HCut.out _).mono ?_;rintro e w1 ⟨rfl,hb1⟩
     have H1:=hid (HAd.out.kept hb1);have HB1:=hid hb1;clear hb1
     go_wp2_with fail
     refine (HP1.out w1).mono ?_;rintro e w2 ⟨rfl,hb2⟩
     have h2:=H1.out.kept hb2;have hc1:=h2.cell 1 _ rfl;have hf1:=h2.frozen 1;have H2:=hid (show AdrIn (w2.setCell ⟨b,1,none⟩ (.string P1)) b { u with user:=P1.data.toList } pv from h2.set 1 _ rfl);have HB2:=hid (show Below b w (w2.setCell ⟨b,1,none⟩ (.string P1)) from ((below2 HB1.out hb2).mono HLt.out).setCell (p:=⟨b,1,none⟩) (Nat.le_refl _) _);clear hb2 h2
     go_wp2_with fail
     generalize (w2.setCell ⟨b,1,none⟩ (.string P1))=w3 at *
     refine (HP2.out w3).mono ?_;rintro e w4 ⟨rfl,hb4⟩
     have h4:=H2.out.kept hb4;have hc2:=h4.cell 2 _ rfl;have hf2:=h4.frozen 2;have H4:=hid (show AdrIn (w4.setCell ⟨b,2,none⟩ (.string P2)) b { u with user:=P1.data.toList,pass:=P2.data.toList } pv from h4.set 2 _ rfl);have HB4:=hid (show Below b w (w4.setCell ⟨b,2,none⟩ (.string P2)) from (HB2.out.trans (hb4.mono (Nat.le_of_lt H2.out.lt))).setCell (p:=⟨b,2,none⟩) (Nat.le_refl _) _);clear hb4 h4
     go_wp2_with fail
     go_meet
     case rel=>exact ⟨by rw [← HH3.out],HB4.out,H4.out⟩
   case rest=>
    obtain ⟨rfl,hbc,hac⟩:=hcut
    have HB4:=hid hbc;have H4:=hid hac;have hc0:=hac.cell 0 _ rfl;clear hbc hac
    go_wp2
    go_loop [10,11,12] (fun c inb i=> ∃ (n k:Nat) (bi:Bool) (ci:Int),n≤T.size∧i = .int .i64 n∧inb = .bool bi∧c = .int .i64 ci∧((k=T.size∧ci = -1)∨(k<T.size∧ci=k))∧colN bi n k (T.data.toList.drop n)=colV T.data.toList) (fun _ _ i=>T.size - (intOf i).toNat)
    case atStart=>exact ⟨0,T.size,false,-1,Nat.zero_le _,rfl,rfl,rfl,.inl ⟨rfl,rfl⟩,by rw [List.drop_zero,colV,Lib.size_eq]⟩
    case round=>
     obtain ⟨n,k2,bi,ci,hn,rfl,rfl,rfl,hki,hcol⟩:=hrel
     have HC:=hid hcol;have HKi:=hid hki;clear hcol hki;by_cases hlt2:n<T.size
     ·have hlt2':(n:Int)<(T.size:Int):=by omega
      have HD:=hid (drop_cons T n hlt2);by_cases h91:T[n]=91
      ·have e91:((T[n].toNat:Int)==91)=true:=byte_is h91
       have HN:=hid (show colN true (n+1) k2 (T.data.toList.drop (n+1))=colV T.data.toList by
        rw [← HC.out,HD.out,h91]
        cases bi<;>rfl)
       clear h91
       go_wp2
       go_round
       case rel=>exact ⟨n+1,k2,true,ci,by omega,by go_num,rfl,rfl,HKi.out,HN.out⟩
       case measure=>simp [intOf];omega
      ·have e91:((T[n].toNat:Int)==91)=false:=byte_not h91
       by_cases h93:T[n]=93
       ·have e93:((T[n].toNat:Int)==93)=true:=byte_is h93
        have HN:=hid (show colN false (n+1) k2 (T.data.toList.drop (n+1))=colV T.data.toList by
         rw [← HC.out,HD.out,h93]
         cases bi<;>rfl)
        clear h91 h93
        go_wp2
        go_round
        case rel=>exact ⟨n+1,k2,false,ci,by omega,by go_num,rfl,rfl,HKi.out,HN.out⟩
        case measure=>simp [intOf];omega
       ·have e93:((T[n].toNat:Int)==93)=false:=byte_not h93
        by_cases h58:T[n]=58
        ·have e58:((T[n].toNat:Int)==58)=true:=byte_is h58
         cases bi with
         | true=>
           have HN:=hid (show colN true (n+1) k2 (T.data.toList.drop (n+1))=colV T.data.toList by rw [← HC.out,HD.out,h58];rfl);clear h91 h93 h58
           go_wp2
           go_round
           case rel=>exact ⟨n+1,k2,true,ci,by omega,by go_num,rfl,rfl,HKi.out,HN.out⟩
           case measure=>simp [intOf];omega
         | false=>
           have HN:=hid (show colN false (n+1) n (T.data.toList.drop (n+1))=colV T.data.toList by rw [← HC.out,HD.out,h58];rfl);clear h91 h93 h58
           go_wp2
           go_round
           case rel=>exact ⟨n+1,n,false,n,by omega,by go_num,rfl,rfl,.inr ⟨hlt2,rfl⟩,HN.out⟩
           case measure=>simp [intOf];omega
        ·have e58:((T[n].toNat:Int)==58)=false:=byte_not h58
         have HN:=hid (show colN bi (n+1) k2 (T.data.toList.drop (n+1))=colV T.data.toList by
          rw [← HC.out,HD.out]
          cases bi
          ·rw [colN,if_neg h58,if_neg h91]
          ·rw [colN,if_neg h93])
         clear h91 h93 h58
         go_wp2
         go_round
         case rel=>exact ⟨n+1,k2,bi,ci,by omega,by go_num,rfl,rfl,HKi.out,HN.out⟩
         case measure=>simp [intOf];omega
     ·have hlt2': ¬ (n:Int)<(T.size:Int):=by omega
      have hk2:k2=cv:=by
       have:=HC.out;rw [List.drop_eq_nil_of_le (by simp;omega)] at this;rw [HCv.out,← this]
       cases bi<;>rfl
      subst hk2;have hcc:(ci = -1∧D.data.toList=[]∧H=T)∨(k2<T.size∧ci=k2∧T.extract (k2+1) T.size=D∧T.extract 0 k2=H):=by
       rcases HKi.out with ⟨h1,h2⟩ | ⟨h1,h2⟩
       ·rcases HDc.out with ⟨_,h4,h5⟩ | ⟨h3,_⟩
        ·exact .inl ⟨h2,h4,h5⟩
        ·omega
       ·rcases HDc.out with ⟨h3,_⟩ | ⟨_,h4,h5⟩
        ·omega
        ·exact .inr ⟨h1,h2,h4,h5⟩
      have hc5:=H4.out.cell 5 _ rfl;have hf5:=H4.out.frozen 5;have H5:=hid (show AdrIn (wc.setCell ⟨b,5,none⟩ (.int .i64 (-1))) b { u with user:=P1.data.toList,pass:=P2.data.toList,port:= -1 } pv from H4.out.set 5 _ rfl);have HB5:=hid (show Below b w (wc.setCell ⟨b,5,none⟩ (.int .i64 (-1))) from HB4.out.setCell (p:=⟨b,5,none⟩) (Nat.le_refl _) _);clear HC HKi HDc HCv
      go_upto_if 76 with fail
      generalize (wc.setCell ⟨b,5,none⟩ (.int .i64 (-1)))=w5 at *
      go_cut [1,13] from 75 (fun x t wx=>x = .string H ∧ ∃ td:Bool,t = .bool td∧td=(!D.data.toList.isEmpty) ∧ ∃ p,portV (ownV u.scheme) D.data.toList=some p∧Below b w wx∧AdrIn wx b { u with user:=P1.data.toList,pass:=P2.data.toList,port:=p } pv)
      case first=>
       rcases hcc with ⟨hci,hD0,hHT⟩ | ⟨hlt3,hci,hDx,hHx⟩
       ·subst hci
        have HHT:=hid hHT;have HD0:=hid hD0;clear hHT hD0
        go_wp2_with fail
        go_meet
        case rel=>exact ⟨by rw [HHT.out],false,rfl,by rw [HD0.out];rfl,-1,by rw [HD0.out];rfl,HB5.out,H5.out⟩
       ·subst hci
        have HDx:=hid hDx;have HHx:=hid hHx;clear hDx hHx;have hk0:(0:Int)≤(k2:Int):=by omega
        have hk1:(k2:Int)≤(T.size:Int):=by omega
        have hk2':(0:Int)≤(k2:Int)+1∧(k2:Int)+1≤(T.size:Int):=by omega
        have hex1:T.extract ((k2:Int)+1).toNat T.size=D:=by rw [show ((k2:Int)+1).toNat=k2+1 by omega];exact HDx.out
        have hex2:T.extract (k2+1) T.size=D:=HDx.out;have hex3:T.extract 0 k2=H:=HHx.out;by_cases hD0:D.data.toList=[]
        ·have he:=empty_yes D hD0
         have HD0:=hid hD0;clear hD0
         go_wp2_with fail
         go_meet
         case rel=>exact ⟨rfl,false,rfl,by rw [HD0.out];rfl,-1,by rw [HD0.out];rfl,HB5.out,H5.out⟩
        ·have he:=empty_no D hD0
         have HD0:=hid hD0;clear hD0;have hivr:=intV_range D.data.toList;have HInt:Hid (∀ w:World,Calls Tryz.prog 115 #[.string D] w fun e w'=>e = .returned (.tuple #[.int .i64 (intV D.data.toList),.bool (intOk D.data.toList)])∧w=w'):=fun w=>rint_any D w (by omega)
         have HPb:=hid (portB (own:=ownV u.scheme) HD0.out);have HPg:=hid (portG (own:=ownV u.scheme) HD0.out);generalize hiv:intV D.data.toList=iv at hivr HInt HPb HPg;generalize hio:intOk D.data.toList=io at HInt HPb HPg;clear hiv hio;have HTold:=hid (show (!D.data.toList.isEmpty)=true by cases hl:D.data.toList with | nil=>exact absurd hl HD0.out | cons _ _=>rfl)
         cases io with
         | false=>
           have HN:=hid (HE1.out (HPb.out (.inl rfl)))
           go_wp2_with fail
           refine (HInt.out _).mono ?_;rintro e w' ⟨rfl,rfl⟩
           go_wp2
           go_ret
           rw [HN.out];exact ⟨rfl,HB5.out,fun h=>by cases h⟩
         | true=>
           by_cases hbig:65535<iv
           ·have HN:=hid (HE1.out (HPb.out (.inr hbig)))
            go_wp2_with fail
            refine (HInt.out _).mono ?_;rintro e w' ⟨rfl,rfl⟩
            go_wp2
            go_ret
            rw [HN.out];exact ⟨rfl,HB5.out,fun h=>by cases h⟩
           ·have HPo:=hid (HPg.out rfl (by omega))
            have hc5:=H5.out.cell 5 _ rfl;have hf5:=H5.out.frozen 5;have h6:AdrIn (w5.setCell ⟨b,5,none⟩ (.int .i64 iv)) b { u with user:=P1.data.toList,pass:=P2.data.toList,port:=iv } pv:=H5.out.set 5 _ rfl;have HB6:=hid (show Below b w (w5.setCell ⟨b,5,none⟩ (.int .i64 iv)) from HB5.out.setCell (p:=⟨b,5,none⟩) (Nat.le_refl _) _);have hc60:(w5.setCell ⟨b,5,none⟩ (.int .i64 iv)).cell? ⟨b,0,none⟩=some (.string ⟨u.scheme.toArray⟩):=h6.cell 0 _ rfl
            have hc65:(w5.setCell ⟨b,5,none⟩ (.int .i64 iv)).cell? ⟨b,5,none⟩=some (.int .i64 iv):=h6.cell 5 _ rfl
            have H6:=hid h6;clear h6
            go_upto_region 36 with (go_at_call 115;refine (HInt.out _).mono ?_;rintro e w' ⟨rfl,rfl⟩)
            generalize (w5.setCell ⟨b,5,none⟩ (.int .i64 iv))=w6 at *
            have hf65:=H6.out.frozen 5;by_cases hown:iv=ownV u.scheme
            ·have ho:(iv==ownV u.scheme)=true:=by rw [beq_iff_eq];exact hown
             have HOw:=hid hown;clear hown
             go_region_with (go_at_call 175;refine (HOwn.out _).mono ?_;rintro e w' ⟨rfl,rfl⟩)
             all_goals
              go_wp2_with fail
              go_meet
              case rel=>
               refine ⟨rfl,true,rfl,HTold.out.symm,-1,by rw [HPo.out,if_pos HOw.out],?_,?_⟩
               ·first | exact HB6.out.drew.setCell (p:=⟨b,5,none⟩) (Nat.le_refl _) _ | exact HB6.out.setCell (p:=⟨b,5,none⟩) (Nat.le_refl _) _
               ·first | exact (show AdrIn w6.drew b { u with user:=P1.data.toList,pass:=P2.data.toList,port:=iv } pv from H6.out).set 5 _ rfl | exact H6.out.set 5 _ rfl
            ·have ho:(iv==ownV u.scheme)=false:=by rw [beq_eq_false_iff_ne];exact hown
             have HOw:=hid hown;clear hown
             go_region_with (go_at_call 175;refine (HOwn.out _).mono ?_;rintro e w' ⟨rfl,rfl⟩)
             all_goals
              go_wp2_with fail
              go_meet
              case rel=>
               refine ⟨rfl,true,rfl,HTold.out.symm,iv,by rw [HPo.out,if_neg HOw.out],?_,?_⟩
               ·first | exact HB6.out.drew | exact HB6.out
               ·exact H6.out
      case rest=>
       obtain ⟨rfl,td,rfl,htd,p,hpo,hbx,hax⟩:=hcut
       have HTd:=hid htd;clear htd;obtain ⟨HT,hHT⟩: ∃ x:ByteArray,x=⟨((parseV H.data.toList (specV u.scheme)).getD []).toArray⟩:=⟨_,rfl⟩
       obtain ⟨ok,hok⟩: ∃ x,x=(parseV H.data.toList (specV u.scheme)).isSome:=⟨_,rfl⟩
       have HPar:Hid (∀ w:World,Calls Tryz.prog 253 #[.string H,.bool (specV u.scheme)] w fun e w'=>e = .returned (.tuple #[.string HT,.bool ok])∧Below w.heap.size w w'):=fun w=>by
        have:=rparse_any H (specV u.scheme) w (by omega)
        unfold Parse2Post at this;rw [← hHT,← hok] at this;exact this
       have HPo:=hid hpo;have HHT:=hid hHT;have HOk:=hid hok;have hcx0:=hax.cell 0 _ rfl;have HBx:=hid hbx;have Hx:=hid hax;clear hpo hHT hok hbx hax
       go_wp2_with fail
       refine (HSpec.out _).mono ?_;rintro e w' ⟨rfl,rfl⟩
       go_wp2_with fail
       refine (HPar.out _).mono ?_;rintro e w7 ⟨rfl,hb7⟩
       have H7:=hid (Hx.out.kept hb7);have HB7:=hid (HBx.out.trans (hb7.mono (Nat.le_of_lt Hx.out.lt)));have hc1:w7.cell? ⟨b,1,none⟩=some (.string P1):=H7.out.cell 1 _ rfl
       have hc2:w7.cell? ⟨b,2,none⟩=some (.string P2):=H7.out.cell 2 _ rfl
       clear hb7;have hpar:=HHT.out
       cases hpv:parseV H.data.toList (specV u.scheme) with
       | none=>
         have HN:=hid (HE2.out p HPo.out hpv);have hok:=HOk.out;rw [hpv] at hok;rw [show ok=false from hok];clear hpar hpv hok
         go_wp2
         go_ret
         rw [HN.out];exact ⟨rfl,HB7.out,fun h=>by cases h⟩
       | some h=>
         have hok:=HOk.out;rw [hpv] at hok;rw [show ok=true from hok];have hth:HT.data.toList=h:=by rw [hpar,hpv];rfl
         have hpv2:parseV H.data.toList (specV u.scheme)=some HT.data.toList:=by rw [hth];exact hpv
         clear hpar hpv hok hth;by_cases hh:HT.data.toList=[]
         ·have q0:=empty_yes HT hh
          by_cases h1:P1.data.toList=[]
          ·have q1:=empty_yes P1 h1
           by_cases h2:P2.data.toList=[]
           ·have q2:=empty_yes P2 h2
            by_cases h3:D.data.toList=[]
            ·have q3:(!D.data.toList.isEmpty)=false:=by rw [h3];rfl
             have HN:=hid (HE4.out p _ HPo.out hpv2 (by rintro ⟨_,h4 | h4 | h4⟩;exact h4 h1;exact h4 h2;exact h4 h3));clear hpv2 hh h1 h2 h3;rw [q3] at HTd;obtain rfl:td=false:=HTd.out;have hc3:=H7.out.cell 3 _ rfl;have hc4:=H7.out.cell 4 _ rfl;have hf3:=H7.out.frozen 3;have hf4:=H7.out.frozen 4
             go_wp2
             go_ret
             rw [HN.out];refine ⟨rfl,(HB7.out.setCell (p:=⟨b,3,none⟩) (Nat.le_refl _) _).setCell (p:=⟨b,4,none⟩) (Nat.le_refl _) _,fun _=> ?_⟩
             exact (H7.out.set (v:={ u with user:=P1.data.toList,pass:=P2.data.toList,host:=HT.data.toList,port:=p }) 3 _ rfl).set 4 _ rfl
            ·have q3:(!D.data.toList.isEmpty)=true:=by cases hl:D.data.toList with | nil=>exact absurd hl h3 | cons _ _=>rfl
             have HN:=hid (HE3.out p _ HPo.out hpv2 ⟨hh,.inr (.inr h3)⟩);clear hpv2 hh h1 h2 h3;rw [q3] at HTd;obtain rfl:td=true:=HTd.out
             go_wp2
             go_ret
             rw [HN.out];exact ⟨rfl,HB7.out,fun h=>by cases h⟩
           ·have q2:=empty_no P2 h2
            have HN:=hid (HE3.out p _ HPo.out hpv2 ⟨hh,.inr (.inl h2)⟩);clear hpv2 hh h1 h2
            go_wp2
            go_ret
            rw [HN.out];exact ⟨rfl,HB7.out,fun h=>by cases h⟩
          ·have q1:=empty_no P1 h1
           have HN:=hid (HE3.out p _ HPo.out hpv2 ⟨hh,.inl h1⟩);clear hpv2 hh h1
           go_wp2
           go_ret
           rw [HN.out];exact ⟨rfl,HB7.out,fun h=>by cases h⟩
         ·have q0:=empty_no HT hh
          have HN:=hid (HE4.out p _ HPo.out hpv2 (by rintro ⟨h4,_⟩;exact hh h4));clear hpv2 hh;have hc3:=H7.out.cell 3 _ rfl;have hc4:=H7.out.cell 4 _ rfl;have hf3:=H7.out.frozen 3;have hf4:=H7.out.frozen 4
          go_wp2
          go_ret
          rw [HN.out];refine ⟨rfl,(HB7.out.setCell (p:=⟨b,3,none⟩) (Nat.le_refl _) _).setCell (p:=⟨b,4,none⟩) (Nat.le_refl _) _,fun _=> ?_⟩
          exact (H7.out.set (v:={ u with user:=P1.data.toList,pass:=P2.data.toList,host:=HT.data.toList,port:=p }) 3 _ rfl).set 4 _ rfl

end Go.Proofs.YtolioccofbhliaaGreatDoor

namespace Go.Proofs.YtolioccofbhliaaGreatDoor
open Go.RowKit

def authThen (u:Adr) (B:List UInt8):Except Int (List UInt8×List UInt8×List UInt8×Int)→Except Int Adr
 | .error e=> .error e
 | .ok (a,c,h,p)=> .ok (withPath { u with user:=a,pass:=c,host:=h,hasHost:=true,port:=p } [] B)

def FarPost (b:Nat) (r:Except Int Adr) (w:World) (e:Ending) (w':World):Prop:=
 e = .returned (.int .i64 (numOf r))∧Below b w w' ∧ ∀ v,r = .ok v → ∃ pv,AdrIn w' b v pv∧w'.ownsRow w.heap.size 9 1 pv v.path.length (cellsS v.path)

set_option maxHeartbeats 2000000 in
set_option maxRecDepth 100000 in
theorem rfar_any (s:ByteArray) (b:Nat) (u:Adr) (pv:Value) (w:World) (hs:s.size≤100000) (hA:AdrIn w b u pv) (hup:u.user=[]∧u.pass=[]):
 Calls Tryz.prog 212 #[.pointer (some ⟨b,0,none⟩),.string s] w (FarPost b (withAuth u s.data.toList) w):=by
 have HA:=hid hA;have HLt:=hid (Nat.le_of_lt hA.lt);clear hA;have hal:=ahead_size [47,63] s.data.toList
 obtain ⟨A,hAd⟩: ∃ X:ByteArray,X=⟨(aheadV [47,63] s.data.toList).1.toArray⟩:=⟨_,rfl⟩
 obtain ⟨R,hRd⟩: ∃ X:ByteArray,X=⟨(aheadV [47,63] s.data.toList).2.toArray⟩:=⟨_,rfl⟩
 have hAs:A.size≤100000:=by rw [hAd];exact size_le hal.1 hs
 have hRs:R.size≤100000:=by rw [hRd];exact size_le hal.2 hs
 have HAh:Hid (∀ w:World,Calls Tryz.prog 217 #[.string s,.int .u8 47,.int .u8 63] w fun e w'=>e = .returned (.tuple #[.string A,.string R])∧Below w.heap.size w w'):=fun w=>by
  have:=rahead_any s 47 63 w (by omega)
  rw [← hAd,← hRd] at this;exact this
 have HAu:=hid (fun (w:World) (h:AdrIn w b u pv)=>rauthority_any A b u pv w hAs h hup);have hAl:A.data.toList=(aheadV [47,63] s.data.toList).1:=by rw [hAd]
 have hRl:R.data.toList=(aheadV [47,63] s.data.toList).2:=by rw [hRd]
 obtain ⟨r,hr⟩: ∃ r,r=authV u.scheme A.data.toList:=⟨_,rfl⟩
 rw [← hr] at HAu;have HV:=hid (show withAuth u s.data.toList=authThen u R.data.toList r by
  rw [hr,hAl,hRl];rfl)
 have HEr:=hid (show ∀ e,r = .error e→e=10∨e=11 by intro e he;exact authV_err (hr.symm.trans he));clear hal hAd hRd hAl hRl hr
 go_enter Tryz.func212,Tryz.ntmps212
 go_wp2_with fail
 refine (HAh.out _).mono ?_;rintro e w1 ⟨rfl,hb1⟩
 have H1:=hid (HA.out.kept hb1);have HB1:=hid (hb1.mono HLt.out);have hsz1:=hb1.size;clear hb1
 go_wp2_with fail
 refine (HAu.out _ H1.out).mono ?_;rintro e w2 ⟨rfl,hb2,h2⟩
 have HB2:=hid (HB1.out.trans hb2);have hsz2:w.heap.size≤w2.heap.size:=by have:=hb2.size;omega
 have H2:=hid h2;clear hb2 h2
 cases r with
 | error ee=>
   have HN:=hid (show withAuth u s.data.toList = .error ee from HV.out);have hne:((authE (.error ee):Int) != 0)=true:=by
    rcases HEr.out ee rfl with h | h<;>rw [h]<;>rfl
   go_wp2
   go_ret
   rw [HN.out];exact ⟨rfl,HB2.out,fun v h=>by cases h⟩
 | ok x=>
   obtain ⟨a,c,h,p⟩:=x
   have HN:=hid (show withAuth u s.data.toList = .ok (withPath { u with user:=a,pass:=c,host:=h,hasHost:=true,port:=p } [] R.data.toList) from HV.out);have H2b:=hid (H2.out rfl);have hz:authE (.ok (a,c,h,p))=0:=rfl;rw [hz]
   go_wp2_with fail
   refine (rrest_any R b _ pv w2 hRs H2b.out).mono ?_;rintro e w3 ⟨rfl,ho3,pv3,h3,hown3⟩
   have HB3:=hid (HB2.out.trans ho3.1);have H3:=hid h3;have HO3:=hid (own_weak hown3 hsz2);clear ho3 h3 hown3
   go_wp2
   go_ret
   rw [HN.out];exact ⟨rfl,HB3.out,fun v hv=>by cases hv;exact ⟨pv3,H3.out,HO3.out⟩⟩

theorem FarPost.far {b:Nat} {r:Except Int Adr} {w w1 w':World} {e:Ending} (h:FarPost b r w1 e w') (hb:Below b w w1) (hs:w.heap.size≤w1.heap.size):FarPost b r w e w':=
 ⟨h.1,hb.trans h.2.1,fun v hv=>by obtain ⟨pv,h1,h2⟩:=h.2.2 v hv;exact ⟨pv,h1,own_weak h2 hs⟩⟩

set_option maxHeartbeats 2000000 in
set_option maxRecDepth 100000 in
theorem rfull_any (s:ByteArray) (b:Nat) (u:Adr) (pv:Value) (w:World) (hs:s.size≤100000) (hA:AdrIn w b u pv) (hup:u.user=[]∧u.pass=[]):
 Calls Tryz.prog 174 #[.pointer (some ⟨b,0,none⟩),.string s] w (FarPost b (startV { u with port:= -1 } s.data.toList) w):=by
 obtain ⟨i0,hi,hz0,hz1,hz2⟩:=info_parts infoStr
 have hc5:=hA.cell 5 _ rfl;have hf5:=hA.frozen 5;have h1:AdrIn (w.setCell ⟨b,5,none⟩ (.int .i64 (-1))) b { u with port:= -1 } pv:=hA.set 5 _ rfl;have hb1:Below b w (w.setCell ⟨b,5,none⟩ (.int .i64 (-1))):=(Below.refl b w).setCell (p:=⟨b,5,none⟩) (Nat.le_refl _) _;have hsz1:(w.setCell ⟨b,5,none⟩ (.int .i64 (-1))).heap.size=w.heap.size:=by simp
 have hc0:(w.setCell ⟨b,5,none⟩ (.int .i64 (-1))).cell? ⟨b,0,none⟩=some (.string ⟨u.scheme.toArray⟩):=h1.cell 0 _ rfl
 have HW1:=hid (show ∃ w1,w1=w.setCell ⟨b,5,none⟩ (.int .i64 (-1)) from ⟨_,rfl⟩);have HSpec:Hid (∀ w:World,Calls Tryz.prog 129 #[.string ⟨u.scheme.toArray⟩] w fun e w'=>e = .returned (.bool (specV u.scheme))∧w=w'):=fun w=>rspecial_any ⟨u.scheme.toArray⟩ w
 obtain ⟨v,hv⟩: ∃ v:Adr,v={ u with port:= -1 }:=⟨_,rfl⟩
 have hvs:v.scheme=u.scheme:=by rw [hv]
 have hvup:v.user=[]∧v.pass=[]:=by rw [hv];exact hup
 rw [← hv] at h1 ⊢;have H1:=hid h1;have HB1:=hid hb1;have HSz1:=hid hsz1;have HLt:=hid (Nat.le_of_lt h1.lt);clear hv h1 hb1 hsz1 hA hup HW1
 go_enter Tryz.func174,Tryz.ntmps174
 go_wp2_with fail
 generalize (w.setCell ⟨b,5,none⟩ (.int .i64 (-1)))=w1 at *
 refine (HSpec.out _).mono ?_;rintro e w' ⟨rfl,rfl⟩
 cases hsp:specV u.scheme with
 | true=>
   obtain ⟨A,hAd⟩: ∃ X:ByteArray,X=⟨(slashV s.data.toList).toArray⟩:=⟨_,rfl⟩
   have hAl:A.data.toList=slashV s.data.toList:=by rw [hAd]
   have hAs:A.size≤100000:=by rw [hAd];exact size_le (by rw [slash_len];exact Nat.le_refl _) hs
   obtain ⟨B,hBd⟩: ∃ X:ByteArray,X=⟨(skip47 A.data.toList).toArray⟩:=⟨_,rfl⟩
   have hBl:B.data.toList=skip47 A.data.toList:=by rw [hBd]
   have hBs:B.size≤100000:=by rw [hBd];exact size_le (List.dropWhile_suffix _).length_le hAs
   have HSl:Hid (∀ w:World,Calls Tryz.prog 214 #[.string s] w fun e w'=>e = .returned (.string A)∧Below w.heap.size w w'):=fun w=>by rw [hAd];exact rslashes_any s w (by omega)
   have HOv:Hid (∀ w:World,Calls Tryz.prog 213 #[.string A] w fun e w'=>e = .returned (.string B)∧w=w'):=fun w=>by rw [hBd];exact rover_any A w (by omega)
   have HN:=hid (show startV v s.data.toList=withAuth v B.data.toList by unfold startV;rw [hvs,hsp,if_pos rfl,hBl,hAl]);clear hsp hAd hAl hBd hBl
   go_wp2_with fail
   refine (HSl.out _).mono ?_;rintro e w2 ⟨rfl,hb2⟩
   have H2:=hid (H1.out.kept hb2);have HB2:=hid (HB1.out.trans (hb2.mono HLt.out));have hsz2:w.heap.size≤w2.heap.size:=by have:=hb2.size;have:=HSz1.out;omega
   clear hb2
   go_wp2_with fail
   refine (HOv.out _).mono ?_;rintro e w' ⟨rfl,rfl⟩
   go_wp2_with fail
   refine (rfar_any B b v pv _ hBs H2.out hvup).mono ?_;rintro e w3 hfar;have HF:=hid (hfar.far HB2.out hsz2);obtain ⟨rfl,_⟩:=hfar
   go_wp2
   go_ret
   rw [HN.out];exact HF.out
 | false=>
   have HBe2:Hid (∀ w:World,Calls Tryz.prog 215 #[.string s,.string ⟨#[47,47]⟩] w fun e w'=>e = .returned (.bool (Lib.hasPrefix s.data.toList [47,47]))∧w=w'):=fun w=>begins_any s ⟨#[47,47]⟩ w (by omega) (by decide)
   have HBe1:Hid (∀ w:World,Calls Tryz.prog 215 #[.string s,.string ⟨#[47]⟩] w fun e w'=>e = .returned (.bool (Lib.hasPrefix s.data.toList [47]))∧w=w'):=fun w=>begins_any s ⟨#[47]⟩ w (by omega) (by decide)
   cases hp2:Lib.hasPrefix s.data.toList [47,47] with
   | true=>
     rw [hp2] at HBe2;obtain ⟨A,hAd⟩: ∃ X:ByteArray,X=s.extract 2 s.size:=⟨_,rfl⟩
     have hAl:A.data.toList=s.data.toList.drop 2:=by rw [hAd,extract_drop]
     have hAs:A.size≤100000:=by rw [hAd];simp;omega
     have h2s:(2:Int)≤(s.size:Int):=by
      have:[47,47].isPrefixOf s.data.toList=true:=hp2
      rw [List.isPrefixOf_iff_prefix] at this;have:=this.length_le;rw [← Lib.size_eq] at this;simp at this;omega
     have HN:=hid (show startV v s.data.toList=withAuth v A.data.toList by unfold startV;rw [hvs,hsp,if_neg (by decide),if_pos hp2,hAl]);have HAd:=hid hAd.symm;clear hsp hp2 hAd hAl
     go_wp2_with fail
     refine (HBe2.out _).mono ?_;rintro e w' ⟨rfl,rfl⟩
     go_wp2_with fail
     rw [HAd.out];refine (rfar_any A b v pv _ hAs H1.out hvup).mono ?_;rintro e w3 hfar;have HF:=hid (hfar.far HB1.out (Nat.le_of_eq HSz1.out.symm));obtain ⟨rfl,_⟩:=hfar
     go_wp2
     go_ret
     rw [HN.out];exact HF.out
   | false=>
     rw [hp2] at HBe2
     cases hp1:Lib.hasPrefix s.data.toList [47] with
     | true=>
       rw [hp1] at HBe1;have HN:=hid (show startV v s.data.toList = .ok (withPath v [] s.data.toList) by unfold startV;rw [hvs,hsp,if_neg (by decide),if_neg (by rw [hp2];decide),if_pos hp1]);clear hsp hp2 hp1
       go_wp2_with fail
       refine (HBe2.out _).mono ?_;rintro e w' ⟨rfl,rfl⟩
       go_wp2_with fail
       refine (HBe1.out _).mono ?_;rintro e w' ⟨rfl,rfl⟩
       go_wp2_with fail
       refine (rrest_any s b v pv _ hs H1.out).mono ?_;rintro e w3 ⟨rfl,ho3,pv3,h3,hown3⟩
       have HB3:=hid (HB1.out.trans ho3.1);have H3:=hid h3;have HO3:=hid (own_weak hown3 (Nat.le_of_eq HSz1.out.symm));clear ho3 h3 hown3
       go_wp2
       go_ret
       rw [HN.out];exact ⟨rfl,HB3.out,fun x hx=>by cases hx;exact ⟨pv3,H3.out,HO3.out⟩⟩
     | false=>
       rw [hp1] at HBe1;have hal:=ahead_size [63] s.data.toList;obtain ⟨P,hP⟩: ∃ X:ByteArray,X=⟨(aheadV [63] s.data.toList).1.toArray⟩:=⟨_,rfl⟩
       obtain ⟨R,hR⟩: ∃ X:ByteArray,X=⟨(aheadV [63] s.data.toList).2.toArray⟩:=⟨_,rfl⟩
       have hPl:P.data.toList=(aheadV [63] s.data.toList).1:=by rw [hP]
       have hPs:P.size≤100000:=by rw [hP];exact size_le hal.1 hs
       have HAh:Hid (∀ w:World,Calls Tryz.prog 217 #[.string s,.int .u8 63,.int .u8 63] w fun e w'=>e = .returned (.tuple #[.string P,.string R])∧Below w.heap.size w w'):=fun w=>by
        have:=rahead_any s 63 63 w (by omega)
        rw [ahead_twice,← hP,← hR] at this
        exact this
       obtain ⟨C,hC⟩: ∃ X:ByteArray,X=⟨(pct 1 P.data.toList).toArray⟩:=⟨_,rfl⟩
       have HPc:Hid (∀ w:World,Calls Tryz.prog 211 #[.string P,.int .i64 1] w fun e w'=>e = .returned (.string C)∧Below w.heap.size w w'):=fun w=>by rw [hC];exact rpctS_any P 1 w (by omega)
       have HN:=hid (show startV v s.data.toList = .ok (withQuery { v with opq:=true,path:=[C.data.toList] } (aheadV [63] s.data.toList).2) by
        unfold startV;rw [hvs,hsp,if_neg (by decide),if_neg (by rw [hp2];decide),if_neg (by rw [hp1];decide),hC,hPl])
       have HQ:=hid (fun (w:World) (x:Value) (h:AdrIn w b { v with opq:=true,path:=[C.data.toList] } x)=>rquery_any s b _ x w hs h);have HPp:=hid (show (withQuery { v with opq:=true,path:=[C.data.toList] } (aheadV [63] s.data.toList).2).path=[C.data.toList] by unfold withQuery;split<;>rfl);clear hsp hp2 hp1 hal hP hR hPl hC
       go_wp2_with fail
       refine (HBe2.out _).mono ?_;rintro e w' ⟨rfl,rfl⟩
       go_wp2_with fail
       refine (HBe1.out _).mono ?_;rintro e w' ⟨rfl,rfl⟩
       go_wp2_with fail
       refine (HAh.out _).mono ?_;rintro e w2 ⟨rfl,hb2⟩
       have h2:=H1.out.kept hb2;have hc6:=h2.cell 6 _ rfl;have hf6:=h2.frozen 6;have H3:=hid (show AdrIn (w2.setCell ⟨b,6,none⟩ (.bool true)) b { v with opq:=true } pv from h2.set 6 _ rfl);have HB3:=hid (show Below b w (w2.setCell ⟨b,6,none⟩ (.bool true)) from (HB1.out.trans (hb2.mono HLt.out)).setCell (p:=⟨b,6,none⟩) (Nat.le_refl _) _);have hsz3:w.heap.size≤(w2.setCell ⟨b,6,none⟩ (.bool true)).heap.size:=by have:=hb2.size;have:=HSz1.out;simp;omega
       clear h2 hb2
       go_wp2_with fail
       generalize (w2.setCell ⟨b,6,none⟩ (.bool true))=w3 at *
       refine (HPc.out _).mono ?_;rintro e w4 ⟨rfl,hb4⟩
       have h4:=H3.out.kept hb4;have hc7:=h4.cell 7 _ rfl;have hf7:=h4.frozen 7;have hlt4:=h4.lt;obtain ⟨W5,hW5⟩: ∃ W,W=w4.setCell ⟨b,7,none⟩ (.slice (some ⟨w4.heap.size,0,none⟩) 1 1):=⟨_,rfl⟩
       have hsz5:W5.heap.size=w4.heap.size:=by rw [hW5];simp
       have h5:AdrIn W5 b { v with opq:=true,path:=[C.data.toList] } (.slice (some ⟨w4.heap.size,0,none⟩) 1 1):=by rw [hW5];exact h4.set 7 _ rfl
       have hb5:Below b w W5:=by rw [hW5];exact (HB3.out.trans (hb4.mono (Nat.le_of_lt H3.out.lt))).setCell (p:=⟨b,7,none⟩) (Nat.le_refl _) _
       have hsz6:w.heap.size≤w4.heap.size:=by have:=hb4.size;omega
       have hown:(W5.alloc (.cells #[.string C] 9)).ownsRow w.heap.size 9 1 (.slice (some ⟨w4.heap.size,0,none⟩) 1 1) 1 (cellsS [C.data.toList]):=by
        have:=own_one W5 C;rw [hsz5] at this;exact own_weak this hsz6
       have H6:=hid (show AdrIn (W5.alloc (.cells #[.string C] 9)) b { v with opq:=true,path:=[C.data.toList] } (.slice (some ⟨w4.heap.size,0,none⟩) 1 1) from h5.kept ((Below.refl _ W5).alloc (Nat.le_refl _) _));have HB6:=hid (show Below b w (W5.alloc (.cells #[.string C] 9)) from hb5.trans (((Below.refl _ W5).alloc (Nat.le_refl _) _).mono (Nat.le_of_lt h5.lt)));have HO6:=hid hown;have HW5:=hid hW5.symm;clear h4 h5 hb5 hown hW5 hb4 hsz5
       go_wp2_with fail
       rw [HW5.out];refine (HQ.out _ _ H6.out).mono ?_;rintro e w7 ⟨rfl,ho7,h7⟩
       have HB7:=hid (HB6.out.trans ho7.1);have HO7:=hid (own_only HO6.out H6.out ho7);have H7:=hid h7;clear ho7 h7
       go_wp2
       go_ret
       rw [HN.out];refine ⟨rfl,HB7.out,fun x hx=> ?_⟩
       injection hx with hx
       subst hx;refine ⟨_,H7.out,?_⟩
       rw [HPp.out];exact HO7.out

end Go.Proofs.YtolioccofbhliaaGreatDoor
