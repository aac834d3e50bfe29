/- Walks and plain facts. -/
import Derived.Test.YtijpkalkfbejeaaGreatDoorQm13
set_option linter.unusedSimpArgs false
set_option linter.unusedVariables false
set_option maxHeartbeats 16000000
set_option maxRecDepth 100000

namespace Go.Proofs.YtijpkalkfbejeaaGreatDoor
open Go.RowKit
theorem all_snoc {p:UInt8->Bool} (s:ByteArray) (k:Nat) (h:k<s.size) (ha:(s.data.toList.take k).all p=true) (hb:p s[k]=true):(s.data.toList.take (k+1)).all p=true:=by
 rw [take_snoc s k h,List.all_append,ha];simp [hb]
theorem all_cons {p:UInt8->Bool} (s:ByteArray) (k:Nat) (h:k<s.size) (ha:(s.data.toList.drop (k+1)).all p=true) (hb:p s[k]=true):(s.data.toList.drop k).all p=true:=by
 rw [drop_cons s k h,List.all_cons,ha,hb];rfl
theorem cleaned_any (s:ByteArray) (w:World) (hs:s.size<=4000000000):
 Calls Tryz.prog 178 #[.string s] w fun e w'=>e = .returned (.string ⟨(cleanV s.data.toList).toArray⟩)/\Below w.heap.size w w':=by
 obtain ⟨i0,hi,hz0,hz1,hz2⟩:=info_parts infoByte
 go_enter Tryz.func178,Tryz.ntmps178
 go_wp2
 go_loop [3] (fun i=> ∃ k:Nat,k<=s.size/\i = .int .i64 k/\(s.data.toList.take k).all wsC=true) (fun i=>s.size - (intOf i).toNat)
 case atStart=>exact ⟨0,Nat.zero_le _,rfl,rfl⟩
 case round=>
  obtain ⟨k,hk,rfl,hall⟩:=hrel
  have HA:=hid hall;clear hall;have hcase:(∃ h:k<s.size,wsC s[k]=true)∨(∃ h:k<s.size,wsC s[k]=false)∨k=s.size:=by
   by_cases h:k<s.size
   ·cases hb:wsC s[k]
    ·exact .inr (.inl ⟨h,hb⟩)
    ·exact .inl ⟨h,hb⟩
   ·exact .inr (.inr (by omega))
  rcases hcase with ⟨hlt,hb⟩ | hcase
  ·have HN:=hid (all_snoc s k hlt HA.out hb)
   have hb2:=ws_yes hb;clear hb
   go_wp2
   go_round
   case rel=>exact ⟨k+1,by omega,by go_num,HN.out⟩
   case measure=>simp [intOf];omega
  ·have HX:Hid (s.size<=k ∨ ∃ h:k<s.data.toList.length,wsC s.data.toList[k]=false):=by
    rcases hcase with ⟨h,hb⟩ | h
    ·exact .inr ⟨by simpa using h,hb⟩
    ·exact .inl (by omega)
   have hgo:(∃ hlt:k<s.size,(32:Int)<(s[k].toNat:Int)) ∨ ¬ (k:Int)<(s.size:Int):=by
    rcases hcase with ⟨h,hb⟩ | h
    ·exact .inl ⟨h,ws_no hb⟩
    ·exact .inr (by omega)
   clear hcase;rcases hgo with ⟨hlt,hb2⟩ | hlt
   all_goals
    go_wp2
    go_loop [4] (fun i=> ∃ m:Nat,k<=m/\m<=s.size/\i = .int .i64 m/\(s.data.toList.drop m).all wsC=true) (fun i=>(intOf i).toNat)
    case atStart=>exact ⟨s.size,hk,Nat.le_refl _,rfl,by rw [List.drop_of_length_le (by simp)];rfl⟩
    case round=>
     obtain ⟨m,hkm,hms,rfl,hall⟩:=hrel
     have HB:=hid hall;clear hall;have hcase:(∃ (m':Nat) (h:m'<s.size),m=m'+1/\k<=m'/\wsC s[m']=true)∨(∃ (m':Nat) (h:m'<s.size),m=m'+1/\k<=m'/\wsC s[m']=false)∨k=m:=by
      by_cases h:k<m
      ·have h1:m - 1<s.size:=by omega
       cases hb:wsC s[m - 1]
       ·exact .inr (.inl ⟨m - 1,h1,by omega,by omega,hb⟩)
       ·exact .inl ⟨m - 1,h1,by omega,by omega,hb⟩
      ·exact .inr (.inr (by omega))
     rcases hcase with ⟨m',hlt,rfl,hkm',hb⟩ | hcase
     ·have HN:=hid (all_cons s m' hlt HB.out hb)
      have hb3:=ws_yes hb;have hkm2:(k:Int)<((m':Nat):Int)+1:=by omega
      clear hb
      go_wp2
      go_round
      case rel=>exact ⟨m',hkm',by omega,by go_num,HN.out⟩
      case measure=>simp [intOf]
     ·have HY:=hid (trim_of s.data.toList k m hkm (by simpa using hms) HA.out HB.out (by
       rcases hcase with ⟨m',h,e,h2,h3⟩ | h
       ·rcases HX.out with h4 | h4
        ·exact .inl (by omega)
        ·subst e
         exact .inr ⟨h4,by simpa using h,h3⟩
       ·exact .inl h))
      have hgo2:(∃ (m':Nat) (h:m'<s.size),m=m'+1/\k<=m'/\(32:Int)<(s[m'].toNat:Int))∨k=m:=by
       rcases hcase with ⟨m',h,e,h2,h3⟩ | h
       ·exact .inl ⟨m',h,e,h2,ws_no h3⟩
       ·exact .inr h
      clear hcase;obtain ⟨n,rfl⟩: ∃ n,m=k+n:=⟨m - k,by omega⟩
      obtain ⟨T,hT⟩: ∃ T:ByteArray,s.extract k (k+n)=T:=⟨_,rfl⟩
      have hTl:T.data.toList=trimV s.data.toList:=by rw [HY.out,<- hT,Lib.extract_data]
      have hTs:T.size=n:=by rw [<- hT];simp;omega
      have HTl:=hid hTl;clear hTl;have hgo3:(∃ (m':Nat) (h:m'<s.size),((k:Int)+(n:Int) - 1=(m':Int))/\(k:Int)<(k:Int)+(n:Int)/\(32:Int)<(s[m'].toNat:Int)) ∨ ¬ (k:Int)<(k:Int)+(n:Int):=by
       rcases hgo2 with ⟨m',h,e,h2,h3⟩ | h
       ·exact .inl ⟨m',h,by omega,by omega,h3⟩
       ·exact .inr (by omega)
      clear hgo2;have hkn:(k:Int)+(n:Int) - (k:Int)=(n:Int):=by omega
      have hkn2:(k:Int)<=(k:Int)+(n:Int):=by omega
      have hkn3:(k:Int)+(n:Int)<=(s.size:Int):=by omega
      rcases hgo3 with ⟨m',hlt2,hm1,hkm2,hb3⟩ | hkm2
      all_goals
       first
       | (exfalso;omega)
       | (go_wp2_with (at_make;refine wpList_make_own _ rfl _ _ 92 rfl w.heap.size 5 i0 (.int .u8 0) 1 Tryz.underlying92 hi hz0 hz1 .i64 .i64 _ n rfl rfl rfl (by rw [hz2];omega) (by unfold maxLen;omega) (Nat.le_refl _) ?_)
          intro w0 hown0 hgrow0;have hb0:Below w.heap.size w w0:=(Below.refl _ w).grown hgrow0 (Nat.le_refl _) (fun k hk=>by simp at hk);have hlt0:=(hown0.lt w.heap.size rfl).2;clear hgrow0;have hcv:=run_bytes_of_string (P:=Tryz.prog) w0 9 92 5 T Tryz.underlying9 Tryz.underlying92 Tryz.underlying5;have hcap:=grownCap_ge w0 T.size 0 5;have hr0:=rowIs_bytes w0 5 T (grownCap w0 T.size 0 5) hcap
          have hb1:Below w0.heap.size w0 (w0.drew.alloc (.cells (bytesRow T (grownCap w0 T.size 0 5)) 5 ((bytesRow T (grownCap w0 T.size 0 5)).size,(bytesRow T (grownCap w0 T.size 0 5)).size+1))):=(Below.refl _ w0).drew.alloc (Nat.le_refl _) _;have hown1:=(show w0.drew.ownsRow w.heap.size 5 1 (Value.slice (some ⟨w.heap.size,0,none⟩) 0 n) 0 [] from hown0).alloc (.cells (bytesRow T (grownCap w0 T.size 0 5)) 5 ((bytesRow T (grownCap w0 T.size 0 5)).size,(bytesRow T (grownCap w0 T.size 0 5)).size+1))
          generalize (w0.drew.alloc (.cells (bytesRow T (grownCap w0 T.size 0 5)) 5 ((bytesRow T (grownCap w0 T.size 0 5)).size,(bytesRow T (grownCap w0 T.size 0 5)).size+1)))=w1 at hcv hr0 hb1 hown1;generalize grownCap w0 T.size 0 5=cap at hcv hcap;rw [hTs] at hcv
          go_wp2
          clear hcv hT
          go_loopw [5,43] (fun v i wr=> ∃ j:Nat,j<=n/\i = .int .i64 j/\wr.ownsRow w.heap.size 5 1 v (keepC (T.data.toList.take j)).length (Lib.byteCells (keepC (T.data.toList.take j)))/\Below w.heap.size w wr/\rowIs wr w0.heap.size 5 T.data.toList/\v ≠ .slice none 0 0/\v.ownBlock≠some w0.heap.size)
           (fun _ i _=>n - (intOf i).toNat)
          case atStart=>
           refine ⟨0,Nat.zero_le _,rfl,hown1,below2 hb0 hb1,hr0,by simp,?_⟩
           simp [Value.ownBlock];omega
          case round=>
           obtain ⟨j,hj,rfl,hown,hbw,hr,hnn,hne⟩:=hrel
           have hle:=keepC_le (T.data.toList.take j);have htl:(T.data.toList.take j).length<=j:=List.length_take_le _ _;by_cases hjn:j<n
           ·first
            | (exfalso;omega)
            | (have hjT:j<T.size:=by omega
               have hjl:j<T.data.toList.length:=by simpa using hjT
               have HT:=hid (take_snoc T j hjT);have hc:=hr.cell j hjl;have HR:=hid hr;have HO:=hid hown;have hcc:T.data.toList[j]=T[j]:=rfl;rw [hcc] at hc;clear hr hown hcc;have hc8:T[j].toNat<256:=T[j].toNat_lt;by_cases he:eyeC T[j]=true
               ·have HK:=hid (keepC_yes (T.data.toList.take j) T[j] he)
                rcases eye_yes he with e1 | ⟨e1,e2⟩ | ⟨e1,e2,e3⟩
                all_goals
                 clear he
                 go_wp2
                 go_roundw
                 case rel=>exact ⟨j+1,by omega,by go_num,by rw [HT.out,HK.out];exact HO.out,hbw,HR.out,hnn,hne⟩
                 case measure=>simp [intOf];omega
               ·have he':eyeC T[j]=false:=by simpa using he
                have HK:=hid (keepC_no (T.data.toList.take j) T[j] he');obtain ⟨e1,e2,e3⟩:=eye_no he'
                have hwr:=hbw.size;have hg0:w0.heap.size<wr.heap.size:=by
                 obtain ⟨C,fz,hgg,_⟩:=HR.out
                 exact (Array.getElem?_eq_some_iff.1 hgg).1
                clear he he'
                go_wp2_with (at_builtin;refine wpList_append_where _ rfl _ _ 92 rfl w.heap.size 5 i0 (.int .u8 0) 1 1 Tryz.underlying92 hi hz0 hz1 hz2 rfl (by decide) _ _ _ rfl (HO.out.alloc _) ⟨wr.heap.size,0,none⟩ 1 1 [.int .u8 T[j].toNat] rfl rfl ?c1 ?c2 ?c3 ?c4 ?c5 (by decide) ?_)
                case c1=>
                 intro q u hq
                 match q,hq with
                 | 0,hq=>simp at hq;subst hq;simp [Addr.add]
                case c2=>intro u hu;simp at hu;subst hu;rfl
                case c3=>unfold maxLen;omega
                case c4=>omega
                case c5=>simp;omega
                intro v' w2 hown' hgrow hat;have HR2:=hid (rowIs_same (w':=w2) HR.out (by
                 rw [hgrow.block w0.heap.size (by simp;omega) (fun e=>hne e.symm)];exact ((Below.refl wr.heap.size wr).alloc (Nat.le_refl _) _).block _ hg0))
                have HO2:=hid hown';have HB2:=hid (show Below w.heap.size w w2 from (hbw.alloc hbw.size _).grown hgrow (by simp;omega) (fun g hg=>(HO.out.lt g hg).1));have HAt:=hid (show v' ≠ .slice none 0 0/\v'.ownBlock≠some w0.heap.size by
                 obtain ⟨g',cap',rfl,hg'⟩:=hat
                 refine ⟨by simp,?_⟩
                 intro e;simp [Value.ownBlock] at e;rcases hg' with h | h
                 ·exact hne (by rw [h,e])
                 ·simp at h;omega)
                clear hown' hgrow hat
                go_wp2
                go_roundw
                case rel=>
                 refine ⟨j+1,by omega,by go_num,?_,HB2.out,HR2.out,HAt.out.1,HAt.out.2⟩;rw [HT.out,HK.out,Lib.byteCells_append,byteCells_one]
                 have:=HO2.out;simpa using this
                case measure=>simp [intOf];omega)
           ·have hje:j=n:=by omega
            subst hje;have hTj:T.data.toList.take j=T.data.toList:=List.take_of_length_le (by simp;omega)
            rw [hTj,HTl.out,<- clean_keep] at hown
            have hcv2:=run_string_own (P:=Tryz.prog) (src:=92) (dst:=9) Tryz.underlying92 Tryz.underlying5 Tryz.underlying9 hown hnn
            go_wp2
            go_ret
            exact ⟨rfl,hbw⟩)
def colJ (s:ByteArray) (w:World) (l:Nat) (a:Act) (w':World):Prop:=
 w'=w /\ ∃ (i k:Nat) (u7 u8 u9 u10 u11 u12 u13 u14 u15 u16 u17 u18 u19 u20 u21 u22 u23 u24 u25 u26 u27 u28 u29 u30 u31 u32 u33 u34 u35 u36:Value),a={ tmps:= #[.string s,undef,.int .i64 0,.int .i64 i,.int .i64 k,.string s,.int .i64 s.size,u7,u8,u9,u10,u11,u12,u13,u14,u15,u16,u17,u18,u19,u20,u21,u22,u23,u24,u25,u26,u27,u28,u29,u30,u31,u32,u33,u34,u35,u36],defers:=[] }/\i<s.size/\k<=s.size/\(l=0∨l=1)/\colN (l==0) (i+1) k (s.data.toList.drop (i+1))=colV s.data.toList
theorem exitMany_ret {J:Nat->Act->World->Prop} {Q:Exit->Act->World->Prop} {a:Act} {w:World}:exitMany J Q .ret a w=Q .ret a w:=rfl
theorem byte_is {s:ByteArray} {n:Nat} {h:n<s.size} {c:UInt8} (e:s[n]=c):((s[n].toNat:Int)==(c.toNat:Int))=true:=by rw [e];exact beq_self_eq_true _
theorem byte_not {s:ByteArray} {n:Nat} {h:n<s.size} {c:UInt8} (e: ¬ s[n]=c):((s[n].toNat:Int)==(c.toNat:Int))=false:=by
 rw [beq_eq_false_iff_ne];intro h2;exact e (UInt8.toNat_inj.1 (by omega))
theorem colonOfPort_any (s:ByteArray) (w:World) (hs:s.size<=4000000000):
 Calls Tryz.prog 188 #[.string s] w fun e w'=>e = .returned (.int .i64 (colV s.data.toList:Nat))/\w=w':=by
 go_enter Tryz.func188,Tryz.ntmps188
 go_wp2
 refine wp_scope_many (colJ s w) (fun _ a _=>s.size - (intOf (a.tmps.getD 3 undef)).toNat) ?_ ?_
 ·go_wp2
  go_step3
  go_wp2
  go_loop [3,4] (fun i k=> ∃ n m:Nat,i = .int .i64 n/\k = .int .i64 m/\0<=n/\n<=s.size/\m<=s.size/\colN false n m (s.data.toList.drop n)=colV s.data.toList) (fun i _=>s.size - (intOf i).toNat)
  case atStart=>exact ⟨0,s.size,rfl,rfl,Nat.le_refl _,Nat.zero_le _,Nat.le_refl _,by rw [List.drop_zero,colV];simp⟩
  case round=>
   obtain ⟨n,m,rfl,rfl,hn0,hn,hm,hcol⟩:=hrel
   have HC:=hid hcol;clear hcol;by_cases hlt:n<s.size
   ·have HD:=hid (drop_cons s n hlt)
    by_cases h58:s[n]=58
    ·have e58:((s[n].toNat:Int)==58)=true:=byte_is h58
     have HN:=hid (show colN false (n+1) n (s.data.toList.drop (n+1))=colV s.data.toList by rw [<- HC.out,HD.out,h58];rfl);clear h58
     go_wp2
     go_round
     case rel=>exact ⟨n+1,n,by go_num,rfl,by omega,by omega,by omega,HN.out⟩
     case measure=>simp [intOf];omega
    ·have e58:((s[n].toNat:Int)==58)=false:=byte_not h58
     by_cases h91:s[n]=91
     ·have e91:((s[n].toNat:Int)==91)=true:=byte_is h91
      have HN:=hid (show colN true (n+1) m (s.data.toList.drop (n+1))=colV s.data.toList by rw [<- HC.out,HD.out,h91];rfl);clear h58 h91
      go_wp2
      go_step3
      refine ⟨rfl,n,m,?_⟩
      (repeat apply Exists.intro)
      exact ⟨rfl,hlt,hm,.inl rfl,HN.out⟩
     ·have e91:((s[n].toNat:Int)==91)=false:=byte_not h91
      have HN:=hid (show colN false (n+1) m (s.data.toList.drop (n+1))=colV s.data.toList by rw [<- HC.out,HD.out,colN,if_neg h58,if_neg h91]);clear h58 h91
      go_wp2
      go_round
      case rel=>exact ⟨n+1,m,by go_num,rfl,by omega,by omega,by omega,HN.out⟩
      case measure=>simp [intOf];omega
   ·have HN:=hid (show m=colV s.data.toList by rw [<- HC.out,drop_none s n hlt];cases n<;>rfl)
    go_wp2
    rw [exitMany_ret]
    go_ret
    rw [<- HN.out];exact ⟨rfl,rfl⟩
 ·rintro l a w' ⟨rfl,i0,m,u7,u8,u9,u10,u11,u12,u13,u14,u15,u16,u17,u18,u19,u20,u21,u22,u23,u24,u25,u26,u27,u28,u29,u30,u31,u32,u33,u34,u35,u36,rfl,hi0,hm,hl,hcol0⟩
  have HC0:=hid hcol0;clear hcol0;rcases hl with rfl | rfl
  ·refine ⟨_,rfl,?_⟩
   go_wp2
   go_loop [3] (fun i=> ∃ n:Nat,i = .int .i64 n/\i0+1<=n/\n<=s.size/\colN true n m (s.data.toList.drop n)=colV s.data.toList) (fun i=>s.size - (intOf i).toNat)
   case atStart=>exact ⟨i0+1,by go_num,by omega,by omega,HC0.out⟩
   case round=>
    obtain ⟨n,rfl,hn0,hn,hcol⟩:=hrel
    have HC:=hid hcol;clear hcol;by_cases hlt:n<s.size
    ·have HD:=hid (drop_cons s n hlt)
     by_cases h93:s[n]=93
     ·have e93:((s[n].toNat:Int)==93)=true:=byte_is h93
      have HN:=hid (show colN false (n+1) m (s.data.toList.drop (n+1))=colV s.data.toList by rw [<- HC.out,HD.out,h93];rfl);clear h93
      go_wp2
      go_step3
      refine ⟨⟨rfl,n,m,?_⟩,?_⟩
      ·(repeat apply Exists.intro)
       exact ⟨rfl,hlt,hm,.inr rfl,HN.out⟩
      ·simp [intOf];omega
     ·have e93:((s[n].toNat:Int)==93)=false:=byte_not h93
      have HN:=hid (show colN true (n+1) m (s.data.toList.drop (n+1))=colV s.data.toList by rw [<- HC.out,HD.out,colN,if_neg h93]);clear h93
      go_wp2
      go_round
      case rel=>exact ⟨n+1,by go_num,by omega,by omega,HN.out⟩
      case measure=>simp [intOf];omega
    ·have HN:=hid (show m=colV s.data.toList by rw [<- HC.out,drop_none s n hlt];cases n<;>rfl)
     go_wp2
     rw [exitMany_ret]
     go_ret
     rw [<- HN.out];exact ⟨rfl,rfl⟩
  ·refine ⟨_,rfl,?_⟩
   go_wp2
   go_loop [3,4] (fun i k=> ∃ n m:Nat,i = .int .i64 n/\k = .int .i64 m/\i0+1<=n/\n<=s.size/\m<=s.size/\colN false n m (s.data.toList.drop n)=colV s.data.toList) (fun i _=>s.size - (intOf i).toNat)
   case atStart=>exact ⟨i0+1,m,by go_num,rfl,Nat.le_refl _,by omega,hm,HC0.out⟩
   case round=>
    obtain ⟨n,m_1,rfl,rfl,hn0,hn,hm,hcol⟩:=hrel
    have HC:=hid hcol;clear hcol;by_cases hlt:n<s.size
    ·have HD:=hid (drop_cons s n hlt)
     by_cases h58:s[n]=58
     ·have e58:((s[n].toNat:Int)==58)=true:=byte_is h58
      have HN:=hid (show colN false (n+1) n (s.data.toList.drop (n+1))=colV s.data.toList by rw [<- HC.out,HD.out,h58];rfl);clear h58
      go_wp2
      go_round
      case rel=>exact ⟨n+1,n,by go_num,rfl,by omega,by omega,by omega,HN.out⟩
      case measure=>simp [intOf];omega
     ·have e58:((s[n].toNat:Int)==58)=false:=byte_not h58
      by_cases h91:s[n]=91
      ·have e91:((s[n].toNat:Int)==91)=true:=byte_is h91
       have HN:=hid (show colN true (n+1) m_1 (s.data.toList.drop (n+1))=colV s.data.toList by rw [<- HC.out,HD.out,h91];rfl);clear h58 h91
       go_wp2
       go_step3
       refine ⟨⟨rfl,n,m_1,?_⟩,?_⟩
       ·(repeat apply Exists.intro)
        exact ⟨rfl,hlt,hm,.inl rfl,HN.out⟩
       ·simp [intOf];omega
      ·have e91:((s[n].toNat:Int)==91)=false:=byte_not h91
       have HN:=hid (show colN false (n+1) m_1 (s.data.toList.drop (n+1))=colV s.data.toList by rw [<- HC.out,HD.out,colN,if_neg h58,if_neg h91]);clear h58 h91
       go_wp2
       go_round
       case rel=>exact ⟨n+1,m_1,by go_num,rfl,by omega,by omega,by omega,HN.out⟩
       case measure=>simp [intOf];omega
    ·have HN:=hid (show m_1=colV s.data.toList by rw [<- HC.out,drop_none s n hlt];cases n<;>rfl)
     go_wp2
     rw [exitMany_ret]
     go_ret
     rw [<- HN.out];exact ⟨rfl,rfl⟩
def hx (c:UInt8):Bool:=decide (dig16 c<16)
def halves (m:Nat):List Nat:=[m / 65536,m % 65536]
def hexP (p:List UInt8):Option (List Nat):=if p≠[]/\p.length<=4/\p.all hx=true then some [fold16 0 p] else none
theorem scan_all (whole:Option Nat) (last:Bool): ∀ (l:List UInt8) (i n:Nat),i<=4->(last=true->46 ∉ l)->scanP whole last i n l=if (i≠0∨l≠[])/\i+l.length<=4/\l.all hx=true then some [fold16 n l] else none
 | [],i,n,hi,_=>by
   rw [scanP];by_cases h:i=0
   ·rw [if_pos h,if_neg (by simp [h])]
   ·rw [if_neg h,if_pos ⟨.inl h,by simpa using hi,rfl⟩];rfl
 | c::l,i,n,hi,hl=>by
   rw [scanP,if_neg (by rintro ⟨rfl,h⟩;exact hl h (by simp))]
   by_cases hd:dig16 c<16/\i≠4
   ·rw [if_pos hd,scan_all whole last l (i+1) _ (by omega) (fun h e=>hl h (by simp [e]))]
    have e:(fold16 (n*16+dig16 c) l)=fold16 n (c::l):=rfl;rw [e];by_cases h:i+(c::l).length<=4/\(c::l).all hx=true
    ·have h1:i+1+l.length<=4:=by have:=h.1;simp at this;omega
     have h2:l.all hx=true:=by have:=h.2;simp only [List.all_cons,Bool.and_eq_true] at this;exact this.2
     rw [if_pos ⟨.inl (by omega),h1,h2⟩,if_pos ⟨.inr (by simp),h⟩]
    ·have h': ¬ ((i+1≠0∨l≠[])/\i+1+l.length<=4/\l.all hx=true):=by
      rintro ⟨_,h1,h2⟩
      exact h ⟨by simp;omega,by simp only [List.all_cons,h2,Bool.and_true,hx,decide_eq_true_eq];exact hd.1⟩
     rw [if_neg h',if_neg (fun g=>h g.2)]
   ·rw [if_neg hd,if_neg]
    rintro ⟨_,h1,h2⟩
    simp only [List.all_cons,Bool.and_eq_true,hx,decide_eq_true_eq] at h2
    simp at h1;exact hd ⟨h2.1,by omega⟩
theorem pieceV_hex (last:Bool) (p:List UInt8) (h:last=true->46 ∉ p):pieceV last p=hexP p:=by
 unfold pieceV hexP;rw [scan_all _ _ _ _ _ (by omega) h]
 congr 1
 simp
theorem scan_dotted (whole:Option Nat): ∀ (a r:List UInt8) (i n:Nat),i<=4->46 ∉ a->scanP whole true i n (a++46::r)=if i+a.length<=4/\a.all hx=true then whole.map halves else none
 | [],r,i,n,hi,_=>by
   rw [List.nil_append,scanP,if_pos ⟨rfl,rfl⟩,if_pos ⟨by simpa using hi,rfl⟩];rfl
 | c::a,r,i,n,hi,ha=>by
   rw [List.cons_append,scanP,if_neg (by rintro ⟨rfl,h⟩;exact ha (by simp))]
   by_cases hd:dig16 c<16/\i≠4
   ·rw [if_pos hd,scan_dotted whole a r (i+1) _ (by omega) (fun e=>ha (by simp [e]))]
    have hc:hx c=true:=by simp [hx,hd.1]
    simp only [List.length_cons,List.all_cons,hc,Bool.true_and]
    rw [show i+1+a.length=i+(a.length+1) by omega]
   ·rw [if_neg hd,if_neg]
    rintro ⟨h1,h2⟩
    simp only [List.all_cons,Bool.and_eq_true,hx,decide_eq_true_eq] at h2
    simp at h1;exact hd ⟨h2.1,by omega⟩
def dotL:Nat->List (List UInt8)->Option Nat
 | n,[]=>some n
 | n,x::L=>match plainB x with
   | none=>none
   | some b=>dotL (n*256+b) L
theorem dotN_L: ∀ (r n:Nat) (l:List UInt8),dotN (r+1) n l=if (cutL 46 l).length=r+1 then dotL n (cutL 46 l) else none
 | r,n,l=>by
   rcases first_split 46 l with h | ⟨a,t,ha,rfl⟩
   ·rw [dotN,cut_none l 46 h,cutL_none 46 l h]
    simp only [List.length_singleton,dotL]
    cases plainB l with
    | none=>simp
    | some b=>
      cases r with
      | zero=>rfl
      | succ r=>simp
   ·rw [dotN,cut_some a t 46 ha,cutL_some 46 a t ha]
    simp only [List.length_cons,dotL]
    have hne:=List.length_pos_iff.2 (cutL_ne 46 t)
    cases plainB a with
    | none=>simp
    | some b=>
      cases r with
      | zero=>
        rw [if_neg (by omega)];rfl
      | succ r=>
        simp only [ne_eq,Nat.add_one_ne_zero,not_false_eq_true,decide_true,if_true]
        rw [dotN_L r _ t]
        congr 1
        simp
theorem dottedV_L (p:List UInt8):dottedV p=if (cutL 46 p).length=4 then dotL 0 (cutL 46 p) else none:=dotN_L 3 0 p
theorem valN_up: ∀ (l:List UInt8) (n m:Nat),n<=4294967296->valN 10 n l=some m->n<=m
 | [],n,m,_,h=>by rw [valN] at h;injection h with h;omega
 | c::l,n,m,hn,h=>by
   rw [valN] at h;split at h
   ·have:=valN_up l _ m (by omega) h
    omega
   ·cases h
theorem valN_cons {n m:Nat} {c:UInt8} {l:List UInt8} (h:valN 10 n (c::l)=some m):dig16 c<10/\valN 10 (min (n*10+dig16 c) 4294967296) l=some m:=by
 rw [valN] at h;split at h
 ·exact ⟨by assumption,h⟩
 ·cases h
theorem valN_hx (base:Nat) (hb:base<=16) (l:List UInt8) (n m:Nat) (h:valN base n l=some m):l.all hx=true:=by
 have:=valN_isSome base l n;rw [h] at this;have h2:=List.all_eq_true.1 this.symm;rw [List.all_eq_true];intro c hc;have:=h2 c hc;simp only [decide_eq_true_eq] at this;simp only [hx,decide_eq_true_eq]
 omega
theorem dig16_zero (c:UInt8) (h:dig16 c=0):c=48:=by
 have key: ∀ n<256,dig16 (UInt8.ofNat n)=0->UInt8.ofNat n=48:=by decide +kernel
 have:=key c.toNat c.toNat_lt;simp at this;exact this h
theorem plainB_ok (a:List UInt8) (b:Nat) (h:plainB a=some b):a.length<=4/\a.all hx=true:=by
 unfold plainB at h
 cases hv:valV 10 a with
 | none=>rw [hv] at h;cases h
 | some n=>
   rw [hv] at h;simp only at h;split at h
   ·cases h
   ·rename_i hn
    refine ⟨?_,valN_hx 10 (by omega) a 0 n hv⟩
    rcases Nat.lt_or_ge 4 a.length with h4 | h4
    ·exfalso
     match a,h4 with
     | c::d::e::f::r,_=>
       unfold valV at hv;obtain ⟨h1,hv⟩:=valN_cons hv
       obtain ⟨h2,hv⟩:=valN_cons hv
       obtain ⟨h3,hv⟩:=valN_cons hv
       obtain ⟨h4,hv⟩:=valN_cons hv
       have:=valN_up _ _ _ (by omega) hv
       have hc:dig16 c≠0:=fun e=>hn (.inr (.inr ⟨by rw [dig16_zero c e];rfl,by simp⟩))
       have hn1: ¬ 255<n:=fun e=>hn (.inl e)
       omega
    ·exact h4
theorem pieceV_last (p:List UInt8):pieceV true p=if (cutL 46 p).length=4 then (dotL 0 (cutL 46 p)).map halves else hexP p:=by
 rcases first_split 46 p with h | ⟨a,r,ha,rfl⟩
 ·rw [pieceV_hex true p (fun _=>h),cutL_none 46 p h,if_neg (by simp)]
 ·have e:pieceV true (a++46::r)=if 0+a.length<=4/\a.all hx=true then (dottedV (a++46::r)).map halves else none:=scan_dotted _ a r 0 0 (by omega) ha
  rw [e,dottedV_L]
  by_cases h4:(cutL 46 (a++46::r)).length=4
  ·rw [if_pos h4,if_pos h4]
   rw [cutL_some 46 a r ha,dotL]
   cases hp:plainB a with
   | none=>simp
   | some b=>
     have:=plainB_ok a b hp;rw [if_pos ⟨by omega,this.2⟩]
  ·rw [if_neg h4,if_neg h4]
   have:hexP (a++46::r)=none:=by
    unfold hexP;rw [if_neg];rintro ⟨_,_,h⟩
    have:=List.all_eq_true.1 h 46 (by simp)
    revert this;decide
   rw [this];simp
def big:Nat:=9223372036854775807
def plainR (l:List UInt8):Option Nat:=
 match valC big 10 0 l with
 | none=>none
 | some m=>if l=[]∨255<m∨(1<l.length/\l.head? = some 48) then none else some m
theorem plainR_eq (l:List UInt8):plainR l=plainB l:=by
 unfold plainR plainB valV;rw [valC_N big 10 (by omega) (by decide) l 0 0 rfl]
 cases valC big 10 0 l with
 | none=>rfl
 | some m=>
   simp only [Option.map_some];by_cases h:l=[]∨255<m∨(1<l.length/\l.head? = some 48)
   ·rw [if_pos h,if_pos]
    rcases h with h | h | ⟨h1,h2⟩
    ·exact .inr (.inl h)
    ·exact .inl (by omega)
    ·refine .inr (.inr ⟨h2,?_⟩)
     rintro rfl;simp at h1
   ·rw [if_neg h,if_neg]
    ·have: ¬ 255<m:=fun e=>h (.inr (.inl e))
     rw [Nat.min_eq_left (by omega)]
    ·rintro (g | g | ⟨g1,g2⟩)
     ·exact h (.inr (.inl (by omega)))
     ·exact h (.inl g)
     ·refine h (.inr (.inr ⟨?_,g1⟩))
      match l,g1,g2 with
      | [c],g1,g2=>simp at g1;subst g1;exact absurd rfl g2
      | c::d::r,_,_=>simp
def rpL (e:Bool):List (List UInt8)->Option (List Nat)
 | []=>some []
 | [p]=>pieceV e p
 | p::q::L=>match hexP p with
   | none=>none
   | some ns=>(rpL e (q::L)).map fun x=>ns++x
theorem piecesN_L (e:Bool): ∀ (f:Nat) (out:List Nat) (l:List UInt8),piecesN e f out l true=if (cutL 58 l).length<=f then (rpL e (cutL 58 l)).map fun x=>out++x else none
 | 0,out,l=>by
   have:=List.length_pos_iff.2 (cutL_ne 58 l);rw [if_neg (by omega)];rfl
 | f+1,out,l=>by
   rcases first_split 58 l with h | ⟨a,t,ha,rfl⟩
   ·rw [piecesN,cut_none l 58 h,cutL_none 58 l h,if_pos (by simp),rpL]
    simp only [Bool.not_false,Bool.and_true]
    cases pieceV e l with
    | none=>rfl
    | some ns=>simp only [Option.map_some];exact piecesN_done
   ·rw [piecesN,cut_some a t 58 ha,cutL_some 58 a t ha]
    simp only [Bool.not_true,Bool.and_false]
    obtain ⟨y,L,hy⟩: ∃ y L,cutL 58 t=y::L:=by
     cases e:cutL 58 t with
     | nil=>exact absurd e (cutL_ne 58 t)
     | cons y L=>exact ⟨y,L,rfl⟩
    rw [pieceV_hex false a (by simp),hy,rpL]
    cases hexP a with
    | none=>simp
    | some ns=>
      simp only;rw [piecesN_L e f (out++ns) t,hy];simp only [List.length_cons,Nat.add_le_add_iff_right]
      congr 1
      cases rpL e (y::L)<;>simp
def rpV (s:List UInt8) (e:Bool):Option (List Nat):=if s=[] then some [] else rpL e (cutL 58 s)
theorem piecesV_rp (s:List UInt8) (e:Bool):piecesV s e=if s=[]∨(cutL 58 s).length<=8 then rpV s e else none:=by
 unfold piecesV rpV;by_cases h:s=[]
 ·subst h;rfl
 ·rw [decide_eq_true h,piecesN_L]
  simp only [h,false_or,if_false,List.nil_append,Option.map_id']
theorem hexP_len (p:List UInt8) (ns:List Nat) (h:hexP p=some ns):ns.length=1:=by
 unfold hexP at h;split at h
 ·injection h with h;rw [<- h];rfl
 ·cases h
theorem pieceV_len (e:Bool) (p:List UInt8) (ns:List Nat) (h:pieceV e p=some ns):1<=ns.length:=by
 cases e with
 | false=>rw [pieceV_hex false p (by simp)] at h;rw [hexP_len p ns h];exact Nat.le_refl _
 | true=>
   rw [pieceV_last] at h;split at h
   ·cases hd:dotL 0 (cutL 46 p) with
    | none=>rw [hd] at h;cases h
    | some m=>rw [hd] at h;simp at h;rw [<- h];simp [halves]
   ·rw [hexP_len p ns h];exact Nat.le_refl _
theorem rpL_len (e:Bool): ∀ (L:List (List UInt8)) (x:List Nat),rpL e L=some x->L.length<=x.length
 | [],x,_=>by simp
 | [p],x,h=>pieceV_len e p x h
 | p::q::L,x,h=>by
   rw [rpL] at h
   cases hp:hexP p with
   | none=>rw [hp] at h;cases h
   | some ns=>
     rw [hp] at h;simp only at h
     cases hr:rpL e (q::L) with
     | none=>rw [hr] at h;cases h
     | some y=>
       rw [hr] at h;simp only [Option.map_some,Option.some.injEq] at h
       have:=rpL_len e (q::L) y hr;have:=hexP_len p ns hp;rw [<- h];simp at *
       omega
theorem pieces_some (s:List UInt8) (e:Bool) (x:List Nat) (h:rpV s e=some x) (hx:x.length<=8):piecesV s e=some x:=by
 rw [piecesV_rp,if_pos,h]
 by_cases h0:s=[]
 ·exact .inl h0
 ·right
  unfold rpV at h;rw [if_neg h0] at h;have:=rpL_len e _ x h;omega
theorem pieces_back (s:List UInt8) (e:Bool) (x:List Nat) (h:piecesV s e=some x):rpV s e=some x:=by
 rw [piecesV_rp] at h;split at h
 ·exact h
 ·cases h
def rsixV (l:List UInt8):Option (List Nat):=
 if (Lib.cut l [58,58]).2.2 then
  match rpV (Lib.cut l [58,58]).1 false,rpV (Lib.cut l [58,58]).2.1 true with
  | some a,some b=>if a.length+b.length<=7 then some (a++List.replicate (8 - a.length - b.length) 0++b) else none
  | _,_=>none
 else match rpV l true with
  | some a=>if a.length=8 then some a else none
  | none=>none
theorem cut_not (l:List UInt8) (h:(Lib.cut l [58,58]).2.2=false):Lib.cut l [58,58]=(l,[],false):=by
 unfold Lib.cut at h ⊢;split
 ·rename_i h1;rw [if_pos h1] at h;cases h
 ·rfl
theorem rsixV_eq (l:List UInt8):sixV l=rsixV l:=by
 unfold rsixV
 cases hg:(Lib.cut l [58,58]).2.2 with
 | false=>
   have hc:=cut_not l hg;simp only [Bool.false_eq_true,if_false]
   unfold sixV;rw [hc];have hn:piecesV [] true=some []:=rfl;simp only [Bool.not_false,hn]
   cases hr:rpV l true with
   | none=>
     cases hp:piecesV l true with
     | none=>rfl
     | some x=>rw [pieces_back l true x hp] at hr;cases hr
   | some a=>
     simp only;by_cases h8:a.length=8
     ·rw [pieces_some l true a hr (by omega),if_pos h8]
      simp [h8]
     ·rw [if_neg h8]
      cases hp:piecesV l true with
      | none=>rfl
      | some x=>
        have:=pieces_back l true x hp;rw [hr] at this;injection this with this
        subst this;simp only [List.length_nil,Nat.add_zero,Bool.false_eq_true,false_iff]
        rw [if_neg (by omega)]
 | true=>
   simp only [if_true];unfold sixV;rw [hg];simp only [Bool.not_true,true_iff]
   cases hr:rpV (Lib.cut l [58,58]).1 false with
   | none=>
     cases hp:piecesV (Lib.cut l [58,58]).1 false with
     | none=>rfl
     | some x=>rw [pieces_back _ _ x hp] at hr;cases hr
   | some a=>
     cases hr2:rpV (Lib.cut l [58,58]).2.1 true with
     | none=>
       cases hp:piecesV (Lib.cut l [58,58]).2.1 true with
       | none=>cases piecesV (Lib.cut l [58,58]).1 false<;>rfl
       | some x=>rw [pieces_back _ _ x hp] at hr2;cases hr2
     | some b=>
       simp only;by_cases h7:a.length+b.length<=7
       ·rw [pieces_some _ _ a hr (by omega),pieces_some _ _ b hr2 (by omega),if_pos h7]
        simp only;rw [if_pos ⟨by omega,by omega⟩]
       ·rw [if_neg h7]
        cases hp:piecesV (Lib.cut l [58,58]).1 false with
        | none=>rfl
        | some x=>
          have e1:=pieces_back _ _ x hp;rw [hr] at e1;injection e1 with e1
          subst e1
          cases hp2:piecesV (Lib.cut l [58,58]).2.1 true with
          | none=>rfl
          | some y=>
            have e2:=pieces_back _ _ y hp2;rw [hr2] at e2;injection e2 with e2
            subst e2;simp only;rw [if_neg (by omega)]
def xn:List UInt8:=[120,110,45,45]
theorem contains_cons (x:UInt8) (l sub:List UInt8) (h:sub≠[]):Lib.contains (x::l) sub=(sub.isPrefixOf (x::l)||Lib.contains l sub):=by
 unfold Lib.contains;rw [Lib.index]
 cases sub.isPrefixOf (x::l) with
 | true=>simp
 | false=>
   simp only [Bool.false_eq_true,if_false,Bool.false_or]
   by_cases h1:Lib.index l sub = -1
   ·simp [h1]
   ·have h2:(Lib.index l sub == -1)=false:=by rw [beq_eq_false_iff_ne];exact h1
    have h3:0<=Lib.index l sub:=by
     have:=Lib.index_ge l sub;omega
    simp [h2,h1]
    omega
theorem xn_app: ∀ (a r:List UInt8),46 ∉ a->Lib.hasPrefix (a++46::r) xn=Lib.hasPrefix a xn:=by
 intro a r h;unfold Lib.hasPrefix xn
 match a with
 | []=>rfl
 | [b]=>simp [List.isPrefixOf]
 | [b,c]=>simp [List.isPrefixOf]
 | [b,c,d]=>simp [List.isPrefixOf]
 | b::c::d::e::t=>simp [List.isPrefixOf]
theorem con_skip (r:List UInt8): ∀ a:List UInt8,46 ∉ a->Lib.contains (a++r) (46::xn)=Lib.contains r (46::xn)
 | [],_=>rfl
 | x::a,h=>by
   have hx:x≠46:=fun e=>h (by simp [e])
   rw [List.cons_append,contains_cons _ _ _ (by simp),con_skip r a (fun e=>h (by simp [e]))]
   have:(46::xn).isPrefixOf (x::(a++r))=false:=by
    simp [List.isPrefixOf];intro e;exact absurd e.symm hx
   rw [this];rfl
theorem coded_eq: ∀ l:List UInt8,coded l=(cutL 46 l).any fun p=>Lib.hasPrefix p xn:=by
 refine cutL_ind 46 (fun l h=> ?_) (fun a r h ih=> ?_)
 ·rw [cutL_none 46 l h]
  have:=con_skip [] l h;rw [List.append_nil] at this;unfold coded;rw [show ([46,120,110,45,45]:List UInt8)=46::xn from rfl,this,show Lib.contains [] (46::xn)=false from by decide];simp [xn]
 ·rw [cutL_some 46 a r h,List.any_cons,<- ih]
  unfold coded;rw [show ([46,120,110,45,45]:List UInt8)=46::xn from rfl,show ([120,110,45,45]:List UInt8)=xn from rfl,xn_app a r h,con_skip _ a h,contains_cons _ _ _ (by simp)]
  congr 2
theorem ret_str {l:List UInt8} {t:ByteArray} (h:t.data.toList=l):Ending.returned (.string t) = .returned (.string ⟨l.toArray⟩):=by
 rw [<- h,Lib.mk_data]
theorem rdigit_any (c:Int) (w:World):
 Calls Tryz.prog 44 #[.int .u8 c] w fun e w'=>e = .returned (.bool (digitI c))/\w=w':=by
 go_enter Tryz.func44,Tryz.ntmps44
 go_wp2
 all_goals
  go_ret
  exact ⟨ret_bool (by rw [Bool.eq_iff_iff];simp [digitI];omega),rfl⟩
theorem rlower_any (s:ByteArray) (w:World) (hs:s.size<=140737488351232):
 Calls Tryz.prog 30 #[.string s] w fun e w'=>e = .returned (.string ⟨(low s.data.toList).toArray⟩)/\Below w.heap.size w w':=by
 have hcv:=run_bytes_of_string (P:=Tryz.prog) w 9 92 5 s Tryz.underlying9 Tryz.underlying92 Tryz.underlying5;have hcap:=grownCap_ge w s.size 0 5;have hr0:=rowIs_bytes w 5 s (grownCap w s.size 0 5) hcap;have hb0:Below w.heap.size w (w.drew.alloc (.cells (bytesRow s (grownCap w s.size 0 5)) 5 ((bytesRow s (grownCap w s.size 0 5)).size,(bytesRow s (grownCap w s.size 0 5)).size+1))):=(Below.refl _ w).drew.alloc (Nat.le_refl _) _
 generalize (w.drew.alloc (.cells (bytesRow s (grownCap w s.size 0 5)) 5 ((bytesRow s (grownCap w s.size 0 5)).size,(bytesRow s (grownCap w s.size 0 5)).size+1)))=w0 at hcv hr0 hb0;generalize grownCap w s.size 0 5=cap at hcv hcap
 go_enter Tryz.func30,Tryz.ntmps30
 go_wp2
 clear hcv
 go_loopw [4] (fun i wr=> ∃ k:Nat,k<=s.size/\i = .int .i64 k/\rowIs wr w.heap.size 5 (lowTo s.data.toList k)/\Below w.heap.size w wr)
  (fun i _=>s.size - (intOf i).toNat)
 case atStart=>exact ⟨0,Nat.zero_le _,rfl,by rw [lowTo_zero];exact hr0,hb0⟩
 case round=>
  obtain ⟨k,hk,rfl,hr,hbw⟩:=hrel
  by_cases hlt:k<s.size
  ·have hl:k<s.data.toList.length:=by simpa using hlt
   have hl':k<(lowTo s.data.toList k).length:=by rw [lowTo_length];exact hl
   have hc:=hr.cell k hl';rw [lowTo_at _ _ hl] at hc;have hf:=hr.frozen k hl';have hsucc:=lowTo_succ s.data.toList k hl;have hat:=lowTo_at s.data.toList k hl hl';generalize s.data.toList[k]=c at hc hsucc hat;have HS:=hid hsucc;have HAt:=hid hat;clear hsucc hat;have hc8:c.toNat<256:=c.toNat_lt;by_cases hu:65<=c.toNat/\c.toNat<=90
   ·have h1:(65:Int)<=(c.toNat:Int):=by omega
    have h2:(c.toNat:Int)<=90:=by omega
    have HL:=hid (lowC_yes c hu);clear hu
    go_wp2
    go_roundw
    case rel=>
     refine ⟨k+1,by omega,by go_num,?_,hbw.setCell (p:=⟨w.heap.size,k,none⟩) (Nat.le_refl _) _⟩;rw [HS.out,<- HL.out]
     exact hr.set k _
    case measure=>simp [intOf];omega
   ·have HL:=hid (lowC_no c hu)
    have hu':(c.toNat:Int)<65∨90<(c.toNat:Int):=by omega
    clear hu;rcases hu' with h1 | h1
    all_goals
     go_wp2
     go_roundw
     case rel=>
      refine ⟨k+1,by omega,by go_num,?_,hbw⟩;have e:lowC c=(lowTo s.data.toList k)[k]:=by rw [HL.out,HAt.out]
      rw [HS.out,e,List.set_getElem_self]
      exact hr
     case measure=>simp [intOf];omega
  ·have hk':k=s.data.toList.length:=by simp;omega
   have hr':rowIs wr w.heap.size 5 (low s.data.toList):=by rw [<- lowTo_all,<- hk'];exact hr
   clear hr hk';have hcv:=hr'.string (P:=Tryz.prog) (src:=92) (dst:=9) (cap:=cap) Tryz.underlying92 Tryz.underlying5 Tryz.underlying9;rw [show (low s.data.toList).length=s.size by simp [low]] at hcv
   go_wp2
   go_ret
   exact ⟨rfl,hbw⟩
def inTo (c:Int) (t:List UInt8) (m:Nat):Bool:=(decide (c<32)||decide (126<c))||(t.take m).any fun x=>c==(x.toNat:Int)
theorem inTo_zero (c:Int) (t:List UInt8):inTo c t 0=(decide (c<32)||decide (126<c)):=by simp [inTo]
theorem inTo_succ (c:Int) (t:ByteArray) (k:Nat) (h:k<t.size):inTo c t.data.toList (k+1)=(inTo c t.data.toList k||c==(t[k].toNat:Int)):=by
 unfold inTo;rw [take_snoc t k h,List.any_append,Bool.or_assoc];have e:[t[k]].any (fun x=>c==(x.toNat:Int))=(c==(t[k].toNat:Int)):=by simp
 rw [e];simp only [Bool.or_assoc]
theorem inTo_all (c:Int) (t:ByteArray):inTo c t.data.toList t.size=((decide (c<32)||decide (126<c))||t.data.toList.any fun x=>c==(x.toNat:Int)):=by
 unfold inTo;rw [take_all t t.size (by omega)]
def setL (set:Int):List UInt8:=
 if set=2 then [32,34,60,62,96] else if set=3 then [32,34,35,60,62] else if set=4 then [32,34,35,60,62,39] else if set=5 then [32,34,35,60,62,63,94,96,123,125] else if set=6 then [32,34,35,60,62,63,94,96,123,125,47,58,59,61,64,91,92,93,124] else []
theorem setL_in (c set:Int) (h:1<=set/\set<=6):((decide (c<32)||decide (126<c))||(setL set).any fun x=>c==(x.toNat:Int))=inSetI c set:=by
 rw [Bool.eq_iff_iff,inSetI_iff]
 have h':set=1∨set=2∨set=3∨set=4∨set=5∨set=6:=by omega
 rcases h' with rfl | rfl | rfl | rfl | rfl | rfl<;>simp [setL,inSetP]<;>omega
theorem rin_1 (c:Int) (w:World):
 Calls Tryz.prog 63 #[.int .u8 c,.int .i64 1] w fun e w'=>e = .returned (.bool (inSetI c 1))/\w=w':=by
 have HF:=hid (setL_in c 1 (by omega));have hc:c<32∨(32<=c/\126<c)∨(32<=c/\c<=126):=by omega
 rcases hc with hc | ⟨hc1,hc2⟩ | ⟨hc1,hc2⟩
 all_goals
  go_enter Tryz.func63,Tryz.ntmps63
  go_wp2
  generalize hT:ByteArray.mk #[]=t;have hts:t.size<=19:=by rw [<- hT];decide
  have HA:Hid (inTo c t.data.toList t.size=inSetI c 1):=hid ((inTo_all c t).trans (by rw [<- hT];exact HF.out));clear hT HF
  go_loop [5,7] (fun o j=> ∃ m:Nat,m<=t.size/\j = .int .i64 m/\o = .bool (inTo c t.data.toList m)) (fun _ j=>t.size - (intOf j).toNat)
  case atStart=>exact ⟨0,by omega,rfl,by rw [inTo_zero]<;>(try congr 1)<;>(try simp)<;>omega⟩
  case round=>
   obtain ⟨m,hm,rfl,rfl⟩:=hrel
   by_cases hlt:m<t.size
   ·have HS:=hid (inTo_succ c t m hlt)
    have hot:inTo c t.data.toList m=true∨inTo c t.data.toList m=false:=by cases inTo c t.data.toList m<;>simp
    rcases hot with hot | hot
    all_goals
     go_wp2
     go_round
     case rel=>exact ⟨m+1,by omega,by go_num,by rw [HS.out,hot];simp⟩
     case measure=>simp [intOf];omega
   ·obtain rfl:m=t.size:=by omega
    go_wp2
    go_ret
    exact ⟨ret_bool HA.out,rfl⟩
theorem extract_hex: ∀ n,n<16->((ByteArray.mk #[48,49,50,51,52,53,54,55,56,57,65,66,67,68,69,70]).extract n (n+1)).data.toList=[hexD n]:=by decide +kernel
theorem rescape_any (c:UInt8) (w:World):
 Calls Tryz.prog 64 #[.int .u8 c.toNat] w fun e w'=>e = .returned (.string ⟨(esc c).toArray⟩)/\Below w.heap.size w w':=by
 have hc8:=c.toNat_lt;have ha:=and15 c.toNat hc8;have hsz:(ByteArray.mk #[48,49,50,51,52,53,54,55,56,57,65,66,67,68,69,70]).size=16:=rfl;have h1:(c.toNat:Int) / 16<=15:=by omega
 have h2:(c.toNat:Int) % 16<=15:=by omega
 have h3:(0:Int)<=(c.toNat:Int) / 16:=by omega
 have h4:(0:Int)<=(c.toNat:Int) % 16:=by omega
 go_enter Tryz.func64,Tryz.ntmps64
 go_wp2
 go_quiet (fail)
 go_wp2
 go_ret
 refine ⟨ret_str ?_,Go.below_drewN (Below.refl _ w) _⟩;rw [ByteArray.data_append,ByteArray.data_append,Array.toList_append,Array.toList_append,extract_hex _ (by omega),extract_hex _ (by omega)]
 rfl
theorem extract_at (s:ByteArray) (k:Nat) (h:k<s.size):(s.extract k (k+1)).data.toList=[s[k]]:=by
 rw [Lib.extract_data];have h':k<s.data.toList.length:=by simpa using h
 have:=List.drop_eq_getElem_cons h';rw [List.take_drop] at *
 simp [this,List.drop_take]
 rfl
theorem rpercent_any (s:ByteArray) (w:World) (hs:s.size<=1000000):
 Calls Tryz.prog 42 #[.string s,.int .i64 1] w fun e w'=>e = .returned (.string ⟨(pct 1 s.data.toList).toArray⟩)/\Below w.heap.size w w':=by
 go_enter Tryz.func42,Tryz.ntmps42
 go_wp2
 go_loopw [5,6] (fun o i wr=> ∃ (k:Nat) (t:ByteArray),k<=s.size/\i = .int .i64 k/\o = .string t/\t.data.toList=pct 1 (s.data.toList.take k)/\Below w.heap.size w wr) (fun _ i _=>s.size - (intOf i).toNat)
 case atStart=>exact ⟨0,_,Nat.zero_le _,rfl,rfl,rfl,Below.refl _ w⟩
 case round=>
  obtain ⟨k,t,hk,rfl,rfl,ht,hbw⟩:=hrel
  have htl:t.size<=3*k:=by
   rw [Lib.size_eq,ht]
   have:=pct_le 1 (s.data.toList.take k);simp at this;omega
  have HT:=hid ht;clear ht;by_cases hlt:k<s.size
  ·have HS:=hid (take_snoc s k hlt)
   have HP:=hid (pct_snoc 1 (s.data.toList.take k) s[k]);by_cases hin:inSetI (s[k].toNat:Int) 1=true
   ·go_wp2_with (first | (go_at_call 63;refine (rin_1 _ _).mono ?_;rintro e w' ⟨rfl,rfl⟩))
    refine (rescape_any s[k] wr).mono ?_;rintro e w1 ⟨rfl,hb1⟩
    have hes:(ByteArray.mk (esc s[k]).toArray).size=3:=rfl
    go_wp2
    go_roundw
    case rel=>
     refine ⟨k+1,_,by omega,by go_num,rfl,?_,hbw.trans (hb1.mono hbw.size)⟩;rw [ByteArray.data_append,Array.toList_append,HT.out,HS.out,HP.out,pct1,if_pos hin]
    case measure=>simp [intOf];omega
   ·have hin':inSetI (s[k].toNat:Int) 1=false:=by simpa using hin
    clear hin
    go_wp2_with (first | (go_at_call 63;refine (rin_1 _ _).mono ?_;rintro e w' ⟨rfl,rfl⟩))
    go_roundw
    case rel=>
     refine ⟨k+1,_,by omega,by go_num,rfl,?_,hbw⟩;rw [ByteArray.data_append,Array.toList_append,HT.out,HS.out,HP.out,pct1,hin',extract_at s k hlt]
     rfl
    case measure=>simp [intOf];omega
  ·have ht:=HT.out
   rw [take_all s k hlt] at ht;have HT2:=hid ht;clear ht HT
   go_wp2
   go_ret
   exact ⟨ret_str HT2.out,hbw⟩
def hexI (c:Int):Int:=if is16I c then val16I c else -1
theorem rhex_any (c:Int) (w:World) (h0:0<=c) (h1:c<=255):
 Calls Tryz.prog 145 #[.int .u8 c] w fun e w'=>e = .returned (.int .i64 (hexI c))/\w=w':=by
 by_cases hd:digitI c=true
 ·have hd2:48<=c/\c<=57:=by simp [digitI] at hd;omega
  go_enter Tryz.func145,Tryz.ntmps145
  go_wp2_with (go_at_call 44;refine (rdigit_any _ _).mono ?_;rintro e w' ⟨rfl,rfl⟩)
  all_goals
   go_ret
   exact ⟨ret_int (by simp [hexI,is16I,val16I,hd,digitI];omega),rfl⟩
 ·have hd':digitI c=false:=by simpa using hd
  have hd2:c<48∨57<c:=by simp [digitI] at hd';omega
  clear hd;have hc:(97<=c/\c<=102)∨(65<=c/\c<=70)∨(c<65∨(70<c/\c<97)∨102<c):=by omega
  rcases hc with ⟨h3,h4⟩ | ⟨h3,h4⟩ | h3 | ⟨h3,h4⟩ | h3
  all_goals
   go_enter Tryz.func145,Tryz.ntmps145
   go_wp2_with (go_at_call 44;refine (rdigit_any _ _).mono ?_;rintro e w' ⟨rfl,rfl⟩)
  all_goals
   go_ret
   refine ⟨ret_int ?_,rfl⟩;have e1:is16I c=(decide (65<=c)&&decide (c<=70)||decide (97<=c)&&decide (c<=102)):=by simp [is16I,hd']
   unfold hexI;rw [e1];simp [val16I,digitI]
   omega
end Go.Proofs.YtijpkalkfbejeaaGreatDoor
