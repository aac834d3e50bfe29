/- Walks and plain facts. -/
import Derived.Test.YtijpkalkfbejeaaGreatDoorQm9
set_option linter.unusedSimpArgs false
set_option linter.unusedVariables false
set_option maxHeartbeats 16000000
set_option maxRecDepth 100000

namespace Go.Proofs.YtijpkalkfbejeaaGreatDoor
open Go.RowKit
theorem infoU16:(Tryz.prog.info? 151).map (fun i=>(i.zero,i.size,i.bytes))=some (some (.int .u16 0),1,2):=by kernel_rfl
def cells16 (l:List Nat):List Value:=l.map fun (n:Nat)=>Value.int .u16 (n:Int)
theorem cells16_app (a b:List Nat):cells16 (a++b)=cells16 a++cells16 b:=by simp [cells16]
theorem cells16_len (a:List Nat):(cells16 a).length=a.length:=by simp [cells16]
theorem own_form {w:World} {base:Nat} {e:TypeId} {size n:Nat} {v:Value} {xs:List Value} (h:w.ownsRow base e size v n xs): ∃ a cap,v = .slice a n cap:=by
 rcases h.2 with ⟨rfl,rfl⟩ | ⟨g,cap,cur,rfl,_⟩
 ·exact ⟨none,0,rfl⟩
 ·exact ⟨_,cap,rfl⟩
theorem piecesN_done {e:Bool} {f:Nat} {out:List Nat} {l:List UInt8}:piecesN e f out l false=some out:=by cases f<;>rfl
theorem piecesN_bad {e:Bool} {f:Nat} {out:List Nat} {l:List UInt8} (h:pieceV (e && !(Lib.cut l [58]).2.2) (Lib.cut l [58]).1=none):piecesN e (f+1) out l true=none:=by rw [piecesN,h]
theorem piecesN_go {e:Bool} {f:Nat} {out ns:List Nat} {l:List UInt8} (h:pieceV (e && !(Lib.cut l [58]).2.2) (Lib.cut l [58]).1=some ns):piecesN e (f+1) out l true=piecesN e f (out++ns) (Lib.cut l [58]).2.1 (Lib.cut l [58]).2.2:=by rw [piecesN,h]
theorem scan_end {o:Option Nat} {b:Bool} {i n:Nat}:scanP o b i n []=if i=0 then none else some [n]:=rfl
theorem scan_dot {o:Option Nat} {i n:Nat} {l:List UInt8}:scanP o true i n (46::l)=o.map fun m=>[m / 65536,m % 65536]:=by simp [scanP]
theorem scan_dig {o:Option Nat} {b:Bool} {i n:Nat} {c:UInt8} {l:List UInt8} (h: ¬ (c=46/\b=true)) (hd:dig16 c<16) (h4:i≠4):scanP o b i n (c::l)=scanP o b (i+1) (n*16+dig16 c) l:=by
 rw [scanP,if_neg h,if_pos ⟨hd,h4⟩]
theorem scan_bad {o:Option Nat} {b:Bool} {i n:Nat} {c:UInt8} {l:List UInt8} (h: ¬ (c=46/\b=true)) (hd: ¬ (dig16 c<16/\i≠4)):scanP o b i n (c::l)=none:=by
 rw [scanP,if_neg h,if_neg hd]
theorem or16s (n d:Nat) (hn:n<4096) (hd:d<16):bits .or .u16 ((n:Int)*16) (d:Int)=(n:Int)*16+d:=by
 have e:(n:Int)*16=((n*16:Nat):Int):=by simp
 rw [e,u16_or_nat _ _ (by omega) (by omega),nat_join 4 _ _ (by omega) (by omega)]
 simp
theorem hdigit_dot (w:World):Calls Tryz.prog 257 #[.int .u8 46,.int .u64 16] w fun e w'=>e = .returned (.tuple #[.int .u64 0,.bool false])/\w=w':=by
 have h:=hdigit_any 46 16 w (by decide)
 rw [(dig_no (base:=16) (c:=46) (by decide)).1,(dig_no (base:=16) (c:=46) (by decide)).2] at h;exact h
def RpPost (s:List UInt8) (atEnd:Bool) (w:World) (e:Ending) (w':World):Prop:=
 ∃ (a:Option Addr) (cap:Nat) (out:List Nat),e = .returned (.tuple #[.slice a out.length cap,.bool (piecesV s atEnd).isSome])/\w'.ownsRow w.heap.size 151 1 (.slice a out.length cap) out.length (cells16 out)/\out.length<=9/\(∀ p,piecesV s atEnd=some p->out=p)/\Below w.heap.size w w'
theorem own_nil (w:World) (base:Nat) (e:TypeId):w.ownsRow base e 1 (.slice none 0 0) 0 []:=⟨rfl,.inl ⟨rfl,rfl⟩⟩
theorem rp_none {s:List UInt8} {atEnd:Bool} {w w':World} (h:piecesV s atEnd=none) (hb:Below w.heap.size w w'):RpPost s atEnd w (.returned (.tuple #[.slice none 0 0,.bool false])) w':=
 ⟨none,0,[],by rw [h];rfl,own_nil _ _ _,by simp,fun p hp=>(by rw [h] at hp;cases hp),hb⟩
theorem rp_some {s:List UInt8} {atEnd:Bool} {w w':World} {a:Option Addr} {cap:Nat} {out:List Nat} (h:piecesV s atEnd=some out) (hown:w'.ownsRow w.heap.size 151 1 (.slice a out.length cap) out.length (cells16 out)) (hl:out.length<=9) (hb:Below w.heap.size w w'):
 RpPost s atEnd w (.returned (.tuple #[.slice a out.length cap,.bool true])) w':=
 ⟨a,cap,out,by rw [h];rfl,hown,hl,fun p hp=>(by rw [h] at hp;exact Option.some.inj hp),hb⟩
theorem rp_over {s:List UInt8} {atEnd:Bool} {w w':World} {a:Option Addr} {cap:Nat} {out:List Nat} (h:piecesV s atEnd=none) (hown:w'.ownsRow w.heap.size 151 1 (.slice a out.length cap) out.length (cells16 out)) (hl:out.length<=9) (hb:Below w.heap.size w w'):
 RpPost s atEnd w (.returned (.tuple #[.slice a out.length cap,.bool false])) w':=
 ⟨a,cap,out,by rw [h];rfl,hown,hl,fun p hp=>(by rw [h] at hp;cases hp),hb⟩
theorem readPieces_any (s:ByteArray) (atEnd:Bool) (w:World) (hg:Gd w) (hs:s.size<=4000000000):
 Calls Tryz.prog 247 #[.string s,.bool atEnd] w (RpPost s.data.toList atEnd w):=by
 obtain ⟨i0,hi,hz0,hz1,hz2⟩:=info_parts infoU16
 have HG0:=hid hg;clear hg;obtain ⟨mo,hmo⟩: ∃ mo:Bool,mo=decide (s.data.toList≠[]):=⟨_,rfl⟩
 have hem:s.toList.isEmpty = !mo:=by
  rw [hmo];by_cases h0:s.data.toList=[]
  ·rw [empty_yes s h0];simp [h0]
  ·rw [empty_no s h0];simp [h0]
 have HP:=hid (show piecesN atEnd 8 [] s.data.toList mo=piecesV s.data.toList atEnd by rw [hmo];rfl);clear hmo
 go_enter Tryz.func247,Tryz.ntmps247
 go_wp2
 go_step3
 go_wp2
 go_step3
 go_wp2
 go_loopg [6,7,8] 8 (fun f v rest more wr=> ∃ (a:Option Addr) (cap:Nat) (out:List Nat) (l:List UInt8) (m:Bool),out.length+f=8/\v = .slice a out.length cap/\rest = .string ⟨l.toArray⟩/\more = .bool m/\l.length<=4000000000 /\
  wr.ownsRow w.heap.size 151 1 (.slice a out.length cap) out.length (cells16 out)/\piecesN atEnd f out l m=piecesV s.data.toList atEnd/\Below w.heap.size w wr)
 case atStart=>exact ⟨none,0,[],s.data.toList,mo,rfl,rfl,by rw [Lib.mk_data],by simp,by simpa using hs,own_nil _ _ _,HP.out,Below.refl _ _⟩
 case round=>
  obtain ⟨a,cap,out,l,m,hof,rfl,rfl,rfl,hl,hown,hf,hbw⟩:=hrel
  have HO:=hid hown;have HF:=hid hf;clear hf hown;have HG:=hid (HG0.out.kept hbw);have hls:(⟨l.toArray⟩:ByteArray).size<=4000000000:=by show l.toArray.size<=_;simpa using hl
  cases m with
  | false=>
    have HN:=hid (show piecesV s.data.toList atEnd=some out by rw [<- HF.out];exact piecesN_done)
    go_wp2
    try rw [Exit.noGoto_ret]
    go_ret2
    exact rp_some HN.out HO.out (by omega) hbw
  | true=>
    cases gk with
    | zero=>
      have HN:=hid (show piecesV s.data.toList atEnd=none by rw [<- HF.out];rfl);have h8: ¬ ((out.length:Int)<8):=by omega
      go_wp2
      try rw [Exit.noGoto_ret]
      go_ret2
      exact rp_over HN.out HO.out (by omega) hbw
    | succ f=>
      obtain ⟨⟨p,b,mm⟩,hc⟩: ∃ x,Lib.cut l [58]=x:=⟨_,rfl⟩
      have HC:=hid hc;have hcl:=cut_le l [58];rw [hc] at hcl;obtain ⟨hal,hbl⟩:=hcl
      simp only at hal hbl;have hal':p.length<=4000000000:=by omega
      have hbl':b.length<=4000000000:=by omega
      have h8:((out.length:Int)<8):=by omega
      clear hc;obtain ⟨P,hP⟩: ∃ P:ByteArray,P=⟨p.toArray⟩:=⟨_,rfl⟩
      have HPE:=hid hP;have HPD:=hid (show P.data.toList=p by rw [hP]);have hPs:P.size<=4000000000:=by rw [hP];show p.toArray.size<=_;simpa using hal'
      clear hP
      go_wp2_with (first | (go_at_call 19;refine (cut_any _ _ _ HG.out hls).mono ?_;rintro e w1 ⟨rfl,hb1⟩;rw [show (⟨l.toArray⟩:ByteArray).data.toList=l from rfl,show (⟨#[58]⟩:ByteArray).data.toList=[58] from rfl,HC.out];dsimp only;rw [<- HPE.out]))
      have HO1:=hid (own_kept HO.out hb1);have HG1:=hid (HG.out.kept hb1);have hbw1:=below2 hbw hb1;have HFb:=hid (show ∀ ns,pieceV (atEnd && !mm) p=some ns->piecesN atEnd f (out++ns) b mm=piecesV s.data.toList atEnd by
       intro ns hns;rw [<- HF.out,piecesN_go (ns:=ns) (by rw [HC.out];exact hns),HC.out])
      have HFn:=hid (show pieceV (atEnd && !mm) p=none->piecesV s.data.toList atEnd=none by
       intro hns;rw [<- HF.out,piecesN_bad (by rw [HC.out];exact hns)])
      clear hb1 hbw
      go_loopg [6,10,34] P.size (fun g ov nv iv wx=> ∃ k n:Nat,ov = .slice a out.length cap/\k+g=P.size/\k<=4/\iv = .int .i64 k/\nv = .int .u16 n/\n<16 ^ k/\scanP (dottedV p) (atEnd && !mm) k n (P.data.toList.drop k)=pieceV (atEnd && !mm) p/\wx=w1)
      case atStart=>exact ⟨0,0,rfl,by omega,by omega,rfl,rfl,by decide,by rw [HPD.out];rfl,rfl⟩
      case round=>
       obtain ⟨k,n,rfl,hkg,hk4,rfl,rfl,hn,hsc,rfl⟩:=hrel
       have HS:=hid hsc;clear hsc;have hn16:n<65536:=by
        have h4:16 ^ k<=16 ^ 4:=Nat.pow_le_pow_right (by omega) hk4
        rw [show 16 ^ 4=65536 from rfl] at h4;exact Nat.lt_of_lt_of_le hn h4
       cases gk with
       | zero=>
         have hkl:k=P.size:=by omega
         have hkl': ¬ ((k:Int)<(P.size:Int)):=by omega
         have hdr:P.data.toList.drop k=[]:=drop_none P k (by omega)
         by_cases hk0:k=0
         ·have HN:=hid (HFn.out (by rw [<- HS.out,hdr,scan_end,if_pos hk0]))
          have he:=empty_yes P (by rw [hk0,List.drop_zero] at hdr;exact hdr)
          clear hdr
          go_wp2
          try rw [Exit.noGoto_ret]
          go_ret2
          exact rp_none HN.out hbw1
         ·have HV:=hid (show pieceV (atEnd && !mm) p=some [n] by rw [<- HS.out,hdr,scan_end,if_neg hk0])
          have HN:=hid (HFb.out [n] HV.out);have he:=empty_no P (by intro e;apply hk0;have h0:=congrArg List.length e;rw [List.length_nil,<- Lib.size_eq] at h0;omega)
          clear hdr
          go_wp2_with (at_builtin;go_must (refine wpList_append_own _ rfl _ _ 175 rfl w.heap.size 151 i0 (.int .u16 0) 1 2 Tryz.underlying175 hi hz0 hz1 hz2 rfl (by decide) _ _ _ rfl (HO1.out.alloc _) ⟨wr.heap.size,0,none⟩ 1 1 [.int .u16 n] rfl rfl ?c1 ?c2 ?c3 ?c4 ?c5 ?_))
          case c2=>rfl
          case c3=>unfold maxLen;omega
          case c4=>omega
          case c5=>have:=hbw1.size;simp;omega
          intro v' w3 hown' hgrow hnil;obtain ⟨a',cap',rfl⟩:=own_form hown'
          have HOw:=hid hown';have HBl:=hid (show Below w.heap.size w w3 from (hbw1.alloc hbw1.size _).grown hgrow (by have:=hbw1.size;simp;omega) (fun g hg=>(HO1.out.lt g hg).1));clear hown' hgrow hnil
          go_wp2
          go_roundg f
          case measure=>omega
          case rel=>exact ⟨a',cap',out++[n],b,mm,by simp;omega,by simp,rfl,rfl,hbl',by rw [cells16_app,show cells16 [n]=[Value.int .u16 (n:Int)] from rfl];simpa using HOw.out,HN.out,HBl.out⟩
       | succ g=>
         have hlt:k<P.size:=by omega
         have hlt':(k:Int)<(P.size:Int):=by omega
         have HD:=hid (drop_cons P k hlt);have hc8:P[k].toNat<256:=P[k].toNat_lt;by_cases hdot:P[k]=46
         ·have hdot':(P[k].toNat:Int)=46:=by rw [hdot];rfl
          have hd16: ¬ dig16 P[k]<16:=by rw [hdot];decide
          have h1:=(dig_no hd16).1;have h2:=(dig_no hd16).2
          cases hae:(atEnd && !mm) with
          | true=>
            have hA:atEnd=true:=by cases atEnd<;>simp at hae ⊢
            have hM:mm=false:=by cases mm<;>simp at hae ⊢
            have HPv:=hid (show pieceV (atEnd && !mm) p=(dottedV p).map fun m=>[m / 65536,m % 65536] by rw [<- HS.out,HD.out,hdot,hae];exact scan_dot);subst hM;subst hA;clear hdot hae
            cases hdv:dottedV p with
            | none=>
              have HN:=hid (HFn.out (by rw [HPv.out,hdv];rfl));have g1:=isSome_none hdv;clear hdv
              go_wp2_with (first | (go_at_call 256;refine (dotted_any _ _ HG1.out hPs).mono ?_;rintro e w2 ⟨rfl,hb2⟩;rw [HPD.out,g1]))
              try rw [Exit.noGoto_ret]
              go_ret2
              exact rp_none HN.out (below2 hbw1 hb2)
            | some m=>
              have HN:=hid (HFb.out [m / 65536,m % 65536] (by rw [HPv.out,hdv];rfl));have g1:=isSome_some hdv;have g2:=getD_some hdv;clear hdv
              go_wp2_with (first | (go_at_call 256;refine (dotted_any _ _ HG1.out hPs).mono ?_;rintro e w2 ⟨rfl,hb2⟩;rw [HPD.out,g1,g2]) | (at_builtin;go_must (refine wpList_append_own _ rfl _ _ 175 rfl w.heap.size 151 i0 (.int .u16 0) 1 2 Tryz.underlying175 hi hz0 hz1 hz2 rfl (by decide) _ _ _ rfl ((own_kept HO1.out hb2).alloc _) ⟨w2.heap.size,0,none⟩ 2 2 [.int .u16 (m / 65536:Nat),.int .u16 (m % 65536:Nat)] rfl rfl ?d1 ?d2 ?d3 ?d4 ?d5 ?_)))
              case d1=>
               intro j u hj
               match j,hj with
               | 0,hj=>simp at hj;subst hj;simp [Addr.add]
               | 1,hj=>simp at hj;subst hj;simp [Addr.add]
              case d2=>intro u hu;simp at hu;rcases hu with rfl | rfl<;>rfl
              case d3=>unfold maxLen;omega
              case d4=>omega
              case d5=>have:=hbw1.size;have:=hb2.size;simp;omega
              intro v' w3 hown' hgrow hnil;obtain ⟨a',cap',rfl⟩:=own_form hown'
              have hbw2:=below2 hbw1 hb2;have HOw:=hid hown';have HBl:=hid (show Below w.heap.size w w3 from (hbw2.alloc hbw2.size _).grown hgrow (by have:=hbw2.size;simp;omega) (fun g hg=>(HO1.out.lt g hg).1));clear hown' hgrow hnil
              go_wp2
              try rw [Exit.noGoto_ret]
              go_ret2
              have hps:=HN.out;rw [piecesN_done] at hps;have hp:=rp_some (w:=w) (w':=w3) (a:=a') (cap:=cap') (out:=out++[m / 65536,m % 65536]) hps.symm (by rw [cells16_app,show cells16 [m / 65536,m % 65536]=[Value.int .u16 ((m / 65536:Nat):Int),Value.int .u16 ((m % 65536:Nat):Int)] from rfl,List.length_append];exact HOw.out) (by simp;omega) HBl.out
              rw [List.length_append] at hp;exact hp
          | false=>
            have HN:=hid (HFn.out (by rw [<- HS.out,HD.out];exact scan_bad (fun h=>by rw [hae] at h;exact absurd h.2 (by decide)) (fun h=>hd16 h.1)));clear hdot;have hcase:atEnd=false∨(atEnd=true/\mm=true):=by cases atEnd<;>cases mm<;>simp at hae ⊢
            clear hae;rcases hcase with rfl | ⟨rfl,rfl⟩
            all_goals
             go_wp2_with (first | (go_at_call 257;refine (hdigit_dot _).mono ?_;rintro e w' ⟨rfl,rfl⟩))
             try rw [Exit.noGoto_ret]
             go_ret2
             exact rp_none HN.out hbw1
         ·have hdot':((P[k].toNat:Int)==46)=false:=by
           rw [beq_eq_false_iff_ne];intro e;apply hdot;exact UInt8.toNat_inj.1 (by have:(46:UInt8).toNat=46:=rfl;omega)
          by_cases hd:dig16 P[k]<16
          ·have h1:=(dig_yes hd).1
           have h2:=(dig_yes hd).2;by_cases h4:k=4
           ·have HN:=hid (HFn.out (by rw [<- HS.out,HD.out];exact scan_bad (fun h=>hdot h.1) (fun h=>h.2 h4)))
            subst h4;clear hdot
            go_wp2_with (first | (go_at_call 257;refine (hdigit_any _ _ _ (by decide)).mono ?_;rintro e w' ⟨rfl,rfl⟩;rw [h1,h2]))
            try rw [Exit.noGoto_ret]
            go_ret2
            exact rp_none HN.out hbw1
           ·have hk3:k<=3:=by omega
            have HN:=hid (show scanP (dottedV p) (atEnd && !mm) (k+1) (n*16+dig16 P[k]) (P.data.toList.drop (k+1))=pieceV (atEnd && !mm) p by rw [<- HS.out,HD.out,scan_dig (fun h=>hdot h.1) hd h4]);have hn12:n<4096:=by
             have h3:16 ^ k<=16 ^ 3:=Nat.pow_le_pow_right (by omega) hk3
             rw [show 16 ^ 3=4096 from rfl] at h3;exact Nat.lt_of_lt_of_le hn h3
            have HNn:=hid (show n*16+dig16 P[k]<16 ^ (k+1) by rw [Nat.pow_succ];omega);have ho:=or16s n (dig16 P[k]) hn12 hd;have h4':((k:Int)==4)=false:=by rw [beq_eq_false_iff_ne];omega
            clear hdot h4 hn
            go_wp2_with (first | (go_at_call 257;refine (hdigit_any _ _ _ (by decide)).mono ?_;rintro e w' ⟨rfl,rfl⟩;rw [h1,h2]))
            go_roundg g
            case measure=>omega
            case rel=>exact ⟨k+1,n*16+dig16 P[k],rfl,by omega,by omega,by go_num,by go_num,HNn.out,HN.out,rfl⟩
          ·have h1:=(dig_no hd).1
           have h2:=(dig_no hd).2;have HN:=hid (HFn.out (by rw [<- HS.out,HD.out];exact scan_bad (fun h=>hdot h.1) (fun h=>hd h.1)));clear hdot
           go_wp2_with (first | (go_at_call 257;refine (hdigit_any _ _ _ (by decide)).mono ?_;rintro e w' ⟨rfl,rfl⟩;rw [h1,h2]))
           try rw [Exit.noGoto_ret]
           go_ret2
           exact rp_none HN.out hbw1
def zero8:List Nat:=[0,0,0,0,0,0,0,0]
def agg8 (x:List Nat):Value:= .agg (cells16 x).toArray
theorem sixV_no1 {l:List UInt8} (h:piecesV (Lib.cut l [58,58]).1 (!(Lib.cut l [58,58]).2.2)=none):sixV l=none:=by rw [sixV,h]
theorem sixV_no2 {l:List UInt8} (h:piecesV (Lib.cut l [58,58]).2.1 true=none):sixV l=none:=by
 rw [sixV,h];split<;>simp_all
theorem sixV_no3 {l:List UInt8} {a b:List Nat} (h1:piecesV (Lib.cut l [58,58]).1 (!(Lib.cut l [58,58]).2.2)=some a) (h2:piecesV (Lib.cut l [58,58]).2.1 true=some b) (h: ¬ (a.length+b.length<=8/\((Lib.cut l [58,58]).2.2=true ↔ a.length+b.length<8))):sixV l=none:=by
 rw [sixV,h1,h2];simp only;rw [if_neg h]
theorem sixV_yes {l:List UInt8} {a b:List Nat} (h1:piecesV (Lib.cut l [58,58]).1 (!(Lib.cut l [58,58]).2.2)=some a) (h2:piecesV (Lib.cut l [58,58]).2.1 true=some b) (h:a.length+b.length<=8/\((Lib.cut l [58,58]).2.2=true ↔ a.length+b.length<8)):sixV l=some (a++List.replicate (8 - a.length - b.length) 0++b):=by
 rw [sixV,h1,h2];simp only;rw [if_pos h]
theorem below_setCells {B b:Nat} (hb:B<=b) {w0:World}: ∀ (vs:List Value) (o:Nat) (w:World),Below B w0 w->Below B w0 (w.setCells b o vs)
 | [],_,_,h=>h
 | v::r,o,w,h=>by
   rw [World.setCells];exact below_setCells hb r (o+1) _ (h.setCell (p:=⟨b,o,none⟩) hb v)
theorem results_six {fn:Func} {p u:Tmp} {ty:TypeId} (h:fn.results = #[.cell p ty,.tmp u]) (tmps:Array Value) (P:Program) (w:World) (b:Nat) (cs:List Value) (d:TypeDesc) (hp:tmps.getD p undef = .pointer (some ⟨b,0,none⟩)) (hc:w.rangeAt b 0 cs)
 (hu:P.underlying ty=some d) (hd:d.isRow=true) (hi:(P.info? ty).map (·.size)=some cs.length):(results fn tmps).run P w = .ok (.tuple #[.agg cs.toArray,tmps.getD u undef]) w:=by
 rw [results_cell_tmp h,hp];simp [asAddr,Result.andThen,run_loadVar_mid w b 0 ty cs d hc hu hd hi]
theorem own_src {w w':World} {base:Nat} {e:TypeId} {a:Option Addr} {cap:Nat} {o:List Nat} (h:w.ownsRow base e 1 (.slice a o.length cap) o.length (cells16 o)) (h0:0<o.length) (hb:Below w.heap.size w w'):
 ∃ ad,a=some ad /\ ∀ j v,(cells16 o)[j]? = some v->w'.cell? (ad.add j)=some v:=by
 rcases h.2 with ⟨hv,hn⟩ | ⟨g,cap',cur,hv,_⟩
 ·omega
 ·cases hv
  refine ⟨⟨g,0,none⟩,rfl,fun j v hj=> ?_⟩
  have hc:=h.cells (g:=g) rfl j v hj;have hlt:=World.block_lt_of_cell? w _ hc;rw [hb.cell hlt];exact hc
def cutAd (b k:Nat):Addr:=if k=0 then ⟨b,0,none⟩ else ⟨b,8 - k,none⟩
theorem slice8_from (b k:Nat) (hk:k<=8) (w:World):(Instr.sliceAt 152 (.pointer (some ⟨b,0,none⟩)) (some (.int .i64 (8 - (k:Int)))) none none).run Tryz.prog w = .ok (.slice (some (cutAd b k)) k k) w:=by
 have e8:Tryz.prog.arrayLen 152=8:=by kernel_rfl
 have es:(sizeOf (Tryz.prog.elem 152)).run Tryz.prog w = .ok 1 w:=by kernel_rfl
 rw [run_sliceAt_array_l w 152 ⟨b,0,none⟩ (by kernel_rfl) .i64 _ (by omega) (by rw [e8];omega),es,e8];simp only [Result.andThen,slicedAt]
 have e1:(8 - (k:Int)).toNat=8 - k:=by omega
 have e2:8 - (8 - k)=k:=by omega
 have e3:(if 8=8 - k then (⟨b,0,none⟩:Addr) else (⟨b,0,none⟩:Addr).add ((8 - k)*1))=cutAd b k:=by
  unfold cutAd;by_cases h0:k=0
  ·subst h0;rfl
  ·rw [if_neg (by omega),if_neg h0,Addr.add_mid];simp
 rw [e1,e2,e3]
theorem size8:(Tryz.prog.info? 152).map (·.size)=some 8:=by kernel_rfl
theorem cells16_one (x:List Nat): ∀ v ∈ cells16 x,v.oneCell'=true:=by
 intro v hv;obtain ⟨n,_,rfl⟩:=List.mem_map.1 hv
 rfl
theorem splice16 (a b:List Nat) (h:a.length+b.length<=8):splice (splice (cells16 zero8) 0 (cells16 a)) (8 - b.length) (cells16 b)=cells16 (a++List.replicate (8 - a.length - b.length) 0++b):=by
 have hz:cells16 zero8=List.replicate 8 (Value.int .u16 0):=rfl;have e1:splice (cells16 zero8) 0 (cells16 a)=cells16 a++List.replicate (8 - a.length) (Value.int .u16 0):=by
  unfold splice;rw [hz,List.take_zero,List.nil_append,Nat.zero_add,cells16_len,List.drop_replicate]
 rw [e1];unfold splice;rw [cells16_app,cells16_app,cells16_len,List.take_append,List.take_of_length_le (by rw [cells16_len];omega),cells16_len,List.take_replicate,List.append_assoc,List.append_assoc]
 congr 1
 have e2:min (8 - b.length - a.length) (8 - a.length)=8 - a.length - b.length:=by omega
 have e3:(cells16 a++List.replicate (8 - a.length) (Value.int IntKind.u16 0)).drop (8 - b.length+b.length)=[]:=by
  apply List.drop_eq_nil_of_le;rw [List.length_append,cells16_len,List.length_replicate];omega
 rw [e2,e3,List.append_nil]
 congr 1
 simp [cells16]
theorem ret_six {a:List Value} {o:Option (List Nat)} {x:Int} {l:List Nat} (h:cells16 l=a) (hl:l=o.getD zero8) (g:x=er o):Ending.returned (.tuple #[.agg a.toArray,.int .i64 x]) = .returned (.tuple #[agg8 (o.getD zero8),.int .i64 (er o)]):=by
 rw [g,<- h,hl];rfl
theorem six_any (s:ByteArray) (w:World) (hg:Gd w) (hs:s.size<=4000000000):
 Calls Tryz.prog 237 #[.string s] w fun e w'=>e = .returned (.tuple #[agg8 ((sixV s.data.toList).getD zero8),.int .i64 (er (sixV s.data.toList))])/\Below w.heap.size w w':=by
 obtain ⟨⟨p,q,gap⟩,hc⟩: ∃ x,Lib.cut s.data.toList [58,58]=x:=⟨_,rfl⟩
 have hcl:=cut_le s.data.toList [58,58]
 rw [hc] at hcl;obtain ⟨hal,hbl⟩:=hcl
 simp only at hal hbl;have hps:(⟨p.toArray⟩:ByteArray).size<=4000000000:=by show p.toArray.size<=_;simp at hal ⊢;omega
 have hqs:(⟨q.toArray⟩:ByteArray).size<=4000000000:=by show q.toArray.size<=_;simp at hbl ⊢;omega
 have HC:=hid hc;have HG0:=hid hg;clear hc hg hal hbl
 go_enter Tryz.func237,Tryz.ntmps237
 go_wp2_with fail
 refine (cut_any _ _ _ (HG0.out.kept ((Below.refl _ w).alloc (Nat.le_refl _) _)) hs).mono ?_;rintro e w1 ⟨rfl,hb1⟩
 rw [show (⟨#[58,58]⟩:ByteArray).data.toList=[58,58] from rfl,HC.out];dsimp only;have HR1:=hid (row_kept (heap_alloc_new w _) hb1);have HB1:=hid (below2 ((Below.refl _ w).alloc (Nat.le_refl _) _) hb1);clear hb1
 go_wp2_with fail
 refine (readPieces_any _ _ _ (HG0.out.kept HB1.out) hps).mono ?_;rintro e w2 ⟨a1,cap1,o1,rfl,hown1,hl1,hpp1,hb2⟩
 have HO1:=hid hown1;have HP1:=hid hpp1;have HR2:=hid (row_kept HR1.out hb2);have HB2:=hid (below2 HB1.out hb2);clear hown1 hpp1 hb2
 go_wp2_with fail
 refine (readPieces_any _ _ _ (HG0.out.kept HB2.out) hqs).mono ?_;rintro e w3 ⟨a2,cap2,o2,rfl,hown2,hl2,hpp2,hb3⟩
 have HO2:=hid hown2;have HP2:=hid hpp2;have HR3:=hid (row_kept HR2.out hb3);have HO1':=hid (own_kept HO1.out hb3);have HB3:=hid (below2 HB2.out hb3);clear hown2 hpp2 hb3;rw [show (⟨q.toArray⟩:ByteArray).data.toList=q from rfl]
 cases h1:piecesV p (!gap) with
 | none=>
   have HN:=hid (sixV_no1 (l:=s.data.toList) (by rw [HC.out];exact h1));clear h1
   go_wp2_with (refine wpList_store_mid rfl 152 (.tmp 2) (.tmp 53) rfl w.heap.size 0 (cells16 zero8).toArray rfl rfl (there_row HR3.out (by decide)) size8 (all_oneCell_toArray (cells16_one _)) ?_)
   refine bodyPost_ret (results_six rfl _ _ _ w.heap.size (cells16 zero8) _ rfl (World.rangeAt_setCells_same _ _ _ _ (there_row HR3.out (by decide))) Tryz.underlying152 rfl size8) rfl ⟨ret_six rfl (by rw [HN.out];rfl) (er_none HN.out).symm,below_setCells (Nat.le_refl _) _ _ _ HB3.out⟩
 | some a=>
   obtain rfl:=(HP1.out a h1);have H1:=hid h1;clear h1
   cases h2:piecesV q true with
   | none=>
     have HN:=hid (sixV_no2 (l:=s.data.toList) (by rw [HC.out];exact h2));clear h2
     go_wp2_with (refine wpList_store_mid rfl 152 (.tmp 2) (.tmp 53) rfl w.heap.size 0 (cells16 zero8).toArray rfl rfl (there_row HR3.out (by decide)) size8 (all_oneCell_toArray (cells16_one _)) ?_)
     refine bodyPost_ret (results_six rfl _ _ _ w.heap.size (cells16 zero8) _ rfl (World.rangeAt_setCells_same _ _ _ _ (there_row HR3.out (by decide))) Tryz.underlying152 rfl size8) rfl ⟨ret_six rfl (by rw [HN.out];rfl) (er_none HN.out).symm,below_setCells (Nat.le_refl _) _ _ _ HB3.out⟩
   | some b=>
     obtain rfl:=(HP2.out b h2);have H2:=hid h2;clear h2;by_cases h8:8<o1.length+o2.length
     ·have HN:=hid (sixV_no3 (l:=s.data.toList) (a:=o1) (b:=o2) (by rw [HC.out];exact H1.out) (by rw [HC.out];exact H2.out) (by omega))
      have h8':(8:Int) - (o1.length:Int) - (o2.length:Int)<0:=by omega
      go_wp2_with (refine wpList_store_mid rfl 152 (.tmp 2) (.tmp 53) rfl w.heap.size 0 (cells16 zero8).toArray rfl rfl (there_row HR3.out (by decide)) size8 (all_oneCell_toArray (cells16_one _)) ?_)
      refine bodyPost_ret (results_six rfl _ _ _ w.heap.size (cells16 zero8) _ rfl (World.rangeAt_setCells_same _ _ _ _ (there_row HR3.out (by decide))) Tryz.underlying152 rfl size8) rfl ⟨ret_six rfl (by rw [HN.out];rfl) (er_none HN.out).symm,below_setCells (Nat.le_refl _) _ _ _ HB3.out⟩
     ·have h8': ¬ ((8:Int) - (o1.length:Int) - (o2.length:Int)<0):=by omega
      have h8d:=decide_eq_false h8';by_cases hgp:(gap=true ↔ o1.length+o2.length<8)
      ·have HN:=hid (sixV_yes (l:=s.data.toList) (a:=o1) (b:=o2) (by rw [HC.out];exact H1.out) (by rw [HC.out];exact H2.out) (by rw [HC.out];exact ⟨by omega,hgp⟩))
       have hn1:(cells16 o1).length=o1.length:=cells16_len _;have hn2:(cells16 o2).length=o2.length:=cells16_len _;have hcase:(gap=true/\(0:Int)<8 - (o1.length:Int) - (o2.length:Int))∨(gap=false /\ ¬ ((0:Int)<8 - (o1.length:Int) - (o2.length:Int))):=by
        cases gap
        ·right;simp at hgp ⊢;omega
        ·left;simp at hgp ⊢;omega
       clear hgp;obtain ⟨X,hXe⟩: ∃ X,X=o1++List.replicate (8 - o1.length - o2.length) 0++o2:=⟨_,rfl⟩
       have hX8:(cells16 X).length=8:=by rw [cells16_len,hXe];simp;omega
       have HXe:=hid hXe;clear hXe;rcases hcase with ⟨rfl,hq⟩ | ⟨rfl,hq⟩
       ·have hqd:decide ((o2.length:Int)<8 - (o1.length:Int))=true:=decide_eq_true (by omega)
        go_wp2_with ((refine wpList_copy_splice rfl _ _ 175 175 rfl 151 Tryz.underlying175 (by kernel_rfl) _ _ _ _ _ _ rfl rfl w3.heap.size 0 (cells16 zero8) 152 (heap_alloc_new w3 _) (cells16 o1) ?n1 ?n2 ?n3 (cells16_one _) w3.heap.size w3 ((Below.refl _ w3).alloc (Nat.le_refl _) _) (Nat.le_refl _) ?_))
        case n1=>rw [hn1];exact (Nat.min_eq_left (by omega)).symm
        case n2=>exact fun h=>own_src HO1'.out (by rw [hn1] at *;omega) ((Below.refl _ w3).alloc (Nat.le_refl _) _)
        case n3=>rw [hn1];show 0+o1.length<=8;omega
        intro w4 HX hb4;have hsl:=slice8_from w3.heap.size o2.length (by omega) w4
        have HO2':=hid (own_kept HO2.out hb4);have HR4:=hid (row_kept HR3.out hb4);have HB4:=hid (below2 HB3.out hb4);clear h8d hqd
        go_wp2_with (refine wpList_copy_splice rfl _ _ 175 175 rfl 151 Tryz.underlying175 (by kernel_rfl) _ _ _ _ _ _ rfl rfl w3.heap.size (8 - o2.length) (splice (cells16 zero8) 0 (cells16 o1)) 152 HX.out (cells16 o2) ?m1 ?m2 ?m3 (cells16_one _) w3.heap.size w3 hb4 (Nat.le_refl _) ?_)
        case m1=>rw [hn2];exact (Nat.min_self _).symm
        case m2=>
         intro h;rw [hn2] at h;refine ⟨by rw [cutAd,if_neg (by omega)],own_src HO2.out h hb4⟩
        case m3=>rw [hn2,length_splice _ _ _ (by rw [hn1];show 0+o1.length<=8;omega)];show 8 - o2.length+o2.length<=8;omega
        intro w5 HX2 hb5;have HX3:=hid (show w5.heap[w3.heap.size]? = some (.cells (cells16 X).toArray 152 (0,0)) by rw [HXe.out,<- splice16 o1 o2 (by omega)];exact HX2.out);have HR5:=hid (row_kept HR3.out hb5);have HB5:=hid (below2 HB3.out hb5);have hi8:(Tryz.prog.info? 152).map (·.size)=some (cells16 X).length:=by rw [hX8];exact size8
        have hi8':(Tryz.prog.info? 152).map (·.size)=some (cells16 X).toArray.size:=by rw [List.size_toArray,hX8];exact size8
        have hth:w5.there w.heap.size 0 (cells16 X).toArray.size:=there_row HR5.out (by rw [List.size_toArray,hX8];decide)
        have hth2:w5.there w.heap.size 0 (cells16 X).length:=by rw [hX8];exact there_row HR5.out (by decide)
        clear HX2
        go_wp2_with (first | refine wpList_load_mid rfl 152 (.tmp 12) rfl w3.heap.size 0 rfl (cells16 X) _ (range_row HX3.out) Tryz.underlying152 rfl hi8 ?_ | refine wpList_store_mid rfl 152 (.tmp 2) (.tmp 63) rfl w.heap.size 0 (cells16 X).toArray rfl rfl hth hi8' (all_oneCell_toArray (cells16_one _)) ?_)
        refine bodyPost_ret (results_six rfl _ _ _ w.heap.size (cells16 X) _ rfl (World.rangeAt_setCells_same _ _ _ _ hth2) Tryz.underlying152 rfl hi8) rfl ⟨ret_six rfl (by rw [HN.out,HXe.out];rfl) (er_some HN.out).symm,below_setCells (Nat.le_refl _) _ _ _ HB5.out⟩
       ·have hqd:decide ((o2.length:Int)<8 - (o1.length:Int))=false:=decide_eq_false (by omega)
        go_wp2_with ((refine wpList_copy_splice rfl _ _ 175 175 rfl 151 Tryz.underlying175 (by kernel_rfl) _ _ _ _ _ _ rfl rfl w3.heap.size 0 (cells16 zero8) 152 (heap_alloc_new w3 _) (cells16 o1) ?n1b ?n2b ?n3b (cells16_one _) w3.heap.size w3 ((Below.refl _ w3).alloc (Nat.le_refl _) _) (Nat.le_refl _) ?_))
        case n1b=>rw [hn1];exact (Nat.min_eq_left (by omega)).symm
        case n2b=>exact fun h=>own_src HO1'.out (by rw [hn1] at *;omega) ((Below.refl _ w3).alloc (Nat.le_refl _) _)
        case n3b=>rw [hn1];show 0+o1.length<=8;omega
        intro w4 HX hb4;have hsl:=slice8_from w3.heap.size o2.length (by omega) w4
        have HO2':=hid (own_kept HO2.out hb4);have HR4:=hid (row_kept HR3.out hb4);have HB4:=hid (below2 HB3.out hb4);clear h8d hqd
        go_wp2_with (refine wpList_copy_splice rfl _ _ 175 175 rfl 151 Tryz.underlying175 (by kernel_rfl) _ _ _ _ _ _ rfl rfl w3.heap.size (8 - o2.length) (splice (cells16 zero8) 0 (cells16 o1)) 152 HX.out (cells16 o2) ?m1b ?m2b ?m3b (cells16_one _) w3.heap.size w3 hb4 (Nat.le_refl _) ?_)
        case m1b=>rw [hn2];exact (Nat.min_self _).symm
        case m2b=>
         intro h;rw [hn2] at h;refine ⟨by rw [cutAd,if_neg (by omega)],own_src HO2.out h hb4⟩
        case m3b=>rw [hn2,length_splice _ _ _ (by rw [hn1];show 0+o1.length<=8;omega)];show 8 - o2.length+o2.length<=8;omega
        intro w5 HX2 hb5;have HX3:=hid (show w5.heap[w3.heap.size]? = some (.cells (cells16 X).toArray 152 (0,0)) by rw [HXe.out,<- splice16 o1 o2 (by omega)];exact HX2.out);have HR5:=hid (row_kept HR3.out hb5);have HB5:=hid (below2 HB3.out hb5);have hi8:(Tryz.prog.info? 152).map (·.size)=some (cells16 X).length:=by rw [hX8];exact size8
        have hi8':(Tryz.prog.info? 152).map (·.size)=some (cells16 X).toArray.size:=by rw [List.size_toArray,hX8];exact size8
        have hth:w5.there w.heap.size 0 (cells16 X).toArray.size:=there_row HR5.out (by rw [List.size_toArray,hX8];decide)
        have hth2:w5.there w.heap.size 0 (cells16 X).length:=by rw [hX8];exact there_row HR5.out (by decide)
        clear HX2
        go_wp2_with (first | refine wpList_load_mid rfl 152 (.tmp 12) rfl w3.heap.size 0 rfl (cells16 X) _ (range_row HX3.out) Tryz.underlying152 rfl hi8 ?_ | refine wpList_store_mid rfl 152 (.tmp 2) (.tmp 63) rfl w.heap.size 0 (cells16 X).toArray rfl rfl hth hi8' (all_oneCell_toArray (cells16_one _)) ?_)
        refine bodyPost_ret (results_six rfl _ _ _ w.heap.size (cells16 X) _ rfl (World.rangeAt_setCells_same _ _ _ _ hth2) Tryz.underlying152 rfl hi8) rfl ⟨ret_six rfl (by rw [HN.out,HXe.out];rfl) (er_some HN.out).symm,below_setCells (Nat.le_refl _) _ _ _ HB5.out⟩
      ·have HN:=hid (sixV_no3 (l:=s.data.toList) (a:=o1) (b:=o2) (by rw [HC.out];exact H1.out) (by rw [HC.out];exact H2.out) (by rw [HC.out];exact fun h=>hgp h.2))
       have hcase:(gap=true /\ ¬ ((0:Int)<8 - (o1.length:Int) - (o2.length:Int)))∨(gap=false/\(0:Int)<8 - (o1.length:Int) - (o2.length:Int)):=by
        cases gap
        ·right;simp at hgp ⊢;omega
        ·left;simp at hgp ⊢;omega
       clear hgp;rcases hcase with ⟨rfl,hq⟩ | ⟨rfl,hq⟩
       ·have hqd:decide ((o2.length:Int)<8 - (o1.length:Int))=false:=decide_eq_false (by omega)
        go_wp2_with (refine wpList_store_mid rfl 152 (.tmp 2) (.tmp 53) rfl w.heap.size 0 (cells16 zero8).toArray rfl rfl (there_row HR3.out (by decide)) size8 (all_oneCell_toArray (cells16_one _)) ?_)
        refine bodyPost_ret (results_six rfl _ _ _ w.heap.size (cells16 zero8) _ rfl (World.rangeAt_setCells_same _ _ _ _ (there_row HR3.out (by decide))) Tryz.underlying152 rfl size8) rfl ⟨ret_six rfl (by rw [HN.out];rfl) (er_none HN.out).symm,below_setCells (Nat.le_refl _) _ _ _ HB3.out⟩
       ·have hqd:decide ((o2.length:Int)<8 - (o1.length:Int))=true:=decide_eq_true (by omega)
        go_wp2_with (refine wpList_store_mid rfl 152 (.tmp 2) (.tmp 53) rfl w.heap.size 0 (cells16 zero8).toArray rfl rfl (there_row HR3.out (by decide)) size8 (all_oneCell_toArray (cells16_one _)) ?_)
        refine bodyPost_ret (results_six rfl _ _ _ w.heap.size (cells16 zero8) _ rfl (World.rangeAt_setCells_same _ _ _ _ (there_row HR3.out (by decide))) Tryz.underlying152 rfl size8) rfl ⟨ret_six rfl (by rw [HN.out];rfl) (er_none HN.out).symm,below_setCells (Nat.le_refl _) _ _ _ HB3.out⟩
theorem infoStr:(Tryz.prog.info? 9).map (fun i=>(i.zero,i.size,i.bytes))=some (some (.string ByteArray.empty),1,16):=by kernel_rfl
def hexB (n:Nat):ByteArray:=⟨(hex16 n).toArray⟩
def Strs (w:World) (g:Nat) (x:List Nat) (k:Nat):Prop:=
 ∃ cur:Array Value,w.heap[g]? = some (.cells cur 9 (0,0))/\cur.size=x.length /\ ∀ j (h:j<x.length),j<k->cur[j]? = some (.string (hexB x[j]))
theorem Strs.kept {w w':World} {g:Nat} {x:List Nat} {k:Nat} (h:Strs w g x k) (hb:Below w.heap.size w w'):Strs w' g x k:=by
 obtain ⟨cur,hg,h2⟩:=h
 exact ⟨cur,row_kept hg hb,h2⟩
theorem Strs.cell {w:World} {g:Nat} {x:List Nat} {k:Nat} (h:Strs w g x k) (j:Nat) (hj:j<x.length): ∃ v,w.cell? ⟨g,j,none⟩=some v:=by
 obtain ⟨cur,hg,hs,_⟩:=h
 rw [cell_of_row w g j cur _ _ hg];exact ⟨cur[j],by simp [hs,hj]⟩
theorem Strs.frozen {w:World} {g:Nat} {x:List Nat} {k:Nat} (h:Strs w g x k) (j:Nat):w.frozen? ⟨g,j,none⟩=false:=by
 obtain ⟨cur,hg,_⟩:=h
 simp [World.frozen?,hg]
theorem Strs.set {w:World} {g:Nat} {x:List Nat} {k:Nat} (h:Strs w g x k) (hk:k<x.length):Strs (w.setCell ⟨g,k,none⟩ (.string (hexB x[k]))) g x (k+1):=by
 obtain ⟨cur,hg,hs,hc⟩:=h
 refine ⟨_,Lib.heap_setCell_same hg _,by simpa using hs,?_⟩
 intro j hj hj2;by_cases e:k=j
 ·subst e
  have:k<cur.size:=by omega
  simp [this]
 ·simp [Array.getElem?_setIfInBounds,e]
  exact hc j hj (by omega)
theorem hex16_le (n:Nat):(hex16 n).length<=5:=by
 have key: ∀ (f m:Nat) (acc:List UInt8),(digsN 16 f m acc).length<=acc.length+f:=by
  intro f
  induction f with
  | zero=>intro m acc;simp [digsN]
  | succ f ih=>
    intro m acc;rw [digsN];split
    ·simp
    ·have:=ih (m / 16) (digC (m % 16)::acc)
     simp at this;omega
 have:=key 4 n [];simp at this;unfold hex16;omega
theorem joined_le (x:List Nat):(joined x).length<=6*x.length:=by
 unfold joined
 induction x with
 | nil=>simp [Lib.join,List.intercalate]
 | cons a x ih=>
   have ha:=hex16_le a
   cases x with
   | nil=>simp [Lib.join_one];omega
   | cons b x=>
     have e:Lib.join ((a::b::x).map hex16) [58]=hex16 a++[58]++Lib.join ((b::x).map hex16) [58]:=by
      simp [Lib.join,List.intercalate,List.intersperse]
     rw [e];simp only [List.length_append,List.length_cons,List.length_nil] at ih ⊢
     omega
def Nums (w:World) (b o:Nat) (x:List Nat):Prop:= ∀ j (h:j<x.length),w.cell? ⟨b,o+j,none⟩=some (.int .u16 (x[j]:Int))
theorem Nums.kept {w w':World} {b o:Nat} {x:List Nat} (h:Nums w b o x) (hb:Below w.heap.size w w'):Nums w' b o x:=fun j hj=>by
 rw [hb.cell (World.block_lt_of_cell? w _ (h j hj))];exact h j hj
theorem joined_any (b o cap:Nat) (x:List Nat) (w:World) (hg:Gd w) (hx:x.length<=8) (hcap:x.length<=cap) (h16: ∀ n ∈ x,n<65536) (hc:Nums w b o x):
 Calls Tryz.prog 249 #[.slice (some ⟨b,o,none⟩) x.length cap] w fun e w'=>e = .returned (.string ⟨(joined x).toArray⟩)/\Below w.heap.size w w':=by
 obtain ⟨i0,hi,hz0,hz1,hz2⟩:=info_parts infoStr
 have HG:=hid hg;have HC:=hid hc;have H16:=hid h16;clear hg hc h16
 go_enter Tryz.func249,Tryz.ntmps249
 go_wp2_with (at_make;refine wpList_make_full _ rfl _ _ 22 rfl w.heap.size 9 i0 (.string ByteArray.empty) 1 Tryz.underlying22 hi hz0 hz1 .i64 .i64 _ _ x.length rfl rfl rfl rfl (by rw [hz2];omega) (by unfold maxLen;omega) (Nat.le_refl _) ?_)
 intro w0 hown0 hgrow0;have hb0:Below w.heap.size w w0:=(Below.refl _ w).grown hgrow0 (Nat.le_refl _) (fun k hk=>by simp at hk);have hst:Strs w0 w.heap.size x 0:=by
  rcases hown0.2 with ⟨hv,_⟩ | ⟨g,cap',cur,hv,_,hcur,_,_,hsz,_⟩
  ·cases hv
  ·cases hv
   exact ⟨cur,hcur,by simpa using hsz,fun j _ h=>absurd h (Nat.not_lt_zero _)⟩
 clear hown0 hgrow0;have HS0:=hid hst;clear hst
 go_wp2
 go_loopg [11] x.length (fun g iv wr=> ∃ k:Nat,k+g=x.length/\iv = .int .i64 k/\Strs wr w.heap.size x k/\Below w.heap.size w wr)
 case atStart=>exact ⟨0,by omega,rfl,HS0.out,hb0⟩
 case round=>
  obtain ⟨k,hkg,rfl,hS,hbw⟩:=hrel
  have HS:=hid hS;clear hS
  cases gk with
  | zero=>
    have hkx: ¬ ((k:Int)<(x.length:Int)):=by omega
    have hlen:(x.map hexB).length=x.length:=by simp
    have hjn:Lib.join ((x.map hexB).map (·.data.toList)) (⟨#[58]⟩:ByteArray).data.toList=joined x:=by
     rw [List.map_map];rfl
    have hbk:w.heap.size<wr.heap.size:=by
     obtain ⟨cur,hg,_⟩:=HS.out
     rcases Nat.lt_or_ge w.heap.size wr.heap.size with h | h
     ·exact h
     ·rw [Array.getElem?_eq_none h] at hg;cases hg
    have hct:=Tryz.strings_Join w.heap.size 0 x.length (x.map hexB) ⟨#[58]⟩ wr (by
     intro j t hj;obtain ⟨cur,hg,hs,hcc⟩:=HS.out
     rw [Nat.zero_add,cell_of_row wr _ j cur _ _ hg]
     rw [List.getElem?_map] at hj;obtain ⟨m,hm,rfl⟩:=Option.map_eq_some_iff.1 hj
     obtain ⟨hj2,rfl⟩:=List.getElem?_eq_some_iff.1 hm
     exact hcc j hj2 (by omega)) hbk (by rw [hlen];omega) (by rw [hlen];omega) (by rw [hjn];have:=joined_le x;omega)
    rw [hjn,hlen] at hct
    have HCt:=hid hct;clear hct hlen hjn
    go_wp2_with (go_at_call 88;refine HCt.out.mono ?_;rintro e w1 ⟨rfl,hb1⟩)
    go_ret
    exact ⟨rfl,below2 hbw hb1⟩
  | succ g=>
    have hk:k<x.length:=by omega
    have hk':(k:Int)<(x.length:Int):=by omega
    have hcell:=(HC.out.kept hbw) k hk;have hk16:=H16.out x[k] (List.getElem_mem hk);obtain ⟨m,hm⟩: ∃ m,x[k]=m:=⟨_,rfl⟩
    rw [hm] at hcell hk16;have HM:=hid hm;have HGw:=hid (HG.out.kept hbw);clear hm
    go_wp2_with fail
    refine (formatUint16 _ _ HGw.out hk16).mono ?_;rintro e w1 ⟨rfl,hb1⟩
    have HS1:=hid (HS.out.kept hb1);obtain ⟨v0,hc0⟩:=HS1.out.cell k hk
    have hfz:=HS1.out.frozen k;have HS2:=hid (show Strs (w1.setCell ⟨w.heap.size,k,none⟩ (.string ⟨(hex16 m).toArray⟩)) w.heap.size x (k+1) by
     have:=HS1.out.set hk;rw [HM.out] at this;exact this)
    have HB:=hid ((below2 hbw hb1).setCell (p:=⟨w.heap.size,k,none⟩) (Nat.le_refl _) (.string ⟨(hex16 m).toArray⟩));clear hb1 hcell
    go_wp2
    go_roundg g
    case measure=>omega
    case rel=>exact ⟨k+1,by omega,by go_num,HS2.out,HB.out⟩
end Go.Proofs.YtijpkalkfbejeaaGreatDoor
