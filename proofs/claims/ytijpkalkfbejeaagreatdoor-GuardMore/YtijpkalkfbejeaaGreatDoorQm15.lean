/- Walks and plain facts. -/
import Derived.Test.YtijpkalkfbejeaaGreatDoorQm14
set_option linter.unusedSimpArgs false
set_option linter.unusedVariables false
set_option maxHeartbeats 16000000
set_option maxRecDepth 100000

namespace Go.Proofs.YtijpkalkfbejeaaGreatDoor
open Go.RowKit
def cellsS (L:List (List UInt8)):List Value:=L.map fun x=>Value.string ⟨x.toArray⟩
theorem cellsS_app (a b:List (List UInt8)):cellsS (a++b)=cellsS a++cellsS b:=by simp [cellsS]
theorem cellsS_len (a:List (List UInt8)):(cellsS a).length=a.length:=by simp [cellsS]
theorem cellsS_one (X:ByteArray):cellsS [X.data.toList]=[.string X]:=by
 show [Value.string ⟨X.data.toList.toArray⟩]=_;rw [Lib.mk_data]
def TxtS (w:World) (b:Nat) (L:List (List UInt8)):Prop:= ∀ j (h:j<L.length),w.cell? ⟨b,j,none⟩=some (.string ⟨L[j].toArray⟩)
theorem TxtS.kept {w w':World} {b:Nat} {L:List (List UInt8)} (h:TxtS w b L) (hb:Below w.heap.size w w'):TxtS w' b L:=fun j hj=>by
 have h1:=h j hj;exact (hb.cell (World.block_lt_of_cell? w _ h1)).trans h1
theorem TxtS.take {w:World} {b:Nat} {L:List (List UInt8)} (h:TxtS w b L) (n:Nat):TxtS w b (L.take n):=fun j hj=>by
 have:j<L.length:=by simp at hj;omega
 rw [h j this];simp
def TxtPost (L:List (List UInt8)) (w:World) (e:Ending) (w':World):Prop:=
 ∃ b cap,e = .returned (.slice (some ⟨b,0,none⟩) L.length cap)/\L.length<=cap/\cap<=maxLen/\TxtS w' b L/\Below w.heap.size w w'
theorem own_txt {w w':World} {B:Nat} {e:TypeId} {v:Value} {L:List (List UInt8)} (h:w'.ownsRow B e 1 v L.length (cellsS L)) (h0:L≠[]) (hb:Below w.heap.size w w'):TxtPost L w (.returned v) w':=by
 have hl:=List.length_pos_iff.2 h0;rcases h.2 with ⟨hv,hn⟩ | ⟨g,cap,cur,rfl,hg,hrow,hnc,hcm,hcs,htake⟩
 ·omega
 ·refine ⟨g,cap,rfl,hnc,hcm,fun j hj=> ?_,hb⟩
  rw [h.cellAt j (by omega)];simp [cellsS,hj]
theorem drop_split (s:ByteArray) (j k:Nat) (hj:j<=k) (hk:k<s.size):s.data.toList.drop j=(s.extract j k).data.toList++s[k]::s.data.toList.drop (k+1):=by
 rw [Lib.extract_data];have h1:s.data.toList.drop j=(s.data.toList.drop j).take (k - j)++(s.data.toList.drop j).drop (k - j):=(List.take_append_drop _ _).symm;rw [List.drop_drop,show j+(k - j)=k by omega,drop_cons s k hk] at h1
 exact h1
theorem ext_take (s:ByteArray) (j k:Nat):(s.extract j k).data.toList=(s.data.toList.drop j).take (k - j):=Lib.extract_data _ _ _
theorem ba_self (b:ByteArray):b=⟨b.data.toList.toArray⟩:=ba_ext rfl
theorem rcut_any (s:ByteArray) (c:UInt8) (w:World) (hs:s.size<=1000000):
 Calls Tryz.prog 28 #[.string s,.int .u8 (c.toNat:Int)] w (TxtPost (cutL c s.data.toList) w):=by
 obtain ⟨i0,hi,hz0,hz1,hz2⟩:=info_parts infoStr
 have hc8:=c.toNat_lt
 go_enter Tryz.func28,Tryz.ntmps28
 go_wp2
 go_loopw [5,6,7] (fun v fr i wr=> ∃ (k j:Nat) (out:List (List UInt8)),j<=k/\k<=s.size+1/\i = .int .i64 k/\fr = .int .i64 j/\out.length<=k/\wr.ownsRow w.heap.size 9 1 v out.length (cellsS out)/\Below w.heap.size w wr /\
  ((k<=s.size/\cutL c s.data.toList=out++cutL c (s.data.toList.drop j)/\c ∉ (s.extract j k).data.toList)∨(k=s.size+1/\out=cutL c s.data.toList)))
  (fun _ _ i _=>s.size+1 - (intOf i).toNat)
 case atStart=>exact ⟨0,0,[],Nat.le_refl _,by omega,rfl,rfl,Nat.le_refl _,own_nil _ _ _,Below.refl _ w,.inl ⟨by omega,rfl,by rw [ext_take];simp⟩⟩
 case round=>
  obtain ⟨k,j,out,hjk,hk,rfl,rfl,hol,hown,hbw,hor⟩:=hrel
  have HO:=hid hown;clear hown;have hbs:=hbw.size;rcases hor with ⟨hks,hcut,hno⟩ | ⟨hks,hout⟩
  ·have HC:=hid hcut
   have HN:=hid hno;clear hcut hno;have hks':(k:Int)<=(s.size:Int):=by omega
   have hjk':(j:Int)<=(k:Int):=by omega
   obtain ⟨X,hX⟩: ∃ X:ByteArray,X=s.extract j k:=⟨_,rfl⟩
   by_cases hlt:k<s.size
   ·have hlt':((k:Int)==(s.size:Int))=false:=by rw [beq_eq_false_iff_ne];omega
    have hb8:s[k].toNat<256:=s[k].toNat_lt;have HD:=hid (drop_split s j k hjk hlt);by_cases he:s[k]=c
    ·have he':(s[k].toNat:Int)=(c.toNat:Int):=by rw [he]
     have HE:=hid he;have HX:=hid hX;clear hX he
     go_wp2_with (at_builtin;go_must (refine wpList_append_own _ rfl _ _ 22 rfl w.heap.size 9 i0 (.string ⟨#[]⟩) 1 16 Tryz.underlying22 hi hz0 hz1 hz2 rfl (by decide) _ _ _ rfl (HO.out.alloc _) ⟨wr.heap.size,0,none⟩ 1 1 [.string (s.extract j k)] rfl rfl ?c1 ?c2 ?c3 ?c4 ?c5 ?_))
     case c1=>
      intro q u hq
      match q,hq with
      | 0,hq=>simp at hq;subst hq;simp [Addr.add]
     case c2=>intro u hu;simp at hu;subst hu;rfl
     case c3=>unfold maxLen;omega
     case c4=>omega
     case c5=>simp;omega
     intro v' w2 hown' hgrow hnil;have HO2:=hid hown';have HB2:=hid (show Below w.heap.size w w2 from (hbw.alloc hbw.size _).grown hgrow (by simp;omega) (fun g hg=>(HO.out.lt g hg).1));clear hown' hgrow hnil
     go_wp2
     go_roundw
     case rel=>
      refine ⟨k+1,k+1,out++[(s.extract j k).data.toList],by omega,by omega,by go_num,by go_num,by simp;omega,?_,HB2.out,.inl ⟨by omega,?_,by rw [ext_take];simp⟩⟩
      ·rw [cellsS_app,cellsS_one,List.length_append]
       exact HO2.out
      ·have h1:=HC.out
       rw [HD.out,HE.out,cutL_some c _ _ HN.out] at h1
       rw [h1];simp
     case measure=>simp [intOf];omega
    ·have he':((s[k].toNat:Int)==(c.toNat:Int))=false:=by
      rw [beq_eq_false_iff_ne];intro e;exact he (UInt8.toNat_inj.1 (by omega))
     have HE:=hid he;clear he hX
     go_wp2
     go_roundw
     case rel=>
      refine ⟨k+1,j,out,by omega,by omega,by go_num,rfl,by omega,HO.out,hbw,.inl ⟨by omega,HC.out,?_⟩⟩;rw [ext_take,show k+1 - j=(k - j)+1 by omega,List.take_add_one]
      have h2:=HN.out;rw [ext_take] at h2;rw [List.mem_append];rintro (h | h)
      ·exact h2 h
      ·rw [List.getElem?_drop,show j+(k - j)=k by omega] at h
       have h3:s.data.toList[k]? = some s[k]:=by
        rw [List.getElem?_eq_getElem (by simpa using hlt)];rfl
       rw [h3] at h;simp at h;exact HE.out h.symm
     case measure=>simp [intOf];omega
   ·have hke:k=s.size:=by omega
    subst hke;have HX:=hid hX;clear hX
    go_wp2_with (at_builtin;go_must (refine wpList_append_own _ rfl _ _ 22 rfl w.heap.size 9 i0 (.string ⟨#[]⟩) 1 16 Tryz.underlying22 hi hz0 hz1 hz2 rfl (by decide) _ _ _ rfl (HO.out.alloc _) ⟨wr.heap.size,0,none⟩ 1 1 [.string (s.extract j s.size)] rfl rfl ?c1 ?c2 ?c3 ?c4 ?c5 ?_))
    case c1=>
     intro q u hq
     match q,hq with
     | 0,hq=>simp at hq;subst hq;simp [Addr.add]
    case c2=>intro u hu;simp at hu;subst hu;rfl
    case c3=>unfold maxLen;omega
    case c4=>omega
    case c5=>simp;omega
    intro v' w2 hown' hgrow hnil;have HO2:=hid hown';have HB2:=hid (show Below w.heap.size w w2 from (hbw.alloc hbw.size _).grown hgrow (by simp;omega) (fun g hg=>(HO.out.lt g hg).1));clear hown' hgrow hnil
    go_wp2
    go_roundw
    case rel=>
     refine ⟨s.size+1,s.size+1,out++[(s.extract j s.size).data.toList],by omega,by omega,by go_num,by go_num,by simp;omega,?_,HB2.out,.inr ⟨rfl,?_⟩⟩
     ·rw [cellsS_app,cellsS_one,List.length_append]
      exact HO2.out
     ·have h1:=HC.out
      have e:(s.extract j s.size).data.toList=s.data.toList.drop j:=by rw [ext_take];exact List.take_of_length_le (by simp)
      rw [e];have h2:=HN.out;rw [e] at h2;rw [cutL_none c _ h2] at h1;exact h1.symm
    case measure=>simp [intOf]
  ·subst hks
   have hks': ¬ (((s.size+1:Nat):Int)<=(s.size:Int)):=by omega
   have HX:=hid hout;clear hout
   go_wp2
   go_ret
   rw [<- HX.out];exact own_txt HO.out (by rw [HX.out];exact cutL_ne _ _) hbw
def PathAt (w:World) (v:Value) (L:List (List UInt8)):Prop:=
 (v = .slice none 0 0/\L=[]) ∨ ∃ b cap,v = .slice (some ⟨b,0,none⟩) L.length cap/\b<w.heap.size/\L.length<=cap/\cap<=maxLen/\TxtS w b L
theorem PathAt.kept {w w':World} {v:Value} {L:List (List UInt8)} (h:PathAt w v L) (hb:Below w.heap.size w w'):PathAt w' v L:=by
 rcases h with h | ⟨b,cap,h1,h2,h3,h4,h5⟩
 ·exact .inl h
 ·exact .inr ⟨b,cap,h1,by have:=hb.size;omega,h3,h4,h5.kept hb⟩
theorem own_path {w:World} {B:Nat} {v:Value} {L:List (List UInt8)} (h:w.ownsRow B 9 1 v L.length (cellsS L)):PathAt w v L:=by
 have h2:=h.2;rcases h2 with ⟨hv,hn⟩ | ⟨g,cap,cur,rfl,hg,hrow,hnc,hcm,hcs,htake⟩
 ·exact .inl ⟨hv,List.eq_nil_of_length_eq_zero hn⟩
 ·refine .inr ⟨g,cap,rfl,(Array.getElem?_eq_some_iff.1 hrow).1,hnc,hcm,fun j hj=> ?_⟩
  rw [h.cellAt j (by omega)];simp [cellsS,hj]
theorem own_drop {w:World} {B:Nat} {g cap n:Nat} {L:List (List UInt8)} (h:w.ownsRow B 9 1 (.slice (some ⟨g,0,none⟩) (n+1) cap) (n+1) (cellsS L)) (hl:L.length=n+1):w.ownsRow B 9 1 (.slice (some ⟨g,0,none⟩) n cap) n (cellsS L.dropLast):=by
 rcases h.2 with ⟨hv,hn⟩ | ⟨g',cap',cur,hv,hg,hrow,hnc,hcm,hcs,htake⟩
 ·cases hv
 ·cases hv
  refine ⟨by simp [cellsS_len,hl],.inr ⟨g,cap,cur,rfl,hg,hrow,by omega,hcm,hcs,?_⟩⟩
  have e:(cellsS L).dropLast=cellsS L.dropLast:=by simp [cellsS]
  have hcl:cur.toList.length=cap:=by simp [hcs]
  rw [<- e,<- htake,List.dropLast_eq_take,List.take_take,List.length_take]
  congr 1
  omega
theorem own_nonnil {w:World} {B n:Nat} {v:Value} {L:List (List UInt8)} (h:w.ownsRow B 9 1 v (n+1) (cellsS L)): ∃ g cap,v = .slice (some ⟨g,0,none⟩) (n+1) cap/\n+1<=cap/\cap<=maxLen:=by
 rcases h.2 with ⟨hv,hn⟩ | ⟨g',cap',cur,hv,hg,hrow,hnc,hcm,hcs,htake⟩
 ·omega
 ·exact ⟨g',cap',hv,hnc,hcm⟩
theorem own_zero {w:World} {B:Nat} {v:Value} {xs:List Value} (h:w.ownsRow B 9 1 v 0 xs): ∃ a cap,v = .slice a 0 cap:=by
 rcases h.2 with ⟨hv,hn⟩ | ⟨g',cap',cur,hv,hg,hrow,hnc,hcm,hcs,htake⟩
 ·exact ⟨none,0,hv⟩
 ·exact ⟨_,cap',hv⟩
theorem getD_ba (L:List (List UInt8)) (j:Nat) (hj:j<L.length):(L.map fun x=>(⟨x.toArray⟩:ByteArray)).getD j ByteArray.empty=⟨L[j].toArray⟩:=by
 simp [List.getD,hj]
theorem clone_any (v:Value) (L:List (List UInt8)) (w:World) (h:PathAt w v L) (hl:L.length<=1000000):
 Calls Tryz.prog 75 #[v] w fun e w'=> ∃ v',e = .returned v'/\w'.ownsRow w.heap.size 9 1 v' L.length (cellsS L)/\Below w.heap.size w w':=by
 rcases h with ⟨rfl,rfl⟩ | ⟨b,cap,rfl,h2,h3,h4,h5⟩
 ·refine (Tryz.slices_Clone_string_nil 0 0 w).mono ?_
  rintro e w' ⟨rfl,rfl⟩
  exact ⟨_,rfl,own_nil _ _ _,Below.refl _ _⟩
 ·refine (Tryz.slices_Clone_string b 0 L.length cap (L.map fun x=>(⟨x.toArray⟩:ByteArray)) w (by simp) (by omega) ?_).mono ?_
  ·intro j hj
   have hj':j<L.length:=by simpa using hj
   rw [getD_ba L j hj',Nat.zero_add];exact h5 j hj'
  ·rintro e w' ⟨v',rfl,hown,_,hb⟩
   refine ⟨v',rfl,?_,hb⟩
   have e:((L.map fun x=>(⟨x.toArray⟩:ByteArray)).take L.length).map Value.string=cellsS L:=by
    rw [List.take_of_length_le (by simp),List.map_map];rfl
   rw [e] at hown;exact hown
theorem cutL_part (c:UInt8) (l:List UInt8):cutL c l=if (part c l).2.2 then (part c l).1::cutL c (part c l).2.1 else [(part c l).1]:=by
 rcases first_split c l with h | ⟨a,r,h,rfl⟩
 ·rw [part_none c l h,cutL_none c l h];rfl
 ·rw [part_some c a r h,cutL_some c a r h];rfl
theorem part_rest (c:UInt8) (l:List UInt8) (h:(part c l).2.2=true):(part c l).2.1.length+1<=l.length:=by
 rcases first_split c l with h1 | ⟨a,r,h1,rfl⟩
 ·rw [part_none c l h1] at h;cases h
 ·rw [part_some c a r h1];simp
def stepP (out:List (List UInt8)) (p:List UInt8) (mo:Bool):List (List UInt8):=
 if dotsV p=2 then (if mo then out.dropLast else out.dropLast++[[]]) else if dotsV p=1 then (if mo then out else out++[[]]) else out++[pct 5 p]
theorem pathL_more (out:List (List UInt8)) (p:List UInt8) (L:List (List UInt8)) (h:L≠[]):pathL out (p::L)=pathL (stepP out p true) L:=by
 cases L with
 | nil=>exact absurd rfl h
 | cons q r=>
   rw [pathL,stepP]
   split
   ·rfl
   ·split<;>rfl
theorem pathL_last (out:List (List UInt8)) (p:List UInt8):pathL out [p]=stepP out p false:=by
 rw [pathL,stepP]
 split
 ·rfl
 ·split<;>rfl
theorem pathL_cut (out:List (List UInt8)) (r:List UInt8):pathL out (cutL 47 r)=if (part 47 r).2.2 then pathL (stepP out (part 47 r).1 true) (cutL 47 (part 47 r).2.1) else stepP out (part 47 r).1 false:=by
 rw [cutL_part]
 cases (part 47 r).2.2
 ·exact pathL_last _ _
 ·exact pathL_more _ _ _ (cutL_ne _ _)
theorem dotsV_cases (p:List UInt8):dotsV p=0∨dotsV p=1∨dotsV p=2:=by
 unfold dotsV;split
 ·exact .inr (.inl rfl)
 ·split
  ·exact .inr (.inr rfl)
  ·exact .inl rfl
theorem stepP0 {out:List (List UInt8)} {p:List UInt8} {mo:Bool} (h:dotsV p=0):stepP out p mo=out++[pct 5 p]:=by rw [stepP,h];rfl
theorem stepP1 {out:List (List UInt8)} {p:List UInt8} (h:dotsV p=1):stepP out p true=out:=by rw [stepP,h];rfl
theorem stepP1' {out:List (List UInt8)} {p:List UInt8} (h:dotsV p=1):stepP out p false=out++[[]]:=by rw [stepP,h];rfl
theorem stepP2 {out:List (List UInt8)} {p:List UInt8} (h:dotsV p=2):stepP out p true=out.dropLast:=by rw [stepP,h];rfl
theorem stepP2' {out:List (List UInt8)} {p:List UInt8} (h:dotsV p=2):stepP out p false=out.dropLast++[[]]:=by rw [stepP,h];rfl
theorem own_below {w w':World} {B:Nat} {v:Value} {n:Nat} {xs:List Value} (h:w.ownsRow B 9 1 v n xs) (hb:Below w.heap.size w w'):w'.ownsRow B 9 1 v n xs:=
 ownsRow_same h fun g hg=>hb.block g (h.lt g hg).2
def OwnPost (L:List (List UInt8)) (w:World) (e:Ending) (w':World):Prop:= ∃ v,e = .returned v/\w'.ownsRow w.heap.size 9 1 v L.length (cellsS L)/\Below w.heap.size w w'
theorem pathV_none {special:Bool} {hv:List (List UInt8)} {s:List UInt8} (h:s=[]/\special=false):pathV special hv s=[]:=by rw [pathV,if_pos h]
theorem pathV_some {special:Bool} {hv:List (List UInt8)} {s:List UInt8} (h: ¬ (s=[]/\special=false)):pathV special hv s=pathL hv (cutL 47 (over1 s)):=by rw [pathV,if_neg h]
theorem over1_le (l:List UInt8):(over1 l).length<=l.length:=by
 unfold over1;split
 ·simp
 ·split<;>simp
theorem readPath_any (s:ByteArray) (va:Value) (hv:List (List UInt8)) (special:Bool) (w:World) (hg:Gd w) (hs:s.size<=100000) (ha:PathAt w va hv) (hl:hv.length<=100000):
 Calls Tryz.prog 155 #[.string s,va,.bool special] w (OwnPost (pathV special hv s.data.toList) w):=by
 obtain ⟨i0,hi,hz0,hz1,hz2⟩:=info_parts infoStr
 have HG:=hid hg;have HP:=hid ha;clear hg ha;by_cases hno:s.data.toList=[]/\special=false
 ·have HN:=hid (pathV_none (hv:=hv) hno)
  obtain ⟨hn1,rfl⟩:=hno
  have he:=empty_yes s hn1;clear hn1
  go_enter Tryz.func155,Tryz.ntmps155
  go_wp2
  go_ret
  unfold OwnPost;rw [HN.out];exact ⟨_,rfl,own_nil _ _ _,Below.refl _ _⟩
 ·obtain ⟨R,hR⟩: ∃ R:ByteArray,R=⟨(over1 s.data.toList).toArray⟩:=⟨_,rfl⟩
  have hRl:R.data.toList=over1 s.data.toList:=by rw [hR]
  have hRs:R.size<=100000:=by rw [hR];exact size_le (over1_le _) hs
  have HN:=hid (show pathV special hv s.data.toList=pathL hv (cutL 47 R.data.toList) by rw [pathV_some hno,hRl]);have HT:Hid (∀ w:World,Calls Tryz.prog 189 #[.string s,.string ⟨#[47]⟩] w fun e w'=>e = .returned (.string R)/\w=w'):=fun w=>by
   have:=Tryz.strings_TrimPrefix s ⟨#[47]⟩ w;rw [show (⟨#[47]⟩:ByteArray).data.toList=[47] from rfl,trimP_over,<- hR] at this;exact this.mono fun e w' ⟨h,h'⟩=>⟨h,h'.symm⟩
  have hcase:(s.toList.isEmpty=true/\special=true)∨s.toList.isEmpty=false:=by
   by_cases h:s.data.toList=[]
   ·refine .inl ⟨empty_yes s h,?_⟩
    cases special
    ·exact absurd ⟨h,rfl⟩ hno
    ·rfl
   ·exact .inr (empty_no s h)
  clear hR hRl hno;rcases hcase with ⟨he,rfl⟩ | he
  all_goals
   go_enter Tryz.func155,Tryz.ntmps155
   go_wp2_with fail
   refine (clone_any va hv w HP.out (by omega)).mono ?_;rintro e w1 ⟨v1,rfl,hown1,hb1⟩
   have HO1:=hid hown1;clear hown1
   go_wp2_with (go_at_call 189;refine (HT.out _).mono ?_;rintro e w' ⟨rfl,rfl⟩)
   go_loopw [7,8,9] (fun v r m wr=> ∃ (out:List (List UInt8)) (P:ByteArray) (mo:Bool) (k:Nat),r = .string P/\m = .bool mo/\P.size+k<=100000/\out.length<=hv.length+k+1/\(mo=true->out.length<=hv.length+k)/\wr.ownsRow w.heap.size 9 1 v out.length (cellsS out)/\Below w.heap.size w wr/\(if mo then pathL out (cutL 47 P.data.toList) else out)=pathL hv (cutL 47 R.data.toList))
    (fun _ r m _=>match r,m with | .string P,.bool true=>P.size+1 | _,_=>0)
   case atStart=>exact ⟨hv,R,true,0,rfl,rfl,by omega,by omega,fun _=>by omega,HO1.out,hb1,rfl⟩
   case round=>
    obtain ⟨out,P,mo,k,rfl,rfl,hPk,hol,holm,hown,hbw,hpath⟩:=hrel
    have HO:=hid hown;have HPa:=hid hpath;clear hown hpath;have hwr:=hbw.size
    cases mo with
    | false=>
      have HE:=hid (show out=pathL hv (cutL 47 R.data.toList) from HPa.out)
      go_wp2
      go_ret
      unfold OwnPost;rw [HN.out,<- HE.out]
      exact ⟨_,rfl,HO.out,hbw⟩
    | true=>
      have hol2:=holm rfl;have HPb:=hid (show (if (part 47 P.data.toList).2.2 then pathL (stepP out (part 47 P.data.toList).1 true) (cutL 47 (part 47 P.data.toList).2.1) else stepP out (part 47 P.data.toList).1 false)=pathL hv (cutL 47 R.data.toList) from (pathL_cut out P.data.toList).symm.trans HPa.out);have hple:=part_le 47 P.data.toList;obtain ⟨A,hA⟩: ∃ A:ByteArray,A=⟨(part 47 P.data.toList).1.toArray⟩:=⟨_,rfl⟩
      obtain ⟨B,hB⟩: ∃ B:ByteArray,B=⟨(part 47 P.data.toList).2.1.toArray⟩:=⟨_,rfl⟩
      obtain ⟨mo2,hmo2⟩: ∃ m,m=(part 47 P.data.toList).2.2:=⟨_,rfl⟩
      have hAl:A.data.toList=(part 47 P.data.toList).1:=by rw [hA]
      have hBl:B.data.toList=(part 47 P.data.toList).2.1:=by rw [hB]
      have hAs:A.size<=P.size:=by rw [hA];exact size_le hple.1 (Nat.le_refl _)
      have hBs:B.size<=P.size:=by rw [hB];exact size_le hple.2 (Nat.le_refl _)
      have hBs2:mo2=true->B.size+1<=P.size:=fun h=>by
       have:=part_rest 47 P.data.toList (by rw [<- hmo2];exact h)
       rw [Lib.size_eq,Lib.size_eq,hBl];exact this
      have HCut:Hid (∀ w:World,Gd w->Calls Tryz.prog 19 #[.string P,.string ⟨#[47]⟩] w fun e w'=>e = .returned (.tuple #[.string A,.string B,.bool mo2])/\Below w.heap.size w w'):=fun w hg=>by
       have:=cut_any P ⟨#[47]⟩ w hg (by omega)
       rw [show (⟨#[47]⟩:ByteArray).data.toList=[47] from rfl,cut_part,<- hA,<- hB,<- hmo2] at this;exact this
      have HPc:=hid (show (if mo2 then pathL (stepP out A.data.toList true) (cutL 47 B.data.toList) else stepP out A.data.toList false)=pathL hv (cutL 47 R.data.toList) by rw [hAl,hBl,hmo2];exact HPb.out);clear hA hB hmo2 hAl hBl hple holm
      go_wp2_with fail
      refine (HCut.out _ (HG.out.kept hbw)).mono ?_;rintro e w2 ⟨rfl,hb2⟩
      go_wp2_with fail
      refine (dots_any A w2 (by omega)).mono ?_;rintro e w3 ⟨rfl,hb3⟩
      have hbw3:=below2 (below2 hbw hb2) hb3;have HB3:=hid hbw3;have hsz3:=hbw3.size;have HO3:=hid (own_below HO.out (below2 hb2 hb3));clear hbw3;obtain ⟨k2,hk2⟩: ∃ k2,k2=if mo2 then k+1 else k:=⟨_,rfl⟩
      have hk2a:B.size+k2<=100000:=by
       cases mo2
       ·simp at hk2;omega
       ·simp at hk2;have:=hBs2 rfl;omega
      have hk2b:k<=k2/\(mo2=true->k2=k+1):=by
       cases mo2
       ·simp at hk2;simp;omega
       ·simp at hk2;simp;omega
      have HBs:=hid hBs2;have HK2:=hid hk2b;have hk2c:=hk2b.1;clear hBs2 hk2b hk2;rcases dotsV_cases A.data.toList with hd | hd | hd
      ·have HPd:=hid (show (if mo2 then pathL (out++[pct 5 A.data.toList]) (cutL 47 B.data.toList) else out++[pct 5 A.data.toList])=pathL hv (cutL 47 R.data.toList) by rw [<- HPc.out,stepP0 hd,stepP0 hd])
       have hpl:=pct_le 5 A.data.toList;rw [hd];clear hd
       go_wp2_with fail
       refine (percent_any A 5 w3 (by omega)).mono ?_;rintro e w4 ⟨rfl,hb4⟩
       have HB4:=hid (below2 HB3.out hb4);have hsz4:=HB4.out.size;have HO4:=hid (own_below HO3.out hb4)
       go_wp2_with (at_builtin;go_must (refine wpList_append_own _ rfl _ _ 22 rfl w.heap.size 9 i0 (.string ⟨#[]⟩) 1 16 Tryz.underlying22 hi hz0 hz1 hz2 rfl (by decide) _ _ _ rfl (HO4.out.alloc _) ⟨w4.heap.size,0,none⟩ 1 1 [.string ⟨(pct 5 A.data.toList).toArray⟩] rfl rfl ?c1 ?c2 ?c3 ?c4 ?c5 ?_))
       case c1=>
        intro q u hq
        match q,hq with
        | 0,hq=>simp at hq;subst hq;simp [Addr.add]
       case c2=>intro u hu;simp at hu;subst hu;rfl
       case c3=>unfold maxLen;omega
       case c4=>omega
       case c5=>simp;omega
       intro v' w5 hown' hgrow hnil;have HO5:=hid hown';have HB5:=hid (show Below w.heap.size w w5 from (HB4.out.alloc HB4.out.size _).grown hgrow (by simp;omega) (fun g hg=>(HO4.out.lt g hg).1));clear hown' hgrow hnil
       go_wp2
       go_roundw
       case rel=>
        refine ⟨out++[pct 5 A.data.toList],B,mo2,k2,rfl,rfl,hk2a,by first | omega | (simp<;>omega),fun h=>by have:=HK2.out.2 h;first | omega | (simp<;>omega),?_,HB5.out,HPd.out⟩;rw [cellsS_app,List.length_append]
        exact HO5.out
       case measure=>
        cases mo2
        ·simp
        ·have:=HBs.out rfl
         simp;omega
      ·have HO3b:=HO3
       cases mo2 with
       | true=>
         have hB1:=HBs.out rfl;have hK1:=HK2.out.2 rfl;have HPd:=hid (show pathL (out) (cutL 47 B.data.toList)=pathL hv (cutL 47 R.data.toList) by rw [<- HPc.out,if_pos rfl,stepP1 hd]<;>rfl);rw [hd];clear hd
         go_wp2
         go_roundw
         case rel=>exact ⟨out,B,true,k2,rfl,rfl,hk2a,by first | omega | (simp<;>omega),fun h=>by first | omega | (simp<;>omega),HO3b.out,HB3.out,HPd.out⟩
         case measure=>
          simp;omega
       | false=>
         have HPd:=hid (show out++[[]]=pathL hv (cutL 47 R.data.toList) by rw [<- HPc.out,if_neg (by decide),stepP1' hd]<;>rfl);have HO4:=HO3b;have HB4:=HB3;rw [hd];clear hd
         go_wp2_with (at_builtin;go_must (refine wpList_append_own _ rfl _ _ 22 rfl w.heap.size 9 i0 (.string ⟨#[]⟩) 1 16 Tryz.underlying22 hi hz0 hz1 hz2 rfl (by decide) _ _ _ rfl (HO4.out.alloc _) ⟨w3.heap.size,0,none⟩ 1 1 [.string ⟨#[]⟩] rfl rfl ?c1 ?c2 ?c3 ?c4 ?c5 ?_))
         case c1=>
          intro q u hq
          match q,hq with
          | 0,hq=>simp at hq;subst hq;simp [Addr.add]
         case c2=>intro u hu;simp at hu;subst hu;rfl
         case c3=>unfold maxLen;first | omega | (simp<;>omega)
         case c4=>first | omega | (simp<;>omega)
         case c5=>simp;omega
         intro v' w5 hown' hgrow hnil;have HO5:=hid hown';have HB5:=hid (show Below w.heap.size w w5 from (HB4.out.alloc HB4.out.size _).grown hgrow (by simp;omega) (fun g hg=>(HO4.out.lt g hg).1));clear hown' hgrow hnil
         go_wp2
         go_roundw
         case rel=>
          refine ⟨out++[[]],B,false,k2,rfl,rfl,hk2a,by first | omega | (simp<;>omega),fun h=>Bool.noConfusion h,?_,HB5.out,HPd.out⟩;rw [cellsS_app,List.length_append]
          exact HO5.out
         case measure=>simp
      ·cases out with
       | nil=>
         have HO3b:=HO3;obtain ⟨sa,sc,hsv⟩:=own_zero HO3.out
         subst hsv
         cases mo2 with
         | true=>
           have hB1:=HBs.out rfl;have hK1:=HK2.out.2 rfl;have HPd:=hid (show pathL (([]:List (List UInt8))) (cutL 47 B.data.toList)=pathL hv (cutL 47 R.data.toList) by rw [<- HPc.out,if_pos rfl,stepP2 hd]<;>rfl);rw [hd];clear hd
           go_wp2
           go_roundw
           case rel=>exact ⟨([]:List (List UInt8)),B,true,k2,rfl,rfl,hk2a,by first | omega | (simp<;>omega),fun h=>by first | omega | (simp<;>omega),HO3b.out,HB3.out,HPd.out⟩
           case measure=>
            simp;omega
         | false=>
           have HPd:=hid (show ([]:List (List UInt8))++[[]]=pathL hv (cutL 47 R.data.toList) by rw [<- HPc.out,if_neg (by decide),stepP2' hd]<;>rfl);have HO4:=HO3b;have HB4:=HB3;rw [hd];clear hd
           go_wp2_with (at_builtin;go_must (refine wpList_append_own _ rfl _ _ 22 rfl w.heap.size 9 i0 (.string ⟨#[]⟩) 1 16 Tryz.underlying22 hi hz0 hz1 hz2 rfl (by decide) _ _ _ rfl (HO4.out.alloc _) ⟨w3.heap.size,0,none⟩ 1 1 [.string ⟨#[]⟩] rfl rfl ?c1 ?c2 ?c3 ?c4 ?c5 ?_))
           case c1=>
            intro q u hq
            match q,hq with
            | 0,hq=>simp at hq;subst hq;simp [Addr.add]
           case c2=>intro u hu;simp at hu;subst hu;rfl
           case c3=>unfold maxLen;first | omega | (simp<;>omega)
           case c4=>first | omega | (simp<;>omega)
           case c5=>simp;omega
           intro v' w5 hown' hgrow hnil;have HO5:=hid hown';have HB5:=hid (show Below w.heap.size w w5 from (HB4.out.alloc HB4.out.size _).grown hgrow (by simp;omega) (fun g hg=>(HO4.out.lt g hg).1));clear hown' hgrow hnil
           go_wp2
           go_roundw
           case rel=>
            refine ⟨([]:List (List UInt8))++[[]],B,false,k2,rfl,rfl,hk2a,by first | omega | (simp<;>omega),fun h=>Bool.noConfusion h,?_,HB5.out,HPd.out⟩;rw [cellsS_app,List.length_append]
            exact HO5.out
           case measure=>simp
       | cons x xs=>
         obtain ⟨g,cap,hvv,hc1,hc2⟩:=own_nonnil (n:=xs.length) HO3.out
         subst hvv;have HO3b:=hid (show w3.ownsRow w.heap.size 9 1 (.slice (some ⟨g,0,none⟩) xs.length cap) ((x::xs).dropLast).length (cellsS (x::xs).dropLast) by
          have:=own_drop HO3.out rfl;rw [List.length_dropLast];exact this)
         have hdl:((x::xs).dropLast).length=xs.length:=by simp
         have hxl:xs.length+1<=hv.length+k:=by simpa using hol2
         cases mo2 with
         | true=>
           have hB1:=HBs.out rfl;have hK1:=HK2.out.2 rfl;have HPd:=hid (show pathL ((x::xs).dropLast) (cutL 47 B.data.toList)=pathL hv (cutL 47 R.data.toList) by rw [<- HPc.out,if_pos rfl,stepP2 hd]<;>rfl);rw [hd];clear hd
           go_wp2
           go_roundw
           case rel=>exact ⟨(x::xs).dropLast,B,true,k2,rfl,rfl,hk2a,by first | omega | (simp<;>omega),fun h=>by first | omega | (simp<;>omega),HO3b.out,HB3.out,HPd.out⟩
           case measure=>
            simp;omega
         | false=>
           have HPd:=hid (show (x::xs).dropLast++[[]]=pathL hv (cutL 47 R.data.toList) by rw [<- HPc.out,if_neg (by decide),stepP2' hd]<;>rfl);have HO4:=HO3b;have HB4:=HB3;rw [hd];clear hd
           go_wp2_with (at_builtin;go_must (refine wpList_append_own _ rfl _ _ 22 rfl w.heap.size 9 i0 (.string ⟨#[]⟩) 1 16 Tryz.underlying22 hi hz0 hz1 hz2 rfl (by decide) _ _ _ rfl (HO4.out.alloc _) ⟨w3.heap.size,0,none⟩ 1 1 [.string ⟨#[]⟩] rfl rfl ?c1 ?c2 ?c3 ?c4 ?c5 ?_))
           case c1=>
            intro q u hq
            match q,hq with
            | 0,hq=>simp at hq;subst hq;simp [Addr.add]
           case c2=>intro u hu;simp at hu;subst hu;rfl
           case c3=>unfold maxLen;first | omega | (simp<;>omega)
           case c4=>first | omega | (simp<;>omega)
           case c5=>simp;omega
           intro v' w5 hown' hgrow hnil;have HO5:=hid hown';have HB5:=hid (show Below w.heap.size w w5 from (HB4.out.alloc HB4.out.size _).grown hgrow (by simp;omega) (fun g hg=>(HO4.out.lt g hg).1));clear hown' hgrow hnil
           go_wp2
           go_roundw
           case rel=>
            refine ⟨(x::xs).dropLast++[[]],B,false,k2,rfl,rfl,hk2a,by first | omega | (simp<;>omega),fun h=>Bool.noConfusion h,?_,HB5.out,HPd.out⟩;rw [cellsS_app,List.length_append]
            rw [hdl];exact HO5.out
           case measure=>simp
def adrCells (u:Adr) (pv:Value):List Value:=
 [.string ⟨u.scheme.toArray⟩,.string ⟨u.user.toArray⟩,.string ⟨u.pass.toArray⟩,.string ⟨u.host.toArray⟩,.bool u.hasHost,.int .i64 u.port,.bool u.opq,pv,.string ⟨u.query.toArray⟩,.string ⟨u.fragment.toArray⟩,.bool u.hasQuery,.bool u.hasFragment]
def adrVal (u:Adr) (pv:Value):Value:= .agg (adrCells u pv).toArray
theorem sizeU:(Tryz.prog.info? 24).map (·.size)=some 12:=by kernel_rfl
theorem sizeUl (u:Adr) (pv:Value):(Tryz.prog.info? 24).map (·.size)=some (adrCells u pv).length:=sizeU
theorem sizeUa (u:Adr) (pv:Value):(Tryz.prog.info? 24).map (·.size)=some (adrCells u pv).toArray.size:=sizeU
def IsSl (v:Value):Prop:= ∃ a n c,v = .slice a n c
theorem adrCells_one (u:Adr) (pv:Value) (hp:IsSl pv): ∀ v ∈ adrCells u pv,v.oneCell'=true:=by
 obtain ⟨a,n,c,rfl⟩:=hp
 intro v hv;simp only [adrCells,List.mem_cons,List.not_mem_nil,or_false] at hv
 rcases hv with rfl | rfl | rfl | rfl | rfl | rfl | rfl | rfl | rfl | rfl | rfl | rfl<;>rfl
def AdrIn (w:World) (b:Nat) (u:Adr) (pv:Value):Prop:=w.heap[b]? = some (.cells (adrCells u pv).toArray 24 (0,0))
theorem AdrIn.lt {w:World} {b:Nat} {u:Adr} {pv:Value} (h:AdrIn w b u pv):b<w.heap.size:=(Array.getElem?_eq_some_iff.1 h).1
theorem AdrIn.kept {w w':World} {b:Nat} {u:Adr} {pv:Value} (h:AdrIn w b u pv) (hb:Below w.heap.size w w'):AdrIn w' b u pv:=by
 unfold AdrIn;rw [hb.block b h.lt];exact h
theorem AdrIn.there {w:World} {b:Nat} {u:Adr} {pv:Value} (h:AdrIn w b u pv):w.there b 0 12:=there_row h (Nat.le_refl _)
theorem AdrIn.cell {w:World} {b:Nat} {u:Adr} {pv:Value} (h:AdrIn w b u pv) (j:Nat) (v:Value) (hv:(adrCells u pv)[j]? = some v):w.cell? ⟨b,j,none⟩=some v:=by
 rw [Lib.cell_of_heap h];simpa using hv
theorem AdrIn.frozen {w:World} {b:Nat} {u:Adr} {pv:Value} (h:AdrIn w b u pv) (j:Nat):w.frozen? ⟨b,j,none⟩=false:=by
 simp [World.frozen?,show w.heap[b]? = _ from h]
theorem results_u1 {fn:Func} {p:Tmp} (h:fn.results = #[.cell p 24]) (tmps:Array Value) (w:World) (b:Nat) (u:Adr) (pv:Value) (hp:tmps.getD p undef = .pointer (some ⟨b,0,none⟩)) (hc:w.rangeAt b 0 (adrCells u pv)):(results fn tmps).run Tryz.prog w = .ok (adrVal u pv) w:=by
 rw [Array.getD_eq_getD_getElem?] at hp;simp only [results,h]
 simp [Sem.run_bind,Result.andThen,hp,asAddr,run_loadVar_mid w b 0 24 (adrCells u pv) _ hc Tryz.underlying24 rfl (sizeUl u pv),adrVal]
theorem results_u2 {fn:Func} {p q:Tmp} (h:fn.results = #[.cell p 24,.tmp q]) (tmps:Array Value) (w:World) (b:Nat) (u:Adr) (pv:Value) (hp:tmps.getD p undef = .pointer (some ⟨b,0,none⟩)) (hc:w.rangeAt b 0 (adrCells u pv)):(results fn tmps).run Tryz.prog w = .ok (.tuple #[adrVal u pv,tmps.getD q undef]) w:=by
 rw [Array.getD_eq_getD_getElem?] at hp;simp only [results,h]
 simp [Sem.run_bind,Result.andThen,hp,asAddr,run_loadVar_mid w b 0 24 (adrCells u pv) _ hc Tryz.underlying24 rfl (sizeUl u pv),adrVal]
theorem results_u3 {fn:Func} {p q r:Tmp} (h:fn.results = #[.cell p 24,.tmp q,.tmp r]) (tmps:Array Value) (w:World) (b:Nat) (u:Adr) (pv:Value) (hp:tmps.getD p undef = .pointer (some ⟨b,0,none⟩)) (hc:w.rangeAt b 0 (adrCells u pv)):(results fn tmps).run Tryz.prog w = .ok (.tuple #[adrVal u pv,tmps.getD q undef,tmps.getD r undef]) w:=by
 rw [Array.getD_eq_getD_getElem?] at hp;simp only [results,h]
 simp [Sem.run_bind,Result.andThen,hp,asAddr,run_loadVar_mid w b 0 24 (adrCells u pv) _ hc Tryz.underlying24 rfl (sizeUl u pv),adrVal]
theorem setCells_heap (b:Nat) (t:TypeId) (f:Nat×Nat): ∀ (vs:List Value) (o:Nat) (w:World) (C:Array Value),w.heap[b]? = some (.cells C t f) -> ∃ C',(w.setCells b o vs).heap[b]? = some (.cells C' t f)/\C'.size=C.size/\(∀ j,j<o->C'[j]? = C[j]?) /\ ∀ j,j<vs.length->o+j<C.size->C'[o+j]? = vs[j]?
 | [],o,w,C,h=>⟨C,h,rfl,fun _ _=>rfl,fun j hj=>by simp at hj⟩
 | v::r,o,w,C,h=>by
   rw [World.setCells];have h1:=Lib.heap_setCell_same h (i:=o) v;obtain ⟨C',e1,e2,e3,e4⟩:=setCells_heap b t f r (o+1) _ _ h1
   refine ⟨C',e1,by rw [e2];simp,fun j hj=> ?_,fun j hj hjc=> ?_⟩
   ·rw [e3 j (by omega),Array.getElem?_setIfInBounds,if_neg (by omega)]
   ·match j with
    | 0=>
      rw [Nat.add_zero,e3 o (by omega),Array.getElem?_setIfInBounds,if_pos rfl]
      have:o<C.size:=by omega
      simp [this]
    | j+1=>
      have:=e4 j (by simp at hj;omega) (by simp;omega)
      rw [show o+(j+1)=o+1+j by omega,this];rfl
theorem AdrIn.store {w:World} {b:Nat} {u v:Adr} {pv qv:Value} (h:AdrIn w b u pv):AdrIn (w.setCells b 0 (adrCells v qv)) b v qv:=by
 obtain ⟨C',e1,e2,_,e4⟩:=setCells_heap b 24 (0,0) (adrCells v qv) 0 w _ h
 unfold AdrIn;rw [e1];have:C'=(adrCells v qv).toArray:=by
  apply Array.ext_getElem?;intro j;by_cases hj:j<12
  ·have:=e4 j hj (by rw [Nat.zero_add];exact hj)
   rw [Nat.zero_add] at this;rw [this];simp
  ·have h2:C'.size=12:=by rw [e2];rfl
   rw [Array.getElem?_eq_none (by omega),Array.getElem?_eq_none (by simp [adrCells];omega)]
 rw [this]
theorem begin_any (s:ByteArray) (w:World) (hg:Gd w) (hs:s.size<=4096):
 Calls Tryz.prog 149 #[.string s] w fun e w'=>e = .returned (.tuple #[adrVal (beginU s.data.toList).1 (.slice none 0 0),.string ⟨(beginU s.data.toList).2.toArray⟩,.int .i64 0])/\Below w.heap.size w w':=by
 have HG:=hid hg;clear hg;have hs': ¬ (4096:Int)<(s.size:Int):=by omega
 have hcl:=clean_le s.data.toList;obtain ⟨C,hC⟩: ∃ C:ByteArray,C=⟨(cleanV s.data.toList).toArray⟩:=⟨_,rfl⟩
 have hCl:C.data.toList=cleanV s.data.toList:=by rw [hC]
 have hCs:C.size<=4096:=by rw [hC];exact size_le hcl hs
 have hpl:=part_le 35 C.data.toList;obtain ⟨A,hA⟩: ∃ A:ByteArray,A=⟨(part 35 C.data.toList).1.toArray⟩:=⟨_,rfl⟩
 obtain ⟨F,hF⟩: ∃ F:ByteArray,F=⟨(part 35 C.data.toList).2.1.toArray⟩:=⟨_,rfl⟩
 obtain ⟨hf,hhf⟩: ∃ b,b=(part 35 C.data.toList).2.2:=⟨_,rfl⟩
 have hAl:A.data.toList=(part 35 C.data.toList).1:=by rw [hA]
 have hFl:F.data.toList=(part 35 C.data.toList).2.1:=by rw [hF]
 have hAs:A.size<=4096:=by rw [hA];exact size_le hpl.1 hCs
 have hFs:F.size<=4096:=by rw [hF];exact size_le hpl.2 hCs
 have HCut:Hid (∀ w:World,Gd w->Calls Tryz.prog 19 #[.string C,.string ⟨#[35]⟩] w fun e w'=>e = .returned (.tuple #[.string A,.string F,.bool hf])/\Below w.heap.size w w'):=fun w hg=>by
  have:=cut_any C ⟨#[35]⟩ w hg (by omega)
  rw [show (⟨#[35]⟩:ByteArray).data.toList=[35] from rfl,cut_part,<- hA,<- hF,<- hhf] at this;exact this
 have HV:=hid (show beginU s.data.toList=(⟨(cutS A.data.toList).1,[],[],[],false,-1,false,[],[],pct 2 F.data.toList,false,hf⟩,(cutS A.data.toList).2) by
  unfold beginU;rw [<- hCl,hAl,hFl,hhf];rfl)
 obtain ⟨sc,rs,hcs⟩: ∃ a b,cutS A.data.toList=(a,b):=⟨_,_,rfl⟩
 obtain ⟨fr,hfr⟩: ∃ fr,pct 2 F.data.toList=fr:=⟨_,rfl⟩
 have HSch:Hid (∀ w:World,Gd w->Calls Tryz.prog 179 #[.string A] w fun e w'=>e = .returned (.tuple #[.string ⟨sc.toArray⟩,.string ⟨rs.toArray⟩])/\Below w.heap.size w w'):=fun w hg=>by
  have:=cutScheme_any A w hg (by omega)
  rw [hcs] at this;exact this
 have HPct:Hid (∀ w:World,Calls Tryz.prog 153 #[.string F,.int .i64 2] w fun e w'=>e = .returned (.string ⟨fr.toArray⟩)/\Below w.heap.size w w'):=fun w=>by
  have:=percent_any F 2 w (by omega)
  rw [hfr] at this;exact this
 have HV2:=hid (show beginU s.data.toList=(⟨sc,[],[],[],false,-1,false,[],[],fr,false,hf⟩,rs) by rw [HV.out,hcs,hfr]);have HCx:=hid hC;clear hC hCl hcs hfr HV hpl hA hF hhf hAl hFl hcl
 go_enter Tryz.func149,Tryz.ntmps149
 go_wp2_with fail
 have h0:AdrIn (w.alloc (.cells (adrCells Adr.zero (.slice none 0 0)).toArray 24)) w.heap.size Adr.zero (.slice none 0 0):=heap_alloc_new w _;have hb0:Below w.heap.size w (w.alloc (.cells (adrCells Adr.zero (.slice none 0 0)).toArray 24)):=(Below.refl _ w).alloc (Nat.le_refl _) _;refine (cleaned_any s _ (by omega)).mono ?_;rintro e w1 ⟨rfl,hb1⟩
 have H1:=hid (h0.kept hb1);have HB1:=hid (hb0.trans (hb1.mono hb0.size));clear h0 hb0 hb1;rw [<- HCx.out]
 go_wp2_with fail
 refine (HCut.out _ (HG.out.kept HB1.out)).mono ?_;rintro e w2 ⟨rfl,hb2⟩
 have H2:=hid (H1.out.kept hb2);have HB2:=hid (below2 HB1.out hb2);clear hb2
 go_wp2_with fail
 refine (HSch.out w2 (HG.out.kept HB2.out)).mono ?_;rintro e w3 ⟨rfl,hb3⟩
 have H3:=hid (H2.out.kept hb3);have HB3:=hid (below2 HB2.out hb3);clear hb3
 go_wp2_with fail
 refine (HPct.out w3).mono ?_;rintro e w4 ⟨rfl,hb4⟩
 have H4:=hid (H3.out.kept hb4);have HB4:=hid (below2 HB3.out hb4);clear hb4
 go_wp2_with (refine wpList_store_mid rfl 24 (.tmp 2) (.tmp 30) rfl w.heap.size 0 (adrCells ⟨sc,[],[],[],false,-1,false,[],[],fr,false,hf⟩ (.slice none 0 0)).toArray rfl rfl H4.out.there (sizeUa _ _) (all_oneCell_toArray (adrCells_one _ _ ⟨_,_,_,rfl⟩)) ?_)
 refine bodyPost_ret (results_u3 rfl _ _ w.heap.size ⟨sc,[],[],[],false,-1,false,[],[],fr,false,hf⟩ (.slice none 0 0) rfl (range_row H4.out.store)) rfl ⟨?_,below_setCells (Nat.le_refl _) _ _ _ HB4.out⟩
 rw [HV2.out];rfl
theorem AdrIn.set {w:World} {b:Nat} {u v:Adr} {pv qv:Value} (h:AdrIn w b u pv) (j:Nat) (x:Value) (hx:(adrCells u pv).set j x=adrCells v qv):AdrIn (w.setCell ⟨b,j,none⟩ x) b v qv:=by
 unfold AdrIn;rw [Lib.heap_setCell_same h,<- hx];simp
def authE:Except Int (List UInt8×List UInt8×List UInt8×Int)->Int
 | .ok _=>0
 | .error e=>e
def authU (u:Adr):Except Int (List UInt8×List UInt8×List UInt8×Int)->Adr
 | .ok (a,b,h,p)=>{ u with user:=a,pass:=b,host:=h,hasHost:=true,port:=p }
 | .error _=>u
def AuthPost (b:Nat) (u:Adr) (pv:Value) (r:Except Int (List UInt8×List UInt8×List UInt8×Int)) (w:World) (e:Ending) (w':World):Prop:=
 e = .returned (.int .i64 (authE r))/\Below b w w'/\(authE r=0->AdrIn w' b (authU u r) pv)
theorem auth_port {sc s:List UInt8} (h:portV (ownV sc) (((atV s).2.drop (colV (atV s).2)).drop 1)=none):authV sc s = .error 11:=by rw [authV,h]
theorem auth_host {sc s:List UInt8} {p:Int} (h:portV (ownV sc) (((atV s).2.drop (colV (atV s).2)).drop 1)=some p) (h2:parseV ((atV s).2.take (colV (atV s).2)) (specV sc)=none):authV sc s = .error 10:=by rw [authV,h];simp only;rw [h2]
theorem auth_empty {sc s h:List UInt8} {p:Int} (h1:portV (ownV sc) (((atV s).2.drop (colV (atV s).2)).drop 1)=some p) (h2:parseV ((atV s).2.take (colV (atV s).2)) (specV sc)=some h) (h3:h=[]/\(pct 6 (part 58 (atV s).1).1≠[]∨pct 6 (part 58 (atV s).1).2.1≠[]∨((atV s).2.drop (colV (atV s).2)).drop 1≠[])):authV sc s = .error 10:=by rw [authV,h1];simp only;rw [h2];simp only;rw [if_pos h3]
theorem auth_ok {sc s h:List UInt8} {p:Int} (h1:portV (ownV sc) (((atV s).2.drop (colV (atV s).2)).drop 1)=some p) (h2:parseV ((atV s).2.take (colV (atV s).2)) (specV sc)=some h) (h3: ¬ (h=[]/\(pct 6 (part 58 (atV s).1).1≠[]∨pct 6 (part 58 (atV s).1).2.1≠[]∨((atV s).2.drop (colV (atV s).2)).drop 1≠[]))):authV sc s = .ok (pct 6 (part 58 (atV s).1).1,pct 6 (part 58 (atV s).1).2.1,h,p):=by rw [authV,h1];simp only;rw [h2];simp only;rw [if_neg h3]
theorem colN_le (L:Nat): ∀ (l:List UInt8) (b:Bool) (i k:Nat),k<=L->i+l.length<=L->colN b i k l<=L
 | [],b,i,k,hk,_=>by cases b<;>exact hk
 | c::l,false,i,k,hk,hl=>by
   rw [colN];simp at hl;split
   ·exact colN_le L l false (i+1) i (by omega) (by omega)
   ·split
    ·exact colN_le L l true (i+1) k hk (by omega)
    ·exact colN_le L l false (i+1) k hk (by omega)
 | c::l,true,i,k,hk,hl=>by
   rw [colN];simp at hl;split
   ·exact colN_le L l false (i+1) k hk (by omega)
   ·exact colN_le L l true (i+1) k hk (by omega)
theorem colV_le (l:List UInt8):colV l<=l.length:=colN_le l.length l false 0 l.length (Nat.le_refl _) (by omega)
theorem colN_at (s:List UInt8): ∀ (l:List UInt8) (b:Bool) (i k:Nat),s.drop i=l->(k=s.length∨s[k]? = some 58)->(colN b i k l=s.length∨s[colN b i k l]? = some 58)
 | [],b,i,k,_,hk=>by cases b<;>exact hk
 | c::l,b,i,k,e,hk=>by
   have hi:i<s.length:=by
    rcases Nat.lt_or_ge i s.length with h | h
    ·exact h
    ·rw [List.drop_of_length_le h] at e;cases e
   have e2:s[i]=c/\s.drop (i+1)=l:=by
    rw [List.drop_eq_getElem_cons hi] at e;injection e with h1 h2
    exact ⟨h1,h2⟩
   cases b with
   | false=>
     rw [colN];split
     ·rename_i h
      exact colN_at s l false (i+1) i e2.2 (.inr (by rw [List.getElem?_eq_getElem hi,e2.1,h]))
     ·split
      ·exact colN_at s l true (i+1) k e2.2 hk
      ·exact colN_at s l false (i+1) k e2.2 hk
   | true=>
     rw [colN];split
     ·exact colN_at s l false (i+1) k e2.2 hk
     ·exact colN_at s l true (i+1) k e2.2 hk
theorem colV_at (s:List UInt8):colV s=s.length∨s[colV s]? = some 58:=colN_at s s false 0 s.length rfl (.inl rfl)
theorem trim_colon (s:List UInt8):Lib.trimPrefix (s.drop (colV s)) [58]=(s.drop (colV s)).drop 1:=by
 rcases colV_at s with h | h
 ·rw [h,List.drop_of_length_le (Nat.le_refl _)];rfl
 ·obtain ⟨hlt,hc⟩:=List.getElem?_eq_some_iff.1 h
  rw [List.drop_eq_getElem_cons hlt,hc];simp [Lib.trimPrefix,Lib.hasPrefix]
theorem at_le (l:List UInt8):(atV l).1.length<=l.length/\(atV l).2.length<=l.length:=by
 unfold atV;split
 ·simp only [List.length_reverse]
  constructor
  ·refine Nat.le_trans (List.drop_suffix 1 _).length_le ?_
   refine Nat.le_trans (List.dropWhile_suffix _).length_le ?_;simp
  ·refine Nat.le_trans (List.takeWhile_prefix _).length_le ?_
   simp
 ·simp
end Go.Proofs.YtijpkalkfbejeaaGreatDoor
