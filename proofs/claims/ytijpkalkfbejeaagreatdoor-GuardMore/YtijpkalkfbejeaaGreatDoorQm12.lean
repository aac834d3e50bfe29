/- Walks and plain facts. -/
import Derived.Test.YtijpkalkfbejeaaGreatDoorQm11
set_option linter.unusedSimpArgs false
set_option linter.unusedVariables false
set_option maxHeartbeats 16000000
set_option maxRecDepth 100000

namespace Go.Proofs.YtijpkalkfbejeaaGreatDoor
theorem joined_nil:joined []=[]:=by simp [joined,Lib.join,List.intercalate]
theorem joined_one (n:Nat):joined [n]=hex16 n:=by simp [joined,Lib.join,List.intercalate]
theorem joined_cons (a b:Nat) (l:List Nat):joined (a::b::l)=hex16 a++([58]++joined (b::l)):=by simp [joined,Lib.join,List.intercalate]
theorem joined_snoc: ∀ (l:List Nat) (n:Nat),l≠[]->joined (l++[n])=joined l++([58]++hex16 n)
 | [],_,h=>absurd rfl h
 | [a],n,_=>by
   show joined (a::n::[])=_;rw [joined_cons,joined_one,joined_one]
 | a::b::l,n,_=>by
   show joined (a::b::(l++[n]))=_;have:=joined_snoc (b::l) n (by simp)
   rw [joined_cons,joined_cons]
   rw [show b::(l++[n])=(b::l)++[n] from rfl,this];simp
theorem hex16_no58 (n:Nat):58 ∉ hex16 n:=by
 intro h;have hall:=digsN_all (fun c=>c != 58) 16 (by omega) (by decide) 4 n [] rfl
 have:=List.all_eq_true.1 hall 58 h;simp at this
theorem hex16_ne (n:Nat):hex16 n≠[]:=digsN_ne 16 4 n [] (.inr (by decide))
theorem last_of (l:List UInt8) (h:l≠[]): ∃ A c,l=A++[c]:=⟨l.dropLast,l.getLast h,(List.dropLast_concat_getLast h).symm⟩
def EndsWell (T:List UInt8):Prop:= ∃ A c,T=A++[c]/\c≠58
theorem EndsWell.app (P:List UInt8) {T:List UInt8} (h:EndsWell T):EndsWell (P++T):=by
 obtain ⟨A,c,e,hc⟩:=h
 exact ⟨P++A,c,by rw [e,List.append_assoc],hc⟩
theorem hex16_ends (n:Nat):EndsWell (hex16 n):=by
 obtain ⟨A,c,e⟩:=last_of _ (hex16_ne n)
 refine ⟨A,c,e,fun hc=>hex16_no58 n ?_⟩
 rw [e,hc];simp
theorem joined_ends (l:List Nat) (h:l≠[]):EndsWell (joined l):=by
 have e:l=l.dropLast++[l.getLast h]:=(List.dropLast_concat_getLast h).symm;rw [e];by_cases h0:l.dropLast=[]
 ·rw [h0,List.nil_append,joined_one];exact hex16_ends _
 ·rw [joined_snoc _ _ h0]
  exact ((hex16_ends _).app [58]).app _
def t6 (x:List Nat) (fr tu i:Nat):List UInt8:=
 if fr=tu∨i<=fr then joined (x.take i) else joined (x.take fr)++([58,58]++joined ((x.take i).drop tu))
theorem t6_step (x:List Nat) (fr tu i:Nat) (hi:i<x.length) (hft:fr<=tu) (hc:fr=tu∨i<fr∨tu<=i):
 (t6 x fr tu i=[]/\t6 x fr tu (i+1)=hex16 x[i])∨((∃ A,t6 x fr tu i=A++[58])/\t6 x fr tu (i+1)=t6 x fr tu i++hex16 x[i])∨(EndsWell (t6 x fr tu i)/\t6 x fr tu (i+1)=t6 x fr tu i++([58]++hex16 x[i])):=by
 have htk:x.take (i+1)=x.take i++[x[i]]:=(List.take_append_getElem hi).symm;by_cases hA:fr=tu∨i<fr
 ·have h1:t6 x fr tu i=joined (x.take i):=by rw [t6,if_pos (by omega)]
  have h2:t6 x fr tu (i+1)=joined (x.take i++[x[i]]):=by rw [t6,if_pos (by omega),htk]
  rw [h1,h2]
  by_cases h0:i=0
  ·left
   subst h0;rw [List.take_zero];exact ⟨joined_nil,by rw [List.nil_append,joined_one]⟩
  ·right;right
   have hne:x.take i≠[]:=by
    intro h;have:=congrArg List.length h;rw [List.length_take,List.length_nil] at this;omega
   exact ⟨joined_ends _ hne,joined_snoc _ _ hne⟩
 ·have hti:tu<=i:=by omega
  have h1:t6 x fr tu i=joined (x.take fr)++([58,58]++joined ((x.take i).drop tu)):=by rw [t6,if_neg (by omega)]
  have h2:t6 x fr tu (i+1)=joined (x.take fr)++([58,58]++joined ((x.take i).drop tu++[x[i]])):=by
   rw [t6,if_neg (by omega),htk,List.drop_append_of_le_length (by simp;omega)]
  rw [h1,h2]
  by_cases h0:i=tu
  ·right;left
   have hd:(x.take i).drop tu=[]:=List.drop_eq_nil_of_le (by simp;omega)
   rw [hd,joined_nil,List.nil_append,joined_one]
   exact ⟨⟨joined (x.take fr)++[58],by simp⟩,by simp⟩
  ·right;right
   have hne:(x.take i).drop tu≠[]:=by
    intro h;have:=congrArg List.length h;simp at this;omega
   refine ⟨((joined_ends _ hne).app _).app _,?_⟩;rw [joined_snoc _ _ hne];simp
theorem t6_mark (x:List Nat) (fr tu:Nat) (h:fr<tu) (hx:tu<=x.length):t6 x fr tu tu=t6 x fr tu fr++[58,58]:=by
 have hd:(x.take tu).drop tu=[]:=List.drop_eq_nil_of_le (by simp;omega)
 rw [t6,if_neg (by omega),t6,if_pos (by omega),hd,joined_nil];simp
theorem t6_end (x:List Nat) (hx:x.length=8) (hl:(lrun x).1=(lrun x).2∨(lrun x).1<(lrun x).2) (h2:(lrun x).2<=8):t6 x (lrun x).1 (lrun x).2 8=text6 x:=by
 have h8:x.take 8=x:=List.take_of_length_le (by omega)
 unfold text6;by_cases h:(lrun x).1=(lrun x).2
 ·rw [if_pos h,t6,if_pos (.inl h),h8]
 ·rw [if_neg h,t6,if_neg (by omega),h8]
theorem t6_le (x:List Nat) (fr tu i:Nat) (hx:x.length=8):(t6 x fr tu i).length<=200:=by
 unfold t6;split
 ·have:=joined_le (x.take i)
  have h2:(x.take i).length<=8:=by simp;omega
  omega
 ·have h1:=joined_le (x.take fr)
  have h3:=joined_le ((x.take i).drop tu);have h2:(x.take fr).length<=8:=by simp;omega
  have h4:((x.take i).drop tu).length<=8:=by simp;omega
  simp only [List.length_append,List.length_cons,List.length_nil]
  omega
def noPair:List UInt8->Bool
 | a::b::l=> !(a==58&&b==58)&&noPair (b::l)
 | _=>true
theorem index2_none: ∀ (l:List UInt8),noPair l=true->Lib.index l [58,58] = -1
 | [],_=>rfl
 | [a],_=>by
   unfold Lib.index;rw [index2_none [] rfl];simp [List.isPrefixOf]
 | a::b::l,h=>by
   simp only [noPair,Bool.and_eq_true] at h
   unfold Lib.index;rw [index2_none (b::l) h.2];have:[58,58].isPrefixOf (a::b::l)=false:=by
    simp [List.isPrefixOf];have:=h.1;simp at this;intro e e2;rcases this with h | h
    ·exact h e.symm
    ·exact h e2.symm
   rw [this];rfl
theorem index2_some: ∀ (a r:List UInt8),noPair (a++[58])=true->Lib.index (a++58::58::r) [58,58]=a.length
 | [],r,_=>by unfold Lib.index;simp [List.isPrefixOf]
 | x::a,r,h=>by
   have hx:[58,58].isPrefixOf (x::(a++58::58::r))=false:=by
    cases a with
    | nil=>
      simp [noPair] at h;simp [List.isPrefixOf];exact fun e=>h e.symm
    | cons y a=>
      have h':noPair (x::y::(a++[58]))=true:=h;simp only [noPair,Bool.and_eq_true] at h'
      have:=h'.1;simp at this;simp [List.isPrefixOf];intro e e2;rcases this with h | h
      ·exact h e.symm
      ·exact h e2.symm
   have h2:noPair (a++[58])=true:=by
    cases a with
    | nil=>rfl
    | cons y a=>
      have h':noPair (x::y::(a++[58]))=true:=h;simp only [noPair,Bool.and_eq_true] at h'
      exact h'.2
   rw [List.cons_append];unfold Lib.index;rw [index2_some a r h2,hx];have h1:((a.length:Int) == -1)=false:=by rw [beq_eq_false_iff_ne];omega
   simp [h1]
theorem cut2_none (l:List UInt8) (h:noPair l=true):Lib.cut l [58,58]=(l,[],false):=by
 unfold Lib.cut;rw [index2_none l h];rfl
theorem cut2_some (a r:List UInt8) (h:noPair (a++[58])=true):Lib.cut (a++([58,58]++r)) [58,58]=(a,r,true):=by
 unfold Lib.cut;rw [show a++([58,58]++r)=a++58::58::r from rfl,index2_some a r h];simp
def fold16 (n:Nat) (l:List UInt8):Nat:=l.foldl (fun a c=>a*16+dig16 c) n
def cutL (c:UInt8):List UInt8->List (List UInt8)
 | []=>[[]]
 | x::l=>if x=c then []::cutL c l else match cutL c l with
   | []=>[[x]]
   | h::t=>(x::h)::t
theorem cutL_ne (c:UInt8) (l:List UInt8):cutL c l≠[]:=by
 cases l with
 | nil=>simp [cutL]
 | cons x l=>
   rw [cutL];split
   ·simp
   ·split<;>simp
theorem cutL_none (c:UInt8): ∀ l:List UInt8,c ∉ l->cutL c l=[l]
 | [],_=>rfl
 | x::l,h=>by
   rw [cutL,if_neg (fun e=>h (by simp [e])),cutL_none c l (fun e=>h (by simp [e]))]
theorem cutL_some (c:UInt8): ∀ (a r:List UInt8),c ∉ a->cutL c (a++c::r)=a::cutL c r
 | [],r,_=>by rw [List.nil_append,cutL,if_pos rfl]
 | x::a,r,h=>by
   rw [List.cons_append,cutL,if_neg (fun e=>h (by simp [e])),cutL_some c a r (fun e=>h (by simp [e]))]
theorem first_split (c:UInt8): ∀ l:List UInt8,c ∉ l ∨ ∃ a r,c ∉ a/\l=a++c::r
 | []=> .inl (by simp)
 | x::l=>by
   by_cases hx:x=c
   ·exact .inr ⟨[],l,by simp,by simp [hx]⟩
   ·rcases first_split c l with h | ⟨a,r,ha,rfl⟩
    ·exact .inl (by simp [h];exact fun e=>hx e.symm)
    ·exact .inr ⟨x::a,r,by simp [ha];exact fun e=>hx e.symm,rfl⟩
theorem cutL_ind (c:UInt8) {P:List UInt8->Prop} (h1: ∀ l,c ∉ l->P l) (h2: ∀ a r,c ∉ a->P r->P (a++c::r)): ∀ l,P l:=by
 intro l;generalize hn:l.length=n
 induction n using Nat.strongRecOn generalizing l with
 | _ n ih=>
   rcases first_split c l with h | ⟨a,r,ha,rfl⟩
   ·exact h1 l h
   ·exact h2 a r ha (ih r.length (by rw [<- hn];simp;omega) r rfl)
theorem cutL_snoc (c:UInt8): ∀ l:List UInt8,cutL c (l++[c])=cutL c l++[[]]:=
 cutL_ind c (fun l h=>by rw [cutL_some c l [] h,cutL_none c l h];rfl)
  (fun a r h ih=>by rw [List.append_assoc,List.cons_append,cutL_some c a _ h,ih,cutL_some c a r h];rfl)
theorem takeWhile_stop {α:Type} (p:α->Bool) (y:α) (hy:p y=false): ∀ (xs ys:List α),(xs++y::ys).takeWhile p=xs.takeWhile p
 | [],ys=>by simp [List.takeWhile,hy]
 | x::xs,ys=>by
   simp only [List.cons_append,List.takeWhile]
   split
   ·rw [takeWhile_stop p y hy xs ys]
   ·rfl
theorem lastLab_app (a r:List UInt8):lastLab (a++46::r)=lastLab r:=by
 unfold lastLab;rw [List.reverse_append,List.reverse_cons,List.append_assoc,List.singleton_append,takeWhile_stop _ 46 (by decide)]
theorem cutL_last: ∀ l:List UInt8,(cutL 46 l).getLast? = some (lastLab l):=
 cutL_ind 46 (fun l h=>by rw [cutL_none 46 l h,lastLab_none l (fun c hc e=>h (e ▸ hc))];rfl)
  (fun a r h ih=>by
    rw [cutL_some 46 a r h,lastLab_app,List.getLast?_cons,ih];rfl)
theorem lastLab_nil: ∀ l:List UInt8,lastLab l=[]->l=[] ∨ ∃ t,l=t++[46]:=by
 intro l h;rcases List.eq_nil_or_concat l with rfl | ⟨t,c,rfl⟩
 ·exact .inl rfl
 ·right
  refine ⟨t,?_⟩
  by_cases hc:c=46
  ·rw [hc];simp
  ·exfalso
   unfold lastLab at h;simp [hc] at h
def labL (l:List UInt8):List (List UInt8):=if 1<(cutL 46 l).length/\(cutL 46 l).getLast? = some [] then (cutL 46 l).dropLast else cutL 46 l
theorem labL_eq (l:List UInt8):labL l=cutL 46 (noDot l):=by
 unfold labL;by_cases h: ∃ t,l=t++[46]
 ·obtain ⟨t,rfl⟩:=h
  rw [noDot_dot,cutL_snoc]
  rw [if_pos]
  ·simp
  ·refine ⟨?_,by simp⟩
   have:=cutL_ne 46 t;have:0<(cutL 46 t).length:=List.length_pos_iff.2 this
   simp;omega
 ·rw [noDot_of l (fun t e=>h ⟨t,e⟩),if_neg]
  rintro ⟨h1,h2⟩
  rw [cutL_last] at h2;rcases lastLab_nil l (Option.some.inj h2) with rfl | h3
  ·simp [cutL] at h1
  ·exact h h3
def valC (cap base:Nat):Nat->List UInt8->Option Nat
 | n,[]=>some n
 | n,c::l=>if dig16 c<base then valC cap base (min (n*base+dig16 c) cap) l else none
theorem valN_isSome (base:Nat): ∀ (l:List UInt8) (n:Nat),(valN base n l).isSome=l.all fun c=>decide (dig16 c<base)
 | [],n=>rfl
 | c::l,n=>by
   rw [valN];by_cases h:dig16 c<base
   ·rw [if_pos h,valN_isSome base l];simp [h]
   ·rw [if_neg h];simp [h]
theorem valC_le (cap base:Nat): ∀ (l:List UInt8) (n m:Nat),n<=cap->valC cap base n l=some m->m<=cap
 | [],n,m,h,e=>by rw [valC] at e;injection e with e;omega
 | c::l,n,m,h,e=>by
   rw [valC] at e;split at e
   ·exact valC_le cap base l _ m (by omega) e
   ·cases e
theorem valC_N (cap base:Nat) (hb:1<=base) (hc:4294967296<=cap): ∀ (l:List UInt8) (n m:Nat),n=min m 4294967296->valN base n l=(valC cap base m l).map fun k=>min k 4294967296
 | [],n,m,h=>by rw [valN,valC,h];rfl
 | c::l,n,m,h=>by
   rw [valN,valC]
   by_cases hd:dig16 c<base
   ·rw [if_pos hd,if_pos hd]
    refine valC_N cap base hb hc l _ _ ?_;by_cases hm:m<4294967296
    ·have:n=m:=by omega
     subst this;omega
    ·have e:n=4294967296:=by omega
     subst e;have h1:4294967296*1<=4294967296*base:=Nat.mul_le_mul_left _ hb;have h2:4294967296*base<=m*base:=Nat.mul_le_mul_right _ (by omega)
     omega
   ·rw [if_neg hd,if_neg hd];rfl
def lid:Nat:=1099511627776
def rnumV (x:List UInt8):Option Nat:=
 if marked x then valC lid 16 0 (x.drop 2)
 else if 1<x.length/\x.head? = some 48 then valC lid 8 0 (x.drop 1)
 else if x=[] then none else valC lid 10 0 x
theorem rnumV_eq (x:List UInt8):numV x=(rnumV x).map fun k=>min k 4294967296:=by
 unfold numV rnumV;by_cases hm:marked x=true
 ·rw [if_pos hm,if_pos hm]
  exact valC_N lid 16 (by omega) (by decide) _ 0 0 rfl
 ·rw [if_neg hm,if_neg hm]
  match x with
  | []=>simp
  | [c]=>
    rw [if_neg (by simp)];simp only [List.cons_ne_nil,if_false]
    by_cases hc:c=48
    ·subst hc
     rw [if_pos rfl];rfl
    ·rw [if_neg hc]
     exact valC_N lid 10 (by omega) (by decide) _ 0 0 rfl
  | c::d::r=>
    simp only;by_cases hc:c=48
    ·subst hc
     rw [if_pos rfl,if_pos ⟨by simp,rfl⟩];exact valC_N lid 8 (by omega) (by decide) _ 0 0 rfl
    ·rw [if_neg hc,if_neg (by simp [hc])]
     simp only [reduceCtorEq,if_false]
     exact valC_N lid 10 (by omega) (by decide) _ 0 0 rfl
theorem rnumV_le (x:List UInt8) (n:Nat) (h:rnumV x=some n):n<=lid:=by
 unfold rnumV at h;split at h
 ·exact valC_le _ _ _ _ _ (by decide) h
 ·split at h
  ·exact valC_le _ _ _ _ _ (by decide) h
  ·split at h
   ·cases h
   ·exact valC_le _ _ _ _ _ (by decide) h
def rnumbered (x:List UInt8):Bool:=(decide (x≠[])&&x.all fun c=>decide (dig16 c<10))||(marked x&&(x.drop 2).all fun c=>decide (dig16 c<16))
theorem marked_form (x:List UInt8) (h:marked x=true): ∃ c r,x=48::c::r/\dig16 c=16:=by
 unfold marked Lib.hasPrefix at h;rw [Bool.or_eq_true,List.isPrefixOf_iff_prefix,List.isPrefixOf_iff_prefix] at h
 rcases h with ⟨t,rfl⟩ | ⟨t,rfl⟩
 ·exact ⟨120,t,rfl,by decide⟩
 ·exact ⟨88,t,rfl,by decide⟩
theorem rnumbered_eq (l:List UInt8):numberedV l=rnumbered (lastLab (noDot l)):=by
 unfold numberedV rnumbered;generalize lastLab (noDot l)=x;unfold valV;rw [valN_isSome,valN_isSome]
 cases hm:marked x with
 | true=>
   obtain ⟨c,r,rfl,hc⟩:=marked_form x hm
   simp [hc]
 | false=>simp
def fourL:Nat->Nat->List (List UInt8)->Option Nat
 | 0,_,_=>none
 | _+1,_,[]=>none
 | r+1,h,[x]=>match numV x with
   | none=>none
   | some n=>if n<2 ^ (8*(r+1)) then some (h*2 ^ (8*(r+1))+n) else none
 | r+1,h,x::y::L=>match numV x with
   | none=>none
   | some n=>if 255<n then none else fourL r (h*256+n) (y::L)
theorem fourN_L: ∀ (r h:Nat) (l:List UInt8),fourN r h l=fourL r h (cutL 46 l)
 | 0,h,l=>by cases cutL 46 l<;>rfl
 | r+1,h,l=>by
   rcases first_split 46 l with h1 | ⟨a,t,ha,rfl⟩
   ·rw [fourN,cut_none l 46 h1,cutL_none 46 l h1,fourL]
    cases numV l<;>rfl
   ·rw [fourN,cut_some a t 46 ha,cutL_some 46 a t ha]
    obtain ⟨y,L,hy⟩: ∃ y L,cutL 46 t=y::L:=by
     cases e:cutL 46 t with
     | nil=>exact absurd e (cutL_ne 46 t)
     | cons y L=>exact ⟨y,L,rfl⟩
    rw [hy,fourL]
    cases numV a with
    | none=>rfl
    | some n=>simp only [if_true];rw [fourN_L r (h*256+n) t,hy]
theorem fourV_L (l:List UInt8):fourV l=fourL 4 0 (labL l):=by
 rw [labL_eq,<- fourN_L];rfl
theorem fourL_many: ∀ (r h:Nat) (L:List (List UInt8)),r<L.length->fourL r h L=none
 | 0,h,L,_=>by cases L<;>rfl
 | r+1,h,[],hl=>by simp at hl
 | r+1,h,[x],hl=>by simp at hl
 | r+1,h,x::y::L,hl=>by
   rw [fourL]
   cases numV x with
   | none=>rfl
   | some n=>
     simp only;rw [fourL_many r _ (y::L) (by simpa using hl)];simp
theorem fourL_bad: ∀ (r h:Nat) (L:List (List UInt8)) (x:List UInt8),x ∈ L->numV x=none->fourL r h L=none
 | 0,h,L,x,_,_=>by cases L<;>rfl
 | r+1,h,[],x,hx,_=>by simp at hx
 | r+1,h,[y],x,hx,hn=>by
   simp at hx;subst hx;rw [fourL,hn]
 | r+1,h,y::z::L,x,hx,hn=>by
   rw [fourL]
   cases hy:numV y with
   | none=>rfl
   | some n=>
     simp only;have hx':x ∈ z::L:=by
      rcases List.mem_cons.1 hx with rfl | h
      ·rw [hn] at hy;cases hy
      ·exact h
     rw [fourL_bad r _ (z::L) x hx' hn];simp
structure Adr where
 scheme:List UInt8
 user:List UInt8
 pass:List UInt8
 host:List UInt8
 hasHost:Bool
 port:Int
 opq:Bool
 path:List (List UInt8)
 query:List UInt8
 fragment:List UInt8
 hasQuery:Bool
 hasFragment:Bool
def Adr.zero:Adr:=⟨[],[],[],[],false,0,false,[],[],[],false,false⟩
def sHttp:List UInt8:=[104,116,116,112]
def sHttps:List UInt8:=[104,116,116,112,115]
def sWs:List UInt8:=[119,115]
def sWss:List UInt8:=[119,115,115]
def sFtp:List UInt8:=[102,116,112]
def ownV (s:List UInt8):Int:=if s=sHttp∨s=sWs then 80 else if s=sHttps∨s=sWss then 443 else if s=sFtp then 21 else -1
def specV (s:List UInt8):Bool:=decide (0<=ownV s)
def part (c:UInt8):List UInt8->List UInt8×List UInt8×Bool
 | []=>([],[],false)
 | x::l=>if x=c then ([],l,true) else (x::(part c l).1,(part c l).2.1,(part c l).2.2)
def aheadV (ends:List UInt8) (l:List UInt8):List UInt8×List UInt8:=(l.takeWhile (fun c=> !ends.contains c),l.dropWhile (fun c=> !ends.contains c))
def wsC (c:UInt8):Bool:=decide (c.toNat<=32)
def eyeC (c:UInt8):Bool:=c==9||(c==10||c==13)
def trimV (l:List UInt8):List UInt8:=((l.dropWhile wsC).reverse.dropWhile wsC).reverse
def cleanV (l:List UInt8):List UInt8:=(trimV l).filter (fun c=> !eyeC c)
def schC (c:UInt8):Bool:=letterI c.toNat||(digitI c.toNat||(c==43||(c==45||c==46)))
def schOk (l:List UInt8):Bool:=(match l with | []=>false | c::_=>letterI c.toNat)&&l.all schC
def schemeV (l:List UInt8):Option (List UInt8×List UInt8):=if (part 58 l).2.2&&schOk (part 58 l).1 then some (low (part 58 l).1,(part 58 l).2.1) else none
def slC (c:UInt8):UInt8:=if c=92 then 47 else c
def slashV (l:List UInt8):List UInt8:=(aheadV [63] l).1.map slC++(aheadV [63] l).2
def slashedV (scheme l:List UInt8):List UInt8:=if specV scheme then slashV l else l
def atV (l:List UInt8):List UInt8×List UInt8:=if l.contains 64 then (((l.reverse.dropWhile (· != 64)).drop 1).reverse,(l.reverse.takeWhile (· != 64)).reverse) else ([],l)
def colN:Bool->Nat->Nat->List UInt8->Nat
 | _,_,k,[]=>k
 | false,i,k,c::l=>if c=58 then colN false (i+1) i l else if c=91 then colN true (i+1) k l else colN false (i+1) k l
 | true,i,k,c::l=>if c=93 then colN false (i+1) k l else colN true (i+1) k l
def colV (l:List UInt8):Nat:=colN false 0 l.length l
def portV (own:Int) (t:List UInt8):Option Int:=
 if t=[] then some (-1) else if intOk t&&decide (intV t<=65535) then some (if intV t=own then -1 else intV t) else none
def authV (scheme s:List UInt8):Except Int (List UInt8×List UInt8×List UInt8×Int):=
 match portV (ownV scheme) (((atV s).2.drop (colV (atV s).2)).drop 1) with
 | none=> .error 11
 | some p=>
   match parseV ((atV s).2.take (colV (atV s).2)) (specV scheme) with
   | none=> .error 10
   | some h=>
     if h=[]/\(pct 6 (part 58 (atV s).1).1≠[]∨pct 6 (part 58 (atV s).1).2.1≠[]∨((atV s).2.drop (colV (atV s).2)).drop 1≠[]) then .error 10
     else .ok (pct 6 (part 58 (atV s).1).1,pct 6 (part 58 (atV s).1).2.1,h,p)
def dotsV (p:List UInt8):Nat:=if unpct p=[46] then 1 else if unpct p=[46,46] then 2 else 0
def pathL:List (List UInt8)->List (List UInt8)->List (List UInt8)
 | out,[]=>out
 | out,[p]=>if dotsV p=2 then out.dropLast++[[]] else if dotsV p=1 then out++[[]] else out++[pct 5 p]
 | out,p::q::r=>if dotsV p=2 then pathL out.dropLast (q::r) else if dotsV p=1 then pathL out (q::r) else pathL (out++[pct 5 p]) (q::r)
def over1 (l:List UInt8):List UInt8:=match l with | []=>[] | c::r=>if c=47 then r else l
def pathV (special:Bool) (have_:List (List UInt8)) (s:List UInt8):List (List UInt8):=if s=[]/\special=false then [] else pathL have_ (cutL 47 (over1 s))
def querV (special:Bool) (q:List UInt8):List UInt8:=pct (if special then 4 else 3) q
def withQuery (u:Adr) (q:List UInt8):Adr:=if q=[] then u else { u with query:=querV (specV u.scheme) (q.drop 1),hasQuery:=true }
def withPath (u:Adr) (have_:List (List UInt8)) (r:List UInt8):Adr:=withQuery { u with path:=pathV (specV u.scheme) have_ (aheadV [63] r).1 } (aheadV [63] r).2
def withAuth (u:Adr) (r:List UInt8):Except Int Adr:=
 match authV u.scheme (aheadV [47,63] r).1 with
 | .error e=> .error e
 | .ok (a,b,h,p)=> .ok (withPath { u with user:=a,pass:=b,host:=h,hasHost:=true,port:=p } [] (aheadV [47,63] r).2)
def skip47 (l:List UInt8):List UInt8:=l.dropWhile (· == 47)
def startV (u:Adr) (rest:List UInt8):Except Int Adr:=
 if specV u.scheme then withAuth u (skip47 (slashV rest))
 else if Lib.hasPrefix rest [47,47] then withAuth u (rest.drop 2)
 else if Lib.hasPrefix rest [47] then .ok (withPath u [] rest)
 else .ok (withQuery { u with opq:=true,path:=[pct 1 (aheadV [63] rest).1] } (aheadV [63] rest).2)
def beginU (s:List UInt8):Adr×List UInt8:=
 let t:=part 35 (cleanV s)
 let m:=(schemeV t.1).getD ([],t.1)
 (⟨m.1,[],[],[],false,-1,false,[],[],pct 2 t.2.1,false,t.2.2⟩,m.2)
def joinV (u:Adr) (rest:List UInt8) (b:Adr):Except Int Adr:=
 let v:Adr:={ u with scheme:=b.scheme }
 let r:=slashedV b.scheme rest
 if Lib.hasPrefix r [47,47] then startV v r
 else
  let x:Adr:={ v with user:=b.user,pass:=b.pass,host:=b.host,hasHost:=b.hasHost,port:=b.port }
  if Lib.hasPrefix r [47] then .ok (withPath x [] r)
  else if r≠[]/\r.head? ≠ some 63 then .ok (withPath x b.path.dropLast r)
  else .ok (withQuery { x with opq:=b.opq,path:=b.path,query:=b.query,hasQuery:=b.hasQuery } r)
def readV (s:List UInt8) (base:Option Adr):Except Int Adr:=
 if 4096<s.length then .error 3
 else
  match base with
  | none=>if (beginU s).1.scheme=[] then .error 12 else startV (beginU s).1 (beginU s).2
  | some b=>
    if (beginU s).1.scheme≠[]/\(specV (beginU s).1.scheme=false∨(beginU s).1.scheme≠b.scheme) then startV (beginU s).1 (beginU s).2
    else if b.opq=true/\(beginU s).2≠[] then .error 12
    else joinV (beginU s).1 (beginU s).2 b
def deciN:Nat->Nat->List UInt8->List UInt8
 | 0,_,acc=>acc
 | f+1,n,acc=>if n<10 then UInt8.ofNat (48+n)::acc else deciN f (n / 10) (UInt8.ofNat (48+n % 10)::acc)
def portT (p:Int):List UInt8:=deciN 6 p.toNat []
def authT (u:Adr):List UInt8:=
 if u.hasHost then [47,47]++u.user++(if u.pass=[] then [] else 58::u.pass)++(if u.user=[]/\u.pass=[] then [] else [64])++u.host++(if u.port = -1 then [] else 58::portT u.port) else []
def pathT (u:Adr):List UInt8:=
 if u.opq then u.path.flatten
 else (if u.hasHost=false/\1<u.path.length/\u.path.head? = some [] then [47,46] else [])++u.path.flatMap (fun p=>47::p)
def bareV (u:Adr):List UInt8:=u.scheme++58::(authT u++(pathT u++(if u.hasQuery then 63::u.query else [])))
def adrOf:Except Int Adr->Adr
 | .ok u=>u
 | .error _=>Adr.zero
def numOf:Except Int Adr->Int
 | .ok _=>0
 | .error e=>e
def exitFwd (P:Program) (c:Code) (Q:Exit->Act->World->Prop):Nat->Exit->Act->World->Prop
 | 0,.goto _,_,_=>False
 | n+1,.goto l,a,w=> ∃ rest,findLabel c l=some rest/\rest.wp P (exitFwd P c Q n) a w
 | _,e,a,w=>Q e a w
theorem exitFwd_normal {P:Program} {c:Code} {Q:Exit->Act->World->Prop} {n:Nat} {a:Act} {w:World}:exitFwd P c Q n .normal a w=Q .normal a w:=by cases n<;>rfl
theorem exitFwd_exit {P:Program} {c:Code} {Q:Exit->Act->World->Prop} {n id:Nat} {a:Act} {w:World}:exitFwd P c Q n (.exit id) a w=Q (.exit id) a w:=by cases n<;>rfl
theorem exitFwd_ret {P:Program} {c:Code} {Q:Exit->Act->World->Prop} {n:Nat} {a:Act} {w:World}:exitFwd P c Q n .ret a w=Q .ret a w:=by cases n<;>rfl
theorem exitFwd_panic {P:Program} {c:Code} {Q:Exit->Act->World->Prop} {n:Nat} {ch:List PanicEntry} {a:Act} {w:World}:exitFwd P c Q n (.panic ch) a w=Q (.panic ch) a w:=by cases n<;>rfl
theorem exitFwd_goto {P:Program} {c:Code} {Q:Exit->Act->World->Prop} {n l:Nat} {a:Act} {w:World} (rest:Code) (hf:findLabel c l=some rest) (h:rest.wp P (exitFwd P c Q n) a w):exitFwd P c Q (n+1) (.goto l) a w:=⟨rest,hf,h⟩
theorem wp_scope_fwd {P:Program} {a:Act} {w:World} {Q:Exit->Act->World->Prop} {c:Code} (n:Nat) (first:c.wp P (exitFwd P c Q n) a w):(Code.scope c).wp P Q a w:=by
 intro b k cs;have key: ∀ n (rest:Code) a w,rest.wp P (exitFwd P c Q n) a w -> ∃ e a' w',Q e a' w'/\Arrives P (lone (b.at a (.code rest :: .inScope c::k)) cs w) b k cs e a' w':=by
  intro n
  induction n with
  | zero=>
    intro rest a w h;obtain ⟨e,a₁,w₁,hq,harr⟩:=h b (.inScope c::k) cs
    cases e with
    | normal=>exact ⟨.normal,a₁,w₁,hq,Steps.trans harr (.one step_inScope)⟩
    | exit id=>exact ⟨.exit id,a₁,w₁,hq,fun k' hk=>harr k' (by simp [exitTo,hk])⟩
    | goto l'=>exact hq.elim
    | ret=>exact ⟨_,a₁,w₁,hq,harr⟩
    | panic ch=>exact ⟨_,a₁,w₁,hq,harr⟩
    | outgrown=>exact ⟨_,a₁,w₁,hq,harr⟩
  | succ n ih=>
    intro rest a w h;obtain ⟨e,a₁,w₁,hq,harr⟩:=h b (.inScope c::k) cs
    cases e with
    | normal=>exact ⟨.normal,a₁,w₁,hq,Steps.trans harr (.one step_inScope)⟩
    | exit id=>exact ⟨.exit id,a₁,w₁,hq,fun k' hk=>harr k' (by simp [exitTo,hk])⟩
    | goto l'=>
      obtain ⟨rest',hf,hr⟩:=hq
      have hg:gotoIn l' (.inScope c::k)=some (.code rest' :: .inScope c::k):=by simp [gotoIn,hf]
      obtain ⟨e₂,a₂,w₂,hq₂,harr₂⟩:=ih rest' a₁ w₁ hr
      exact ⟨e₂,a₂,w₂,hq₂,.of_steps (harr _ hg) harr₂⟩
    | ret=>exact ⟨_,a₁,w₁,hq,harr⟩
    | panic ch=>exact ⟨_,a₁,w₁,hq,harr⟩
    | outgrown=>exact ⟨_,a₁,w₁,hq,harr⟩
 obtain ⟨e,a₁,w₁,hq,harr⟩:=key n c a w first
 exact ⟨e,a₁,w₁,hq,.of_steps (.one step_scope) harr⟩
def exitMany (J:Nat->Act->World->Prop) (Q:Exit->Act->World->Prop):Exit->Act->World->Prop
 | .goto l,a,w=>J l a w
 | e,a,w=>Q e a w
theorem wp_scope_many {P:Program} {a:Act} {w:World} {Q:Exit->Act->World->Prop} {c:Code} (J:Nat->Act->World->Prop) (μ:Nat->Act->World->Nat)
 (first:c.wp P (exitMany J Q) a w)
 (pass: ∀ l a w,J l a w -> ∃ rest,findLabel c l=some rest/\rest.wp P (exitMany (fun l' a' w'=>J l' a' w'/\μ l' a' w'<μ l a w) Q) a w):(Code.scope c).wp P Q a w:=by
 intro b k cs;have key: ∀ n l a w,μ l a w=n->J l a w -> ∃ rest,findLabel c l=some rest /\ ∃ e a' w',Q e a' w'/\Arrives P (lone (b.at a (.code rest :: .inScope c::k)) cs w) b k cs e a' w':=by
  intro n
  induction n using Nat.strongRecOn with
  | _ n ih=>
    intro l a w hn hJ;obtain ⟨rest,hf,hr⟩:=pass l a w hJ
    refine ⟨rest,hf,?_⟩
    obtain ⟨e,a₁,w₁,hq,harr⟩:=hr b (.inScope c::k) cs
    cases e with
    | normal=>exact ⟨.normal,a₁,w₁,hq,Steps.trans harr (.one step_inScope)⟩
    | exit id=>exact ⟨.exit id,a₁,w₁,hq,fun k' hk=>harr k' (by simp [exitTo,hk])⟩
    | goto l'=>
      obtain ⟨hJ',hlt⟩:=hq
      obtain ⟨rest',hf',e₂,a₂,w₂,hq₂,harr₂⟩:=ih _ (by omega) l' a₁ w₁ rfl hJ'
      have hg:gotoIn l' (.inScope c::k)=some (.code rest' :: .inScope c::k):=by simp [gotoIn,hf']
      exact ⟨e₂,a₂,w₂,hq₂,.of_steps (harr _ hg) harr₂⟩
    | ret=>exact ⟨_,a₁,w₁,hq,harr⟩
    | panic ch=>exact ⟨_,a₁,w₁,hq,harr⟩
    | outgrown=>exact ⟨_,a₁,w₁,hq,harr⟩
 obtain ⟨e,a₁,w₁,hq,harr⟩:=first b (.inScope c::k) cs
 cases e with
 | normal=>exact ⟨.normal,a₁,w₁,hq,.head step_scope (Steps.trans harr (.one step_inScope))⟩
 | exit id=>exact ⟨.exit id,a₁,w₁,hq,fun k' hk=> .head step_scope (harr k' (by simp [exitTo,hk]))⟩
 | goto l'=>
   obtain ⟨rest',hf',e₂,a₂,w₂,hq₂,harr₂⟩:=key _ l' a₁ w₁ rfl hq
   have hg:gotoIn l' (.inScope c::k)=some (.code rest' :: .inScope c::k):=by simp [gotoIn,hf']
   exact ⟨e₂,a₂,w₂,hq₂,.of_steps (.head step_scope (harr _ hg)) harr₂⟩
 | ret=>exact ⟨_,a₁,w₁,hq,.of_steps (.one step_scope) harr⟩
 | panic ch=>exact ⟨_,a₁,w₁,hq,.of_steps (.one step_scope) harr⟩
 | outgrown=>exact ⟨_,a₁,w₁,hq,.of_steps (.one step_scope) harr⟩
open Go.RowKit
theorem beq_no (a:ByteArray) (l:List UInt8) (h:a.data.toList≠l):(a.toList==l)=false:=by
 rw [Lib.toList_data,beq_eq_false_iff_ne];exact h
theorem beq_yes (a:ByteArray) (l:List UInt8) (h:a.data.toList=l):(a.toList==l)=true:=by
 rw [Lib.toList_data,h];exact beq_self_eq_true _
theorem own_any (s:ByteArray) (w:World):
 Calls Tryz.prog 70 #[.string s] w fun e w'=>e = .returned (.int .i64 (ownV s.data.toList))/\w=w':=by
 by_cases h1:s.data.toList=sHttp
 ·have HN:=hid (show ownV s.data.toList=80 by rw [h1];rfl)
  have e1:=beq_yes s [104,116,116,112] h1
  clear h1
  go_enter Tryz.func70,Tryz.ntmps70
  go_wp2
  go_ret
  rw [HN.out];exact ⟨rfl,rfl⟩
 ·have e1:=beq_no s [104,116,116,112] h1
  by_cases h2:s.data.toList=sWs
  ·have HN:=hid (show ownV s.data.toList=80 by rw [h2];rfl)
   have e2:=beq_yes s [119,115] h2
   clear h1 h2
   go_enter Tryz.func70,Tryz.ntmps70
   go_wp2
   go_ret
   rw [HN.out];exact ⟨rfl,rfl⟩
  ·have e2:=beq_no s [119,115] h2
   by_cases h3:s.data.toList=sHttps
   ·have HN:=hid (show ownV s.data.toList=443 by rw [h3];rfl)
    have e3:=beq_yes s [104,116,116,112,115] h3
    clear h1 h2 h3
    go_enter Tryz.func70,Tryz.ntmps70
    go_wp2
    go_ret
    rw [HN.out];exact ⟨rfl,rfl⟩
   ·have e3:=beq_no s [104,116,116,112,115] h3
    by_cases h4:s.data.toList=sWss
    ·have HN:=hid (show ownV s.data.toList=443 by rw [h4];rfl)
     have e4:=beq_yes s [119,115,115] h4
     clear h1 h2 h3 h4
     go_enter Tryz.func70,Tryz.ntmps70
     go_wp2
     go_ret
     rw [HN.out];exact ⟨rfl,rfl⟩
    ·have e4:=beq_no s [119,115,115] h4
     by_cases h5:s.data.toList=sFtp
     ·have HN:=hid (show ownV s.data.toList=21 by rw [h5];rfl)
      have e5:=beq_yes s [102,116,112] h5
      clear h1 h2 h3 h4 h5
      go_enter Tryz.func70,Tryz.ntmps70
      go_wp2
      go_ret
      rw [HN.out];exact ⟨rfl,rfl⟩
     ·have e5:=beq_no s [102,116,112] h5
      have HN:=hid (show ownV s.data.toList = -1 by rw [ownV,if_neg (by rintro (h | h);exact h1 h;exact h2 h),if_neg (by rintro (h | h);exact h3 h;exact h4 h),if_neg h5]);clear h1 h2 h3 h4 h5
      go_enter Tryz.func70,Tryz.ntmps70
      go_wp2
      go_ret
      rw [HN.out];exact ⟨rfl,rfl⟩
theorem special_any (s:ByteArray) (w:World):
 Calls Tryz.prog 69 #[.string s] w fun e w'=>e = .returned (.bool (specV s.data.toList))/\w=w':=by
 have HS:=hid (show specV s.data.toList=decide (0<=ownV s.data.toList) from rfl)
 go_enter Tryz.func69,Tryz.ntmps69
 go_wp2_with (go_at_call 70;refine (own_any _ _).mono ?_;rintro e w' ⟨rfl,rfl⟩)
 go_ret
 rw [HS.out];exact ⟨rfl,rfl⟩
theorem uletter_any (c:Int) (w:World):
 Calls Tryz.prog 217 #[.int .u8 c] w fun e w'=>e = .returned (.bool (letterI c))/\w=w':=by
 go_enter Tryz.func217,Tryz.ntmps217
 go_wp2
 all_goals
  go_ret
  exact ⟨ret_bool (by rw [Bool.eq_iff_iff];simp [letterI];omega),rfl⟩
theorem part_none (c:UInt8): ∀ l:List UInt8,c ∉ l->part c l=(l,[],false)
 | [],_=>rfl
 | x::l,h=>by
   have hx:x≠c:=fun e=>h (by simp [e])
   have hl:c ∉ l:=fun e=>h (by simp [e])
   rw [part,if_neg hx,part_none c l hl]
theorem part_some (c:UInt8): ∀ (a r:List UInt8),c ∉ a->part c (a++c::r)=(a,r,true)
 | [],r,_=>by rw [List.nil_append,part,if_pos rfl]
 | x::a,r,h=>by
   have hx:x≠c:=fun e=>h (by simp [e])
   have hl:c ∉ a:=fun e=>h (by simp [e])
   rw [List.cons_append,part,if_neg hx,part_some c a r hl]
theorem cut_part (c:UInt8) (l:List UInt8):Lib.cut l [c]=part c l:=by
 rcases first_split c l with h | ⟨a,r,h,rfl⟩
 ·rw [cut_none l c h,part_none c l h]
 ·rw [cut_some a r c h,part_some c a r h]
theorem part_le (c:UInt8) (l:List UInt8):(part c l).1.length<=l.length/\(part c l).2.1.length<=l.length:=by
 rw [<- cut_part];exact cut_le l [c]
theorem trimP_over (l:List UInt8):Lib.trimPrefix l [47]=over1 l:=by
 unfold Lib.trimPrefix over1 Lib.hasPrefix
 cases l with
 | nil=>rfl
 | cons c r=>
   by_cases h:c=47
   ·subst h;simp [List.isPrefixOf]
   ·have:(47:UInt8)≠c:=fun e=>h e.symm
    simp [List.isPrefixOf,h,this]
theorem ahead_index (ends:List UInt8): ∀ l:List UInt8,(Lib.indexAny l ends = -1/\aheadV ends l=(l,[]))∨(∃ i:Nat,i<l.length/\Lib.indexAny l ends=i/\aheadV ends l=(l.take i,l.drop i))
 | []=> .inl ⟨rfl,rfl⟩
 | c::l=>by
   by_cases h:ends.contains c=true
   ·refine .inr ⟨0,by simp,by rw [Lib.indexAny,if_pos h];rfl,?_⟩
    have h2:c ∈ ends:=by simpa using h
    simp [aheadV,List.takeWhile,List.dropWhile,h2]
   ·have h':ends.contains c=false:=by simpa using h
    have h2:c ∉ ends:=by simpa using h
    have e1:(aheadV ends (c::l))=(c::(aheadV ends l).1,(aheadV ends l).2):=by
     simp [aheadV,List.takeWhile,List.dropWhile,h2]
    rcases ahead_index ends l with ⟨h1,h2⟩ | ⟨i,hi,h1,h2⟩
    ·exact .inl ⟨by rw [Lib.indexAny,if_neg h,h1];rfl,by rw [e1,h2]⟩
    ·refine .inr ⟨i+1,by simp;omega,?_,by rw [e1,h2];rfl⟩
     rw [Lib.indexAny,if_neg h,h1]
     have:((i:Int) == -1)=false:=by rw [beq_eq_false_iff_ne];omega
     rw [this];simp
theorem ahead_app (ends l:List UInt8):(aheadV ends l).1++(aheadV ends l).2=l:=List.takeWhile_append_dropWhile
theorem ahead_le (ends l:List UInt8):(aheadV ends l).1.length<=l.length/\(aheadV ends l).2.length<=l.length:=by
 have:=congrArg List.length (ahead_app ends l);rw [List.length_append] at this;omega
theorem slC_none (l:List UInt8) (h:92 ∉ l):l.map slC=l:=by
 induction l with
 | nil=>rfl
 | cons c l ih=>
   have hc:c≠92:=fun e=>h (by simp [e])
   have hl:92 ∉ l:=fun e=>h (by simp [e])
   rw [List.map_cons,ih hl,slC,if_neg hc]
theorem repl_slash: ∀ (n:Nat) (l:List UInt8),l.count 92<=n->Lib.replaceK [92] [47] n l=l.map slC:=by
 intro n
 induction n with
 | zero=>
   intro l h;rw [Lib.replaceK,slC_none l]
   exact List.count_eq_zero.1 (by omega)
 | succ n ih=>
   intro l h;rcases first_split 92 l with h1 | ⟨a,r,h1,rfl⟩
   ·rw [Lib.replaceK,index_one_none l 92 h1,slC_none l h1];rfl
   ·rw [Lib.replaceK_hit [92] [47] n _ a.length (index_one_some a r 92 h1)]
    have hc:r.count 92<=n:=by
     rw [List.count_append,List.count_cons] at h
     simp at h;omega
    have e1:(a++92::r).take a.length=a:=by simp
    have e2:(a++92::r).drop (a.length+[(92:UInt8)].length)=r:=by simp
    rw [e1,e2,ih r hc,List.map_append,List.map_cons,slC_none a h1]
    simp [slC]
theorem count_one (c:UInt8): ∀ (f:Nat) (l:List UInt8),l.length<f->Lib.countFrom [c] f l=l.count c:=by
 intro f
 induction f with
 | zero=>intro l h;omega
 | succ f ih=>
   intro l h;rcases first_split c l with h1 | ⟨a,r,h1,rfl⟩
   ·rw [Lib.countFrom,index_one_none l c h1,List.count_eq_zero.2 h1];rfl
   ·rw [Lib.countFrom,index_one_some a r c h1]
    have e:((a.length:Int) == -1)=false:=by rw [beq_eq_false_iff_ne];omega
    have e2:(a++c::r).drop (a.length+[c].length)=r:=by simp
    simp only [e,Int.toNat_natCast,e2]
    rw [ih r (by simp at h;omega),List.count_append,List.count_cons,List.count_eq_zero.2 h1]
    simp;omega
theorem repl_all (l:List UInt8):Lib.replaceAll l [92] [47]=l.map slC:=by
 unfold Lib.replaceAll Lib.replace;rw [if_neg (by decide)];refine repl_slash _ l ?_;unfold Lib.replaceNum;rw [if_pos (.inl (by decide))];unfold Lib.count;rw [count_one 92 _ l (by omega)];exact Nat.le_refl _
theorem take_rev (p:UInt8->Bool) (a b:List UInt8) (c:UInt8) (hb: ∀ x ∈ b,p x=true) (hc:p c=false):((a++c::b).reverse.takeWhile p).reverse=b/\(((a++c::b).reverse.dropWhile p).drop 1).reverse=a:=by
 have e:(a++c::b).reverse=b.reverse++c::a.reverse:=by simp
 have hb': ∀ x ∈ b.reverse,p x=true:=fun x hx=>hb x (List.mem_reverse.1 hx)
 constructor
 ·rw [e,List.takeWhile_append_of_pos hb',List.takeWhile_cons,hc]
  simp
 ·rw [e,List.dropWhile_append_of_pos hb',List.dropWhile_cons,hc]
  simp
theorem at_none (l:List UInt8) (h:64 ∉ l):atV l=([],l):=by
 have:l.contains 64=false:=by simpa using h
 rw [atV,this];rfl
theorem at_some (a b:List UInt8) (h:64 ∉ b):atV (a++64::b)=(a,b):=by
 have h1:(a++64::b).contains 64=true:=by simp
 have h2:=take_rev (fun x=>x != 64) a b 64 (fun x hx=>by simp;intro e;exact h (e ▸ hx)) (by decide)
 rw [atV,h1,if_pos rfl,h2.1,h2.2]
theorem last_at (s:ByteArray):(Lib.lastIndexByte s 64 = -1/\atV s.data.toList=([],s.data.toList))∨(∃ i:Nat,i<s.size/\Lib.lastIndexByte s 64=i/\atV s.data.toList=(s.data.toList.take i,s.data.toList.drop (i+1))):=by
 have hbang: ∀ j,j<s.size -> ∃ h:j<s.data.toList.length,s.data[j]! = s.data.toList[j]:=by
  intro j hj;have hj':j<s.data.size:=hj;exact ⟨by simpa using hj',by rw [getElem!_pos s.data j hj'];simp⟩
 rcases Lib.lastIndexByte_spec s 64 with ⟨h1,h2⟩ | ⟨i,hi,h1,h2,h3⟩
 ·refine .inl ⟨h1,at_none _ ?_⟩
  intro hm;obtain ⟨j,hj,e⟩:=List.mem_iff_getElem.1 hm
  have hj':j<s.size:=by simpa using hj
  obtain ⟨hh,e2⟩:=hbang j hj'
  refine h2 j hj' ?_;rw [e2,e];rfl
 ·refine .inr ⟨i,hi,h1,?_⟩
  obtain ⟨hh,e2⟩:=hbang i hi
  have ec:s.data.toList[i]=64:=UInt8.toNat_inj.1 (by rw [e2] at h2;have:(64:UInt8).toNat=64:=rfl;omega)
  have es:s.data.toList=s.data.toList.take i++64::s.data.toList.drop (i+1):=by
   have:=(List.take_append_drop i s.data.toList).symm;rw [List.drop_eq_getElem_cons hh,ec] at this;exact this
  have hno:64 ∉ s.data.toList.drop (i+1):=by
   intro hm;obtain ⟨j,hj,e⟩:=List.mem_iff_getElem.1 hm
   rw [List.getElem_drop] at e;have hj':i+1+j<s.size:=by simp at hj;omega
   obtain ⟨hh2,e3⟩:=hbang _ hj'
   refine h3 (i+1+j) (by omega) hj' ?_
   rw [e3,e];rfl
  have:=at_some (s.data.toList.take i) _ hno;rw [<- es] at this;exact this
theorem deci_gen: ∀ (f n:Nat) (acc:List UInt8),n<10 ^ f->f≠0->deciN f n acc=Lib.decDigits n++acc
 | 0,n,acc,h,h0=>absurd rfl h0
 | f+1,n,acc,h,_=>by
   rw [deciN,Lib.decDigits]
   by_cases h1:n<10
   ·rw [if_pos h1,dif_pos h1];rfl
   ·rw [if_neg h1,dif_neg h1]
    have hf:f≠0:=by rintro rfl;simp at h;omega
    rw [deci_gen f (n / 10) _ (by rw [Nat.pow_succ] at h;omega) hf];simp
theorem portT_itoa (p:Int) (h0:0<=p) (h1:p<=65535):Lib.itoa p=portT p:=by
 unfold Lib.itoa portT;rw [if_neg (by omega),deci_gen 6 _ _ (by omega) (by omega),List.append_nil]
end Go.Proofs.YtijpkalkfbejeaaGreatDoor
