/-
  Walks and plain facts that this claim leans on, put together out of 2 texts: Tf, Tg.
-/
import Derived.Test.YtolioccofbhliaaGreatDoorProg
import Derived.Test.YtolioccofbhliaaGreatDoorQp1
import Derived.Test.YtolioccofbhliaaGreatDoorQp2
import Derived.Test.YtolioccofbhliaaGreatDoorQp3
import Derived.Test.YtolioccofbhliaaGreatDoorQp4
import Derived.Test.YtolioccofbhliaaGreatDoorQp5
import Derived.Lib.IndexMore
import Derived.Lib.Join
import Derived.Lib.LastIndexByte
import Derived.WalkKit
import Derived.Lib.Strings
import Derived.Lib.UnsafeStr
import Derived.Laws.IdiomStrings
import Derived.Laws.AppendOwn
import Derived.Laws.BitsAllLaws
import Derived.Lib.Bytealg
import Derived.Lib.BufferMore
import Derived.LoopN
import Derived.RegionTactic
import Derived.Deep.RegionWith
import Derived.Deep.QuietTactic
import Derived.BigQuiet
import Derived.Shelf.Strings.Builder1
import Derived.Shelf.Strings.Builder2
import Derived.Shelf.Strings.OnBuilder
import Derived.Shelf.Strings.Trim
import Derived.Shelf.Small.Utf8
import Derived.Shelf.Small.Bits
import Derived.Shelf.Small.Strs
import Derived.Shelf.Small.Wraps
import Derived.Shelf.Strings.BuilderF
import Derived.Shelf.Strings.BuilderK
import Derived.Shelf.Strings.Builder2Cap
import Derived.Shelf.Strconv.Itoa0
import Derived.Shelf.Strconv.Itoa1
import Derived.Shelf.LaysM
import Derived.Shelf.Strconv.Itoa2
import Derived.Shelf.Strconv.Itoa3
import Derived.Shelf.Strings.Search1
import Derived.Shelf.Strings.Search2
import Derived.Shelf.Strings.Cut
import Derived.Shelf.Strings.Shaped
import Derived.Shelf.Sort.Plain
import Derived.Shelf.Strings.Prefix
import Derived.Shelf.Strings.Runes
import Derived.Shelf.Strings.IndexAny
import Derived.Shelf.Strings.AsciiSet
import Derived.Shelf.Strings.IndexAnyAll
import Derived.Shelf.Unicode.DecodeSlow
import Derived.Shelf.Unicode.DecodeAny
import Derived.Shelf.Unicode.DecodeLast
import Derived.Shelf.Slices.CompactS
import Derived.Shelf.Slices.In.SortNone
import Derived.Ground.SlgnProg
import Derived.Shelf.SlicesE.Compact
import Derived.Ground.SlgfProg
import Derived.Shelf.SlicesE.IndexFunc
import Derived.Shelf.SlicesE.DeleteFunc
import Derived.Scope
import Derived.ScopeJumps
import Derived.WalkMore
import Derived.Lib.IndexAny
import Derived.Lib.Replace
import Derived.Lib.TrimByte
import Derived.Lib.ItoaNum
import Derived.Laws.RangeAny
import Derived.Lib.DecodeN
import Derived.Lib.OthersKept
import Derived.Deep.LoopGhost
import Derived.Laws.BytesString
import Derived.WalkSpells
import Derived.WalkLawsBesides
import Derived.Lib.AppendIntMem
import Derived.Lib.SmallJoins
import Derived.WalkSmall
import Derived.OwnWalk
import Derived.Laws.CopyOwn
import Derived.Laws.ResultCell
import Derived.Deep.MidRow
import Derived.Lib.FrozenHead2
import Derived.Lib.Builder
import Derived.Deep.RegionLaw
set_option linter.unusedSimpArgs false
set_option linter.unusedVariables false

namespace Go.Proofs.YtolioccofbhliaaGreatDoor
open Go.RowKit

theorem ext_one (t:ByteArray) (h:0<t.size):t.data.toList=t[0]::(t.extract 1 t.size).data.toList:=by
 obtain ⟨r,hr⟩:=list_one t h
 rw [extract_drop,hr];rfl

theorem ext_last (t:ByteArray) (h:t.size - 1<t.size):t.data.toList=(t.extract 0 (t.size - 1)).data.toList++[t[t.size - 1]]:=by
 have h1:t.size - 1+1=t.size:=by omega
 have h2:=take_snoc t (t.size - 1) h;rw [h1] at h2;rw [Lib.extract_data];simp only [List.drop_zero,Nat.sub_zero]
 rw [← h2,List.take_of_length_le (by simp)]

theorem clean_of (l A M B:List UInt8) (h:l=A++M++B) (hA:A.all wsC=true) (hB:B.all wsC=true) (hM:M=[]∨((∃ c r,M=c::r∧wsC c=false)∧(∃ c r,M=r++[c]∧wsC c=false))):cleanV l=keepC M:=by
 rw [clean_keep,h,trim_parts A M B hA hB hM]

def strZ (v:Value):Nat:=match v with | .string t=>t.size | _=>0

set_option maxHeartbeats 4000000 in
set_option maxRecDepth 100000 in
theorem rclean_any (s:ByteArray) (w:World) (hs:s.size≤1000000):
 Calls Tryz.prog 172 #[.string s] w fun e w'=>e = .returned (.string ⟨(cleanV s.data.toList).toArray⟩)∧w=w':=by
 go_enter Tryz.func172,Tryz.ntmps172
 go_wp2
 go_loop [0] (fun ts=> ∃ (t:ByteArray) (A:List UInt8),ts = .string t∧s.data.toList=A++t.data.toList∧A.all wsC=true∧t.size≤s.size) (fun ts=>strZ ts)
 case atStart=>exact ⟨s,[],rfl,rfl,rfl,Nat.le_refl _⟩
 case round=>
  obtain ⟨t,A,rfl,hsA,hA,hts⟩:=hrel
  have HS:=hid hsA;have HA:=hid hA;clear hsA hA;by_cases hgo: ∃ h:0<t.size,wsC t[0]=true
  ·obtain ⟨h0,hbl⟩:=hgo
   have h0':(0:Int)<(t.size:Int):=by omega
   have HE:=hid (ext_one t h0);have hle:(t[0].toNat:Int)≤32:=ws_yes hbl;have HW:=hid hbl;have h1:(1:Int)≤(t.size:Int):=by omega
   clear hbl
   go_wp2
   go_round
   case rel=>
    refine ⟨_,A++[t[0]],rfl,?_,?_,?_⟩
    ·rw [HS.out,HE.out];simp
    ·rw [List.all_append,HA.out];simp [HW.out]
    ·simp;omega
   case measure=>simp [strZ];omega
  ·have hx:t.size=0 ∨ ∃ h:0<t.size,wsC t[0]=false:=by
    by_cases h0:0<t.size
    ·right
     refine ⟨h0,?_⟩
     have:=fun h=>hgo ⟨h0,h⟩
     simpa using this
    ·left;omega
   have HF:=hid (show t.data.toList=[] ∨ ∃ c r,t.data.toList=c::r∧wsC c=false by
    rcases hx with h0 | ⟨h0,h1⟩
    ·exact .inl (List.eq_nil_of_length_eq_zero (by simpa using h0))
    ·exact .inr ⟨_,_,ext_one t h0,h1⟩)
   have hx2: ¬ (0:Int)<(t.size:Int)∨((0:Int)<(t.size:Int) ∧ ∃ h:0<t.size,¬ (t[0].toNat:Int)≤32):=by
    rcases hx with h0 | ⟨h0,h1⟩
    ·exact .inl (by omega)
    ·exact .inr ⟨by omega,h0,by have:=ws_no h1;omega⟩
   clear hgo hx;rcases hx2 with h0 | ⟨h0,h00,hbl⟩
   all_goals
    go_wp2
    clear h0
    try clear hbl
    try clear h00
    go_loop [0] (fun us=> ∃ (u:ByteArray) (B:List UInt8),us = .string u∧t.data.toList=u.data.toList++B∧B.all wsC=true∧u.size≤s.size) (fun us=>strZ us)
    case atStart=>exact ⟨t,[],rfl,by simp,rfl,hts⟩
    case round=>
     obtain ⟨u,B,rfl,htB,hB,hus⟩:=hrel
     have HT:=hid htB;have HB:=hid hB;clear htB hB;by_cases hgo: ∃ h:u.size - 1<u.size,wsC u[u.size - 1]=true
     ·obtain ⟨hlt,hbl⟩:=hgo
      have HL:=hid (ext_last u hlt);have hu0:(0:Int)<(u.size:Int):=by omega
      have hle:(u[u.size - 1].toNat:Int)≤32:=ws_yes hbl;have HW:=hid hbl;clear hbl
      go_wp2
      go_round
      case rel=>
       refine ⟨_,u[u.size - 1]::B,rfl,?_,?_,?_⟩
       ·rw [HT.out];conv=>lhs;rw [HL.out]
        simp
       ·rw [List.all_cons,HB.out];simp [HW.out]
       ·simp;omega
      case measure=>simp [strZ];omega
     ·have hx:u.size=0 ∨ ∃ h:u.size - 1<u.size,wsC u[u.size - 1]=false:=by
       by_cases h0:u.size - 1<u.size
       ·right
        refine ⟨h0,?_⟩
        have:=fun h=>hgo ⟨h0,h⟩
        simpa using this
       ·left;omega
      have HC:=hid (show cleanV s.data.toList=keepC u.data.toList by
       refine clean_of _ A u.data.toList B ?_ HA.out HB.out ?_
       ·rw [HS.out,HT.out];simp
       ·rcases hx with h0 | ⟨h0,h1⟩
        ·exact .inl (List.eq_nil_of_length_eq_zero (by simpa using h0))
        ·refine .inr ⟨?_,_,_,ext_last u h0,h1⟩
         have hul:u.data.toList≠[]:=by
          intro e;have h6:u.size=0:=by rw [Lib.size_eq,e];rfl
          omega
         rcases HF.out with hn | ⟨c,r,hc,hwc⟩
         ·have h5:=HT.out
          rw [hn] at h5;exact absurd (List.append_eq_nil_iff.1 h5.symm).1 hul
         ·have h5:=HT.out
          rw [hc] at h5
          cases hu:u.data.toList with
          | nil=>exact absurd hu hul
          | cons c' r'=>
            rw [hu] at h5;simp only [List.cons_append,List.cons.injEq] at h5
            exact ⟨c',r',rfl,by rw [← h5.1];exact hwc⟩)
      have hx2: ¬ (0:Int)<(u.size:Int)∨((0:Int)<(u.size:Int) ∧ ∃ h:u.size - 1<u.size,¬ (u[u.size - 1].toNat:Int)≤32):=by
       rcases hx with h0 | ⟨h0,h1⟩
       ·exact .inl (by omega)
       ·exact .inr ⟨by omega,h0,by have:=ws_no h1;omega⟩
      clear hgo hx;rcases hx2 with hu0 | ⟨hu0,hlt,hbl⟩
      all_goals
       go_wp2
       have HU0:=hid hu0;clear hu0
       try clear hbl
       try clear hlt
       go_loop [3,4] (fun o i=> ∃ (k:Nat) (O:ByteArray),k≤u.size∧i = .int .i64 k∧o = .string O∧O.data.toList=keepC (u.data.toList.take k)∧O.size≤k) (fun _ i=>u.size - (intOf i).toNat)
       case atStart=>exact ⟨0,⟨#[]⟩,Nat.zero_le _,rfl,rfl,rfl,Nat.le_refl _⟩
       case round=>
        obtain ⟨k,O,hk,rfl,rfl,hO,hOs⟩:=hrel
        have HO:=hid hO;clear hO;by_cases hlt2:k<u.size
        ·by_cases hemp:(0:Int)<(u.size:Int)
         case neg=>exact absurd hlt2 (by omega)
         case pos=>
          have hkk:(k:Int)<(u.size:Int):=by omega
          have HTk:=hid (take_snoc u k hlt2);by_cases he:eyeC u[k]=true
          ·have HO2:=hid (show O.data.toList=keepC (u.data.toList.take (k+1)) by rw [HTk.out,keepC_yes _ _ he];exact HO.out)
           have hd:=eye_yes he;clear he;rcases hd with hd | ⟨hd,hd2⟩ | ⟨hd,hd2,hd3⟩
           all_goals
            go_wp2
            go_round
            case rel=>exact ⟨k+1,O,by omega,by go_num,rfl,HO2.out,by omega⟩
            case measure=>simp [intOf];omega
          ·have he':eyeC u[k]=false:=by simpa using he
           have HO2:=hid (show (O++u.extract k (k+1)).data.toList=keepC (u.data.toList.take (k+1)) by
            rw [HTk.out,keepC_no _ _ he',← HO.out,ByteArray.data_append,Array.toList_append,extract_at u k hlt2])
           have HS2:=hid (show (O++u.extract k (k+1)).size≤k+1 by simp;omega);obtain ⟨hd1,hd2,hd3⟩:=eye_no he'
           clear he he';have hOb:O.size≤1000000:=by omega
           have hUb:u.size≤1000000:=by omega
           have hkb:k≤1000000:=by omega
           go_wp2
           all_goals first | go_round | (exfalso;have h9:=HU0.out;omega)
           all_goals first | exact ⟨k+1,_,by omega,by go_num,rfl,HO2.out,HS2.out⟩ | (simp [intOf];omega)
        ·have hkk: ¬ (k:Int)<(u.size:Int):=by omega
         have HN:=hid (show O=⟨(cleanV s.data.toList).toArray⟩ by
          rw [HC.out];refine ba_ext ?_;rw [HO.out,List.take_of_length_le (by simp;omega)])
         go_wp2
         go_ret
         rw [← HN.out];exact ⟨rfl,rfl⟩

end Go.Proofs.YtolioccofbhliaaGreatDoor

namespace Go.Proofs.YtolioccofbhliaaGreatDoor
open Go.RowKit

def rdN:Nat→List UInt8→Option Nat
 | 0,_=>some 0
 | _+1,[]=>some 0
 | f+1,c::l=>if c=46 then (rdN f l).map (· + 1) else if Lib.hasPrefix (low (c::l)) [37,50,101] then (rdN f (l.drop 2)).map (· + 1) else none

def rdV (l:List UInt8):Option Nat:=rdN l.length l

theorem rdN_fuel: ∀ (f g:Nat) (l:List UInt8),l.length≤f→l.length≤g→rdN f l=rdN g l
 | f,g,[]=>fun _ _=>by cases f<;>cases g<;>rfl
 | 0,g,c::l=>fun h _=>by simp at h
 | f+1,0,c::l=>fun _ h=>by simp at h
 | f+1,g+1,c::l=>fun h1 h2=>by
   simp only [List.length_cons] at h1 h2;simp only [rdN];rw [rdN_fuel f g l (by omega) (by omega),rdN_fuel f g (l.drop 2) (by simp;omega) (by simp;omega)]

theorem rdV_nil:rdV []=some 0:=rfl

theorem rdV_cons (c:UInt8) (l:List UInt8):rdV (c::l)=if c=46 then (rdV l).map (· + 1) else if Lib.hasPrefix (low (c::l)) [37,50,101] then (rdV (l.drop 2)).map (· + 1) else none:=by
 have:rdV (c::l)=rdN (l.length+1) (c::l):=rfl;rw [this];simp only [rdN];rw [show rdN l.length (l.drop 2)=rdV (l.drop 2) from rdN_fuel _ _ _ (by simp) (Nat.le_refl _)];rfl

theorem lowC_is: ∀ n<256,(lowC (UInt8.ofNat n)=37→n=37)∧(lowC (UInt8.ofNat n)=50→n=50)∧(lowC (UInt8.ofNat n)=101→n=101∨n=69):=by decide +kernel

theorem pre2e {c:UInt8} {l:List UInt8} (h:Lib.hasPrefix (low (c::l)) [37,50,101]=true): ∃ x r,c=37∧l=50::x::r∧(x=101∨x=69):=by
 have hp:[37,50,101].isPrefixOf (low (c::l))=true:=h
 rw [List.isPrefixOf_iff_prefix] at hp;obtain ⟨r0,hr⟩:=hp
 match l,hr with
 | [],hr=>simp [low] at hr
 | [a],hr=>simp [low] at hr
 | a::b::r,hr=>
   simp only [low,List.map_cons,List.cons_append,List.nil_append,List.cons.injEq] at hr
   obtain ⟨e1,e2,e3,_⟩:=hr
   have k1:=(lowC_is c.toNat c.toNat_lt).1;have k2:=(lowC_is a.toNat a.toNat_lt).2.1;have k3:=(lowC_is b.toNat b.toNat_lt).2.2;rw [UInt8.ofNat_toNat] at k1 k2 k3;have j1:c=37:=UInt8.toNat_inj.1 (k1 e1.symm);have j2:a=50:=UInt8.toNat_inj.1 (k2 e2.symm);refine ⟨b,r,j1,by rw [j2],?_⟩
   rcases k3 e3.symm with h | h
   ·exact .inl (UInt8.toNat_inj.1 h)
   ·exact .inr (UInt8.toNat_inj.1 h)

theorem pcd_2e (x:UInt8) (r:List UInt8) (hx:x=101∨x=69):pcd (37::50::x::r)=(46,true):=by
 rcases hx with rfl | rfl<;>rfl

theorem unpct_2e (x:UInt8) (r:List UInt8) (hx:x=101∨x=69):unpct (37::50::x::r)=46::unpct r:=by
 rw [unpct_cons,pcd_2e x r hx]
 rfl

theorem unpct_other {c:UInt8} {l:List UInt8} (h:c≠37):unpct (c::l)=c::unpct l:=by
 rw [unpct_cons,pcd_other l c h];rfl

theorem hexTwo: ∀ n<256,is16I ((n:Nat):Int)=true→(0≤val16I ((n:Nat):Int)∧val16I ((n:Nat):Int)≤15)∧(val16I ((n:Nat):Int)=2→n=50)∧(val16I ((n:Nat):Int)=14→n=101∨n=69):=by decide +kernel

theorem hex46 (a b:UInt8) (ha:is16I a.toNat=true) (hb:is16I b.toNat=true) (h:UInt8.ofNat (val16I a.toNat*16+val16I b.toNat).toNat=46):a=50∧(b=101∨b=69):=by
 obtain ⟨h1,h2,_⟩:=hexTwo a.toNat a.toNat_lt ha
 obtain ⟨h3,_,h4⟩:=hexTwo b.toNat b.toNat_lt hb
 have h5:(val16I a.toNat*16+val16I b.toNat).toNat % 256=46:=by
  have:=congrArg UInt8.toNat h;simpa using this
 have h6:val16I a.toNat=2:=by omega
 have h7:val16I b.toNat=14:=by omega
 refine ⟨UInt8.toNat_inj.1 (h2 h6),?_⟩;rcases h4 h7 with h | h
 ·exact .inl (UInt8.toNat_inj.1 h)
 ·exact .inr (UInt8.toNat_inj.1 h)

theorem unpct_dot {c:UInt8} {l r:List UInt8} (h:unpct (c::l)=46::r):(c=46∧unpct l=r)∨(∃ x q,c=37∧l=50::x::q∧(x=101∨x=69)∧unpct q=r):=by
 by_cases hc:c=37
 ·subst hc
  match l,h with
  | [],h=>rw [unpct_cons] at h;exact absurd (List.cons.inj h).1 (by decide)
  | [a],h=>
    rw [unpct_cons] at h;have e:(pcd [37,a]).1=37:=rfl;rw [e] at h;exact absurd (List.cons.inj h).1 (by decide)
  | a::b::q,h=>
    rw [unpct_cons] at h;by_cases hh:(is16I a.toNat&&is16I b.toNat)=true
    ·have e:pcd (37::a::b::q)=(UInt8.ofNat (val16I a.toNat*16+val16I b.toNat).toNat,true):=by
      show (if is16I a.toNat&&is16I b.toNat then _ else _)=_;rw [if_pos hh]
     rw [e] at h;obtain ⟨h1,h2⟩:=List.cons.inj h
     simp only [Bool.and_eq_true] at hh;have:=hex46 a b hh.1 hh.2 h1;exact .inr ⟨b,q,rfl,by rw [this.1],this.2,h2⟩
    ·have e:pcd (37::a::b::q)=(37,false):=by
      show (if is16I a.toNat&&is16I b.toNat then _ else _)=_;rw [if_neg hh]
     rw [e] at h;exact absurd (List.cons.inj h).1 (by decide)
 ·rw [unpct_other hc] at h
  exact .inl ⟨(List.cons.inj h).1,(List.cons.inj h).2⟩

theorem rdV_37 {x:UInt8} {r:List UInt8} (hx:x=101∨x=69):rdV (37::50::x::r)=(rdV r).map (· + 1):=by
 rw [rdV_cons,if_neg (by decide),if_pos]
 ·rfl
 ·rcases hx with rfl | rfl<;>rfl

theorem rdV_46 (l:List UInt8):rdV (46::l)=(rdV l).map (· + 1):=by rw [rdV_cons,if_pos rfl]

theorem rd_of_unpct: ∀ (n:Nat) (l:List UInt8),unpct l=List.replicate n 46→rdV l=some n
 | 0,[]=>fun _=>rfl
 | 0,c::l=>fun h=>by rw [unpct_cons] at h;cases h
 | n+1,[]=>fun h=>by cases h
 | n+1,c::l=>fun h=>by
   rw [List.replicate_succ] at h;rcases unpct_dot h with ⟨rfl,h2⟩ | ⟨x,q,rfl,rfl,hx,h2⟩
   ·rw [rdV_46,rd_of_unpct n l h2];rfl
   ·rw [rdV_37 hx,rd_of_unpct n q h2];rfl

theorem unpct_of_rd: ∀ (n:Nat) (l:List UInt8),rdV l=some n→unpct l=List.replicate n 46
 | n,[]=>fun h=>by
   have:n=0:=by simpa [rdV_nil] using h.symm
   subst this;rfl
 | n,c::l=>fun h=>by
   rw [rdV_cons] at h;split at h
   ·rename_i hc
    subst hc
    cases hr:rdV l with
    | none=>rw [hr] at h;cases h
    | some m=>
      rw [hr] at h;simp only [Option.map_some,Option.some.injEq] at h
      subst h;rw [unpct_other (by decide),unpct_of_rd m l hr];rfl
   ·split at h
    ·rename_i hp
     obtain ⟨x,r,rfl,rfl,hx⟩:=pre2e hp
     rw [unpct_2e x r hx]
     cases hr:rdV r with
     | none=>rw [show List.drop 2 (50::x::r)=r from rfl,hr] at h;cases h
     | some m=>
       rw [show List.drop 2 (50::x::r)=r from rfl,hr] at h;simp only [Option.map_some,Option.some.injEq] at h
       subst h;rw [unpct_of_rd m r hr];rfl
    ·cases h
termination_by n l => l.length

theorem rd_dots (l:List UInt8):((rdV l).getD 0=1 ↔ dotsV l=1)∧((rdV l).getD 0=2 ↔ dotsV l=2):=by
 have h1:(rdV l).getD 0=1 ↔ unpct l=[46]:=by
  constructor
  ·intro h
   cases hr:rdV l with
   | none=>rw [hr] at h;cases h
   | some m=>rw [hr] at h;simp only [Option.getD_some] at h;subst h;exact unpct_of_rd 1 l hr
  ·intro h
   rw [rd_of_unpct 1 l h];rfl
 have h2:(rdV l).getD 0=2 ↔ unpct l=[46,46]:=by
  constructor
  ·intro h
   cases hr:rdV l with
   | none=>rw [hr] at h;cases h
   | some m=>rw [hr] at h;simp only [Option.getD_some] at h;subst h;exact unpct_of_rd 2 l hr
  ·intro h
   rw [rd_of_unpct 2 l h];rfl
 rw [h1,h2]
 unfold dotsV;constructor
 ·constructor
  ·intro h;rw [if_pos h]
  ·intro h
   split at h
   ·assumption
   ·split at h<;>omega
 ·constructor
  ·intro h;rw [if_neg (by rw [h];decide),if_pos h]
  ·intro h
   split at h
   ·omega
   ·split at h
    ·assumption
    ·omega

set_option maxHeartbeats 2000000 in
set_option maxRecDepth 100000 in
theorem rdots_any (s:ByteArray) (w:World) (hs:s.size≤1000000):
 Calls Tryz.prog 255 #[.string s] w fun e w'=>e = .returned (.int .i64 ((rdV s.data.toList).getD 0:Nat))∧Below w.heap.size w w':=by
 go_enter Tryz.func255,Tryz.ntmps255
 go_wp2
 go_loopw [0,3] (fun v n wr=> ∃ (T:ByteArray) (k:Nat),v = .string T∧n = .int .i64 k∧T.size+k≤s.size∧rdV s.data.toList=(rdV T.data.toList).map (· + k)∧Below w.heap.size w wr) (fun v _ _=>strZ v)
 case atStart=>exact ⟨s,0,rfl,rfl,by omega,by cases rdV s.data.toList<;>rfl,Below.refl _ _⟩
 case round=>
  obtain ⟨T,k,rfl,rfl,hTk,hrd,hbw⟩:=hrel
  have HR:=hid hrd;clear hrd;by_cases h0:T.data.toList=[]
  ·have he:=empty_yes T h0
   have HN:=hid (show (rdV s.data.toList).getD 0=k by rw [HR.out,h0,rdV_nil];simp);clear h0
   go_wp2
   go_ret
   rw [HN.out];exact ⟨rfl,hbw⟩
  ·have he:=empty_no T h0
   have hsz:0<T.size:=by
    rw [Lib.size_eq];exact List.length_pos_iff.2 h0
   obtain ⟨r,hr⟩:=list_one T hsz
   have hsz1:(1:Int)≤(T.size:Int):=by omega
   clear h0;by_cases h46:T[0]=46
   ·have e46:((T[0].toNat:Int)==46)=true:=byte_is h46
    have HR2:=hid (show rdV s.data.toList=(rdV (T.extract 1 T.size).data.toList).map (· + (k+1)) by
     rw [HR.out,extract_drop,hr,h46,rdV_46]
     show _=(rdV r).map _
     cases rdV r with
     | none=>rfl
     | some m=>simp;omega)
    clear hr h46
    go_wp2
    go_roundw
    case rel=>exact ⟨T.extract 1 T.size,k+1,rfl,by go_num,by simp;omega,HR2.out,hbw⟩
    case measure=>simp [strZ];omega
   ·have e46:((T[0].toNat:Int)==46)=false:=byte_not h46
    obtain ⟨L,hL⟩: ∃ L:ByteArray,L=⟨(low T.data.toList).toArray⟩:=⟨_,rfl⟩
    have hLl:L.data.toList=low T.data.toList:=by rw [hL]
    have hLs:L.size≤1000000:=by rw [hL,Lib.size_eq];show (low T.data.toList).length≤_;rw [show (low T.data.toList)=T.data.toList.map lowC from rfl,List.length_map,← Lib.size_eq];omega
    have HLo:Hid (∀ w:World,Calls Tryz.prog 75 #[.string T] w fun e w'=>e = .returned (.string L)∧Below w.heap.size w w'):=fun w=>by
     rw [hL];exact rlower_any T w (by omega)
    have HBe:Hid (∀ w:World,Calls Tryz.prog 215 #[.string L,.string ⟨#[37,50,101]⟩] w fun e w'=>e = .returned (.bool (Lib.hasPrefix (low T.data.toList) [37,50,101]))∧w=w'):=fun w=>by
     have:=begins_any L ⟨#[37,50,101]⟩ w (by omega) (by decide)
     rw [hLl] at this;exact this
    clear hL hLl
    cases hp:Lib.hasPrefix (low T.data.toList) [37,50,101] with
    | true=>
      have hp2:=hp;rw [hr] at hp2;obtain ⟨x,q,hc,hq,hx⟩:=pre2e hp2
      have h3:T.size=q.length+3:=by rw [Lib.size_eq,hr,hq];rfl
      have h3':(3:Int)≤(T.size:Int):=by omega
      have HR2:=hid (show rdV s.data.toList=(rdV (T.extract 3 T.size).data.toList).map (· + (k+1)) by
       rw [HR.out,extract_drop,hr,hq,hc,rdV_37 hx]
       show _=(rdV q).map _
       cases rdV q with
       | none=>rfl
       | some m=>simp;omega)
      rw [hp] at HBe;clear hr h46 hp hp2 hc hq hx h3
      go_wp2_with fail
      refine (HLo.out _).mono ?_;rintro e w2 ⟨rfl,hb2⟩
      have HB2:=hid (below2 hbw hb2);clear hb2
      go_wp2_with fail
      refine (HBe.out _).mono ?_;rintro e w' ⟨rfl,rfl⟩
      go_wp2
      go_roundw
      case rel=>exact ⟨T.extract 3 T.size,k+1,rfl,by go_num,by simp;omega,HR2.out,HB2.out⟩
      case measure=>simp [strZ];omega
    | false=>
      have HN:=hid (show (rdV s.data.toList).getD 0=0 by
       rw [HR.out,hr,rdV_cons,if_neg h46,← hr,hp];rfl)
      rw [hp] at HBe;clear hr h46 hp
      go_wp2_with fail
      refine (HLo.out _).mono ?_;rintro e w2 ⟨rfl,hb2⟩
      have HB2:=hid (below2 hbw hb2);clear hb2
      go_wp2_with fail
      refine (HBe.out _).mono ?_;rintro e w' ⟨rfl,rfl⟩
      go_wp2
      go_ret
      rw [HN.out];exact ⟨rfl,HB2.out⟩

end Go.Proofs.YtolioccofbhliaaGreatDoor
