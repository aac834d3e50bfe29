/-
  Walks and plain facts that this claim leans on, put together out of 4 texts: Ewb, Ewc, Ewt, Eiv.
-/
import Derived.Test.YtolioccofbhliaaGreatDoorProg
import Derived.Test.YtolioccofbhliaaGreatDoorQp1
import Derived.Test.YtolioccofbhliaaGreatDoorQp2
import Derived.Test.YtolioccofbhliaaGreatDoorQp3
import Derived.Test.YtolioccofbhliaaGreatDoorQp4
import Derived.Test.YtolioccofbhliaaGreatDoorQp5
import Derived.Test.YtolioccofbhliaaGreatDoorQp6
import Derived.Test.YtolioccofbhliaaGreatDoorQp7
import Derived.Test.YtolioccofbhliaaGreatDoorQp8
import Derived.Test.YtolioccofbhliaaGreatDoorQp9
import Derived.Test.YtolioccofbhliaaGreatDoorQp10
import Derived.Test.YtolioccofbhliaaGreatDoorQp11
import Derived.Test.YtolioccofbhliaaGreatDoorQp12
import Derived.Test.YtolioccofbhliaaGreatDoorQp13
import Derived.Test.YtolioccofbhliaaGreatDoorQp14
import Derived.Test.YtolioccofbhliaaGreatDoorQp15
import Derived.Test.YtolioccofbhliaaGreatDoorQp16
import Derived.Test.YtolioccofbhliaaGreatDoorQp17
import Derived.Test.YtolioccofbhliaaGreatDoorQp18
import Derived.Test.YtolioccofbhliaaGreatDoorQp19
import Derived.Test.YtolioccofbhliaaGreatDoorQp20
import Derived.Test.YtolioccofbhliaaGreatDoorQp21
import Derived.Test.YtolioccofbhliaaGreatDoorQp22
import Derived.Test.YtolioccofbhliaaGreatDoorQp23
import Derived.Test.YtolioccofbhliaaGreatDoorQp24
import Derived.Test.YtolioccofbhliaaGreatDoorQp25
import Derived.Test.YtolioccofbhliaaGreatDoorQp26
import Derived.Test.YtolioccofbhliaaGreatDoorQp27
import Derived.Test.YtolioccofbhliaaGreatDoorQp28
import Derived.Test.YtolioccofbhliaaGreatDoorQg1
import Derived.Test.YtolioccofbhliaaGreatDoorQg5
import Derived.Deep.Cut
import Derived.Deep.QuietTactic
import Derived.BigQuiet
import Derived.BigRegion
import Derived.Deep.RegionHeld
import Derived.Deep.CutRange
import Derived.Lib.IndexMore
import Derived.Lib.Join
import Derived.Lib.LastIndexByte
import Derived.WalkKit
import Derived.Lib.Strings
import Derived.Lib.UnsafeStr
import Derived.Laws.IdiomStrings
import Derived.Laws.AppendOwn
import Derived.Laws.BitsAllLaws
import Derived.Lib.Bytealg
import Derived.Lib.BufferMore
import Derived.Lib.BufferRead
import Derived.Lib.RuneBytes
import Derived.Laws.RangeAny
import Derived.LoopN
import Derived.RegionTactic
import Derived.Deep.RegionWith
import Derived.OwnWalk
import Derived.Deep.RegionLaw
import Derived.Laws.OwnMore
import Derived.Deep.LoopGhost
import Derived.Shelf.Strings.Builder1
import Derived.Shelf.Strings.Builder2
import Derived.Shelf.Strings.OnBuilder
import Derived.Shelf.Strings.Trim
import Derived.Shelf.Small.Utf8
import Derived.Shelf.Small.Bits
import Derived.Shelf.Small.Strs
import Derived.Shelf.Small.Wraps
import Derived.Shelf.Strings.BuilderF
import Derived.Shelf.Strings.BuilderK
import Derived.Shelf.Strings.Builder2Cap
import Derived.Shelf.Strconv.Itoa0
import Derived.Shelf.Strconv.Itoa1
import Derived.Shelf.LaysM
import Derived.Shelf.Strconv.Itoa2
import Derived.Shelf.Strconv.Itoa3
import Derived.Shelf.Strings.Search1
import Derived.Shelf.Strings.Search2
import Derived.Shelf.Strings.Cut
import Derived.Shelf.Strings.Shaped
import Derived.Shelf.Sort.Plain
import Derived.Shelf.Strings.Prefix
import Derived.Shelf.Strings.Runes
import Derived.Shelf.Strings.IndexAny
import Derived.Shelf.Strings.AsciiSet
import Derived.Shelf.Strings.IndexAnyAll
import Derived.Shelf.Unicode.DecodeSlow
import Derived.Shelf.Unicode.DecodeAny
import Derived.Shelf.Unicode.DecodeLast
import Derived.Shelf.Slices.CompactS
import Derived.Shelf.Slices.In.SortNone
import Derived.Ground.SlgnProg
import Derived.Shelf.SlicesE.Compact
import Derived.Ground.SlgfProg
import Derived.Shelf.SlicesE.IndexFunc
import Derived.Shelf.SlicesE.DeleteFunc
import Derived.Laws.AppendOwnNone
import Derived.Scope
import Derived.ScopeJumps
import Derived.WalkMore
import Derived.Lib.IndexAny
import Derived.Lib.Replace
import Derived.Lib.TrimByte
import Derived.Lib.ItoaNum
import Derived.Lib.DecodeN
import Derived.Lib.OthersKept
import Derived.Laws.BytesString
import Derived.Deep.WholeRow
import Derived.Lib.AppendStr
import Derived.WalkSpells
import Derived.WalkLawsBesides
import Derived.Lib.AppendIntMem
import Derived.Lib.SmallJoins
import Derived.WalkSmall
import Derived.Laws.CopyOwn
import Derived.Laws.ResultCell
import Derived.Deep.MidRow
import Derived.Lib.FrozenHead2
import Derived.Lib.Builder
import Derived.Lib.SlTrimSet
import Derived.Below
import Derived.Shelf.Strings.SlTrimAscii
import Derived.Laws.Runes
import Derived.Deep.RegionHeldLaw
import Derived.Maps.OwnSet
import Derived.Maps.OwnOps
import Derived.Maps.AppendAt
import Derived.StringKeys
import Derived.Lib.FieldsP
import Derived.Lib.LaidTab
import Derived.Shelf.GgClosure.GivesRunes
import Derived.Laws.BitsAll
import Derived.Laws.Shifts
import Derived.Deep.DeepAppendRoom
import Derived.Laws.CopyRow
import Derived.Sort.OwnSorted
import Derived.Lib.SlicesCompact
import Derived.Sort.KeysCollected
import Derived.Lib.Case
import Derived.Laws.Rows
import Derived.Laws.MakeOwn
set_option linter.unusedSimpArgs false
set_option linter.unusedVariables false

namespace Go.Proofs.YtolioccofbhliaaGreatDoor
structure SpU (u : Adr) : Prop where
 spec:specV u.scheme=true
 str:Str u
 good:Good3 u

theorem SpU.host {u:Adr} (h:SpU u):u.host≠[]∧u.hasHost=true∧u.opq=false∧u.path≠[]:=by
 obtain ⟨h1,h2,h3⟩:=h.good.special h.spec
 refine ⟨h1,?_,h3,h2⟩
 cases e:u.hasHost with
 | true=>rfl
 | false=>exact absurd (h.str.pre.noh e).2.2.1 h1

theorem hasP_port {u:Adr} (h:Str u) (hs:specV u.scheme=true):0≤hasP u∧hasP u≤65535:=by
 unfold hasP;have h2:ownV u.scheme≤65535:=by unfold ownV;repeat' split;all_goals omega
 have h3:0≤ownV u.scheme:=of_decide_eq_true hs;rcases h.pre.prt with e | ⟨e,e2,_⟩
 ·rw [if_pos e];exact ⟨h3,h2⟩
 ·rw [if_neg (by omega)];exact ⟨e,e2⟩

theorem SpU.read {u:Adr} (h:SpU u) (hl:(textV u).length≤4096):readV (textV u) none = .ok u:=
 text_read h.str h.good (fun e=>by rw [h.host.2.2.1] at e;cases e) hl

theorem spec_len {s:List UInt8} (h:specV s=true):s.length≤5∧s≠sBlob:=by
 unfold specV ownV at h;split at h
 ·rename_i e;rcases e with rfl | rfl<;>decide
 ·split at h
  ·rename_i e;rcases e with rfl | rfl<;>decide
  ·split at h
   ·rename_i e;subst e;decide
   ·exact absurd h (by decide)

theorem host_len {t a:List UInt8} (h:parseV t true=some a):a.length≤max t.length 102:=by
 unfold parseV at h;split at h
 ·unfold bracketV at h
  split at h
  ·cases hs:sixV (Lib.trimSuffix (t.drop 1) [93]) with
   | none=>rw [hs] at h;cases h
   | some x=>
     rw [hs] at h;simp only [Option.map_some,Option.some.injEq] at h
     have:=text6_le x (sixV_ok hs).1;rw [← h];simp;omega
  ·cases h
 ·rw [if_pos rfl] at h
  unfold nameV at h;split at h
  ·cases h
  ·split at h
   ·cases hf:fourV (low (unpct t)) with
    | none=>rw [hf] at h;cases h
    | some n=>
      rw [hf] at h;simp only [Option.map_some,Option.some.injEq] at h
      rw [← h];have:=text4_le n;omega
   ·simp only [Option.some.injEq] at h
    have h1:=unpct_le t;rw [← h,show low (unpct t)=(unpct t).map lowC from rfl,List.length_map];omega

theorem at_le4 (l:List UInt8):(atV l).2.length≤l.length:=by
 unfold atV;split
 ·simp only [List.length_reverse]
  have:=(List.takeWhile_prefix (l:=l.reverse) (fun x=>x != 64)).length_le;rw [List.length_reverse] at this;exact this
 ·exact Nat.le_refl _

theorem auth_hlen {sc s a b h:List UInt8} {p:Int} (hs:specV sc=true) (e:authV sc s = .ok (a,b,h,p)):h.length≤max s.length 102:=by
 unfold authV at e;split at e
 ·cases e
 ·split at e
  ·cases e
  ·rename_i h' hh
   split at e
   ·cases e
   ·injection e with e
    simp only [Prod.mk.injEq] at e;rw [hs] at hh;have h1:=host_len hh;have h2:=at_le4 s;rw [← e.2.2.1];rw [List.length_take] at h1;omega

theorem withPath_hosts (u:Adr) (L:List (List UInt8)) (r:List UInt8):(withPath u L r).scheme=u.scheme∧(withPath u L r).host=u.host:=by
 unfold withPath withQuery;split<;>exact ⟨rfl,rfl⟩

theorem read_hlen {s:List UInt8} {u:Adr} (e:readV s none = .ok u) (hs:specV u.scheme=true):u.host.length≤max s.length 102:=by
 have wa: ∀ {u v:Adr} {r:List UInt8},withAuth u r = .ok v→v.scheme=u.scheme∧(specV u.scheme=true→v.host.length≤max r.length 102):=by
  intro u v r e;unfold withAuth at e;split at e
  ·cases e
  ·rename_i a b h p hh
   injection e with e
   subst e;refine ⟨(withPath_hosts _ _ _).1,fun hs=> ?_⟩;rw [(withPath_hosts _ _ _).2];have h1:=auth_hlen hs hh;have h2:=(List.takeWhile_prefix (l:=r) (fun c=> !([47,63]:List UInt8).contains c)).length_le;have h3:(aheadV [47,63] r).1.length≤r.length:=h2;show h.length≤_;omega
 have hb:(beginU s).2.length≤s.length:=by
  have c1:=part_le 35 (cleanV s);have c0:(cleanV s).length≤s.length:=by
   unfold cleanV trimV;refine Nat.le_trans (List.length_filter_le _ _) ?_;rw [List.length_reverse];refine Nat.le_trans (List.dropWhile_suffix _).length_le ?_;rw [List.length_reverse];exact (List.dropWhile_suffix _).length_le
  have c2:=part_le 58 (part 35 (cleanV s)).1;unfold beginU;simp only;unfold schemeV;split
  ·simp only [Option.getD_some];omega
  ·simp only [Option.getD_none];omega
 unfold readV at e;split at e
 ·cases e
 ·simp only at e
  split at e
  ·cases e
  ·unfold startV at e
   split at e
   ·rename_i hsp
    have h1:=(wa e).2 hsp;have h2:(skip47 (slashV (beginU s).2)).length≤(beginU s).2.length:=by
     have h3:(skip47 (slashV (beginU s).2)).length≤(slashV (beginU s).2).length:=(List.dropWhile_suffix _).length_le;have h4:(slashV (beginU s).2).length=(beginU s).2.length:=by
      unfold slashV aheadV;simp only [List.length_append,List.length_map]
      rw [← List.length_append,List.takeWhile_append_dropWhile]
     omega
    omega
   ·rename_i hsp
    split at e
    ·rw [(wa e).1] at hs
     exact absurd hs hsp
    ·split at e
     ·injection e with e
      subst e;rw [(withPath_hosts _ _ _).1] at hs;exact absurd hs hsp
     ·injection e with e
      subst e;have:(withQuery { (beginU s).1 with opq:=true,path:=[pct 1 (aheadV [63] (beginU s).2).1] } (aheadV [63] (beginU s).2).2).scheme=(beginU s).1.scheme:=by
       unfold withQuery;split<;>rfl
      rw [this] at hs;exact absurd hs hsp

end Go.Proofs.YtolioccofbhliaaGreatDoor

namespace Go.Proofs.YtolioccofbhliaaGreatDoor
theorem read_sp {s:List UInt8} {u:Adr} (e:readV s none = .ok u) (hs:specV u.scheme=true):SpU u:=⟨hs,read_str e,read_good e⟩

end Go.Proofs.YtolioccofbhliaaGreatDoor

namespace Go.Proofs.YtolioccofbhliaaGreatDoor
def badHd (l:List UInt8):Bool:=(pcd l).2&&inSetI (pcd l).1.toNat 1

def cE:List UInt8→Nat
 | []=>0
 | c::l=>(if badHd (c::l) then 1 else 0)+cE l

theorem pcd_yes {c:UInt8} {l:List UInt8} (h:(pcd (c::l)).2=true):c=37 ∧ ∃ p q r,l=p::q::r∧p≠37∧q≠37∧p≠92∧q≠92:=by
 by_cases hc:c=37
 ·subst hc
  match l,h with
  | [],h=>cases h
  | [a],h=>cases h
  | a::b::r,h=>
    refine ⟨rfl,a,b,r,rfl,?_⟩
    have h2:(is16I a.toNat&&is16I b.toNat)=true:=by
     cases e:(is16I a.toNat&&is16I b.toNat) with
     | true=>rfl
     | false=>
       have:pcd (37::a::b::r)=(37,false):=by unfold pcd;simp only;rw [e];rfl
       rw [this] at h;cases h
    rw [Bool.and_eq_true] at h2;have key: ∀ c:UInt8,is16I c.toNat=true→c≠37∧c≠92:=fun c hc=>by
     have:=u8_all (P:=fun c=> !is16I c.toNat||(c != 37&&c != 92)) (by decide +kernel) c
     rw [hc] at this;simpa using this
    exact ⟨(key a h2.1).1,(key b h2.2).1,(key a h2.1).2,(key b h2.2).2⟩
 ·rw [pcd_other l c hc] at h;cases h

theorem bad_yes {c:UInt8} {l:List UInt8} (h:badHd (c::l)=true):c=37 ∧ ∃ p q r,l=p::q::r∧p≠37∧q≠37∧p≠92∧q≠92:=by
 unfold badHd at h;rw [Bool.and_eq_true] at h;exact pcd_yes h.1

theorem cE_ne {c:UInt8} {l:List UInt8} (h:c≠37):cE (c::l)=cE l:=by
 have:badHd (c::l)=false:=by
  cases e:badHd (c::l) with
  | false=>rfl
  | true=>exact absurd (bad_yes e).1 h
 rw [cE,this];simp

theorem cE_two {p q:UInt8} {r:List UInt8} (hp:p≠37) (hq:q≠37):cE (p::q::r)=cE r:=by rw [cE_ne hp,cE_ne hq]

theorem cE_le1 (c:UInt8) (l:List UInt8):cE (c::l)≤1+cE l:=by rw [cE];split<;>omega

theorem cE_ge (c:UInt8) (l:List UInt8):cE l≤cE (c::l):=by rw [cE];omega

theorem cE_pct (x:List UInt8):(pct 1 x).length≤x.length+2*cE (pct 1 x):=by
 induction x with
 | nil=>exact Nat.le_refl _
 | cons c x ih=>
   have e:pct 1 (c::x)=pct1 1 c++pct 1 x:=rfl;rw [e];unfold pct1
   cases hc:inSetI c.toNat 1 with
   | false=>
     rw [if_neg (by decide)];have:=cE_ge c (pct 1 x);simp only [List.cons_append,List.nil_append,List.length_cons]
     omega
   | true=>
     rw [if_pos rfl];have hd:=u8_all (P:=fun c=>pcd (esc c)==(c,true)) (by decide +kernel) c
     have hp:pcd (esc c++pct 1 x)=(c,true):=(beq_iff_eq.1 hd)
     have h1:badHd (esc c++pct 1 x)=true:=by unfold badHd;rw [hp,hc];rfl
     have h2:esc c++pct 1 x=37::hexD (c.toNat / 16)::hexD (c.toNat % 16)::pct 1 x:=rfl;have h3:cE (pct 1 x)+1≤cE (esc c++pct 1 x):=by
      rw [h2] at h1 ⊢;rw [cE,h1,if_pos rfl]
      have a:=cE_ge (hexD (c.toNat / 16)) (hexD (c.toNat % 16)::pct 1 x);have b:=cE_ge (hexD (c.toNat % 16)) (pct 1 x);omega
     have h4:(esc c++pct 1 x).length=(pct 1 x).length+3:=by rw [h2];simp
     rw [List.length_cons];omega

theorem cE_un: ∀ (n:Nat) (t:List UInt8),t.length≤n→0<cE t → ∃ d ∈ unpct t,inSetI d.toNat 1=true:=by
 intro n
 induction n with
 | zero=>
   intro t ht h;have:t=[]:=List.eq_nil_of_length_eq_zero (by omega)
   subst this;exact absurd h (by decide)
 | succ n ih=>
   intro t ht h
   match t,ht,h with
   | [],_,h=>exact absurd h (by decide)
   | c::l,ht,h=>
     rw [unpct_cons]
     cases hb:badHd (c::l) with
     | true=>
       unfold badHd at hb;rw [Bool.and_eq_true] at hb;exact ⟨_,List.mem_cons_self,hb.2⟩
     | false=>
       rw [cE,hb] at h
       have h:0<cE l:=by simpa using h
       cases hp:(pcd (c::l)).2 with
       | true=>
         obtain ⟨-,p,q,r,rfl,hp1,hq1,-⟩:=pcd_yes hp
         rw [cE_two hp1 hq1] at h;obtain ⟨d,hd,hs⟩:=ih r (by simp at ht;omega) h
         exact ⟨d,List.mem_cons_of_mem _ (by simpa using hd),hs⟩
       | false=>
         obtain ⟨d,hd,hs⟩:=ih l (by simp at ht;omega) h
         exact ⟨d,List.mem_cons_of_mem _ (by simpa using hd),hs⟩

theorem cE_app: ∀ (u v:List UInt8),cE (u++v)≤cE u+cE v+1
 | [],v=>by show cE v≤cE []+cE v+1;omega
 | [c],v=>by
   have:=cE_le1 c v;show cE (c::v)≤cE [c]+cE v+1;omega
 | [c,d],v=>by
   show cE (c::d::v)≤cE [c,d]+cE v+1
   cases hb:badHd (c::d::v) with
   | true=>
     obtain ⟨-,p,q,r,e,hp,-⟩:=bad_yes hb
     injection e with e1 e2
     rw [cE,hb,if_pos rfl,cE_ne (by rw [e1];exact hp)]
     omega
   | false=>
     rw [cE,hb]
     have:=cE_le1 d v;simp only [Bool.false_eq_true,if_false]
     omega
 | c::d::e::u,v=>by
   have ih:=cE_app (d::e::u) v;have hb:badHd (c::d::e::(u++v))=badHd (c::d::e::u):=by
    unfold badHd;have:pcd (c::d::e::(u++v))=pcd (c::d::e::u):=by
     by_cases hc:c=37
     ·subst hc;rfl
     ·rw [pcd_other _ c hc,pcd_other _ c hc]
    rw [this]
   show cE (c::(d::e::(u++v)))≤cE (c::(d::e::u))+cE v+1;have e1:cE (c::(d::e::(u++v)))=(if badHd (c::d::e::(u++v)) then 1 else 0)+cE (d::e::(u++v)):=rfl;have e2:cE (c::(d::e::u))=(if badHd (c::d::e::u) then 1 else 0)+cE (d::e::u):=rfl;rw [e1,e2,hb]
   have:cE (d::e::(u++v))≤cE (d::e::u)+cE v+1:=ih;omega

theorem cE_half: ∀ (n:Nat) (u:List UInt8),u.length≤n→2*cE u≤u.length:=by
 intro n
 induction n with
 | zero=>
   intro u hu;have:u=[]:=List.eq_nil_of_length_eq_zero (by omega)
   subst this;exact Nat.le_refl _
 | succ n ih=>
   intro u hu
   match u,hu with
   | [],_=>exact Nat.le_refl _
   | c::l,hu=>
     cases hb:badHd (c::l) with
     | true=>
       obtain ⟨-,p,q,r,rfl,hp,hq,-⟩:=bad_yes hb
       rw [cE,hb,if_pos rfl,cE_two hp hq]
       have:=ih r (by simp at hu;omega)
       simp only [List.length_cons];omega
     | false=>
       rw [cE,hb]
       have:=ih l (by simp at hu;omega)
       simp only [Bool.false_eq_true,if_false,List.length_cons]
       omega

theorem cE_infix {t P:List UInt8} (h:t <:+: P):t.length+2*cE P≤P.length+2*cE t+4:=by
 obtain ⟨a,b,rfl⟩:=h
 have h1:=cE_app (a++t) b;have h2:=cE_app a t;have h3:=cE_half _ a (Nat.le_refl _);have h4:=cE_half _ b (Nat.le_refl _);simp only [List.length_append];omega

theorem cE_slash (a b:List UInt8):cE (a++b)≤cE (a.map slC++b):=by
 induction a with
 | nil=>exact Nat.le_refl _
 | cons c a ih=>
   show cE (c::(a++b))≤cE (slC c::(a.map slC++b))
   cases hb:badHd (c::(a++b)) with
   | false=>
     rw [cE,hb]
     have:=cE_ge (slC c) (a.map slC++b);simp only [Bool.false_eq_true,if_false]
     omega
   | true=>
     obtain ⟨rfl,p,q,r,e,hp,hq,hp2,hq2⟩:=bad_yes hb
     have hs: ∃ r',a.map slC++b=p::q::r':=by
      match a,e with
      | [],e=>exact ⟨r,e⟩
      | [x],e=>
        injection e with e1 e2
        subst e1;refine ⟨r,?_⟩
        show slC x::b=_;rw [show b=q::r from e2,show slC x=x by unfold slC;rw [if_neg hp2]]
      | x::y::a',e=>
        injection e with e1 e2
        injection e2 with e2 e3
        subst e1 e2;refine ⟨a'.map slC++b,?_⟩;show slC x::slC y::(a'.map slC++b)=_;rw [show slC x=x by unfold slC;rw [if_neg hp2],show slC y=y by unfold slC;rw [if_neg hq2]]
     obtain ⟨r',hr'⟩:=hs
     have hb2:badHd (slC 37::(a.map slC++b))=true:=by
      rw [hr',show slC 37=37 by decide]
      rw [e] at hb;exact hb
     rw [cE,hb,if_pos rfl]
     rw [show cE (slC 37::(a.map slC++b))=1+cE (a.map slC++b) by rw [cE,hb2,if_pos rfl]];omega

theorem host_in {t h:List UInt8} (hp:parseV t true=some h):h.length≤102∨(cE t=0∧h.length≤t.length):=by
 unfold parseV at hp;split at hp
 ·left
  unfold bracketV at hp;split at hp
  ·cases hs:sixV (Lib.trimSuffix (t.drop 1) [93]) with
   | none=>rw [hs] at hp;cases hp
   | some x=>
     rw [hs] at hp;simp only [Option.map_some,Option.some.injEq] at hp
     have:=text6_le x (sixV_ok hs).1;rw [← hp];simp;omega
  ·cases hp
 ·rw [if_pos rfl] at hp
  unfold nameV at hp;split at hp
  ·cases hp
  ·rename_i hno
   split at hp
   ·left
    cases hf:fourV (low (unpct t)) with
    | none=>rw [hf] at hp;cases hp
    | some n=>
      rw [hf] at hp;simp only [Option.map_some,Option.some.injEq] at hp
      rw [← hp];have:=text4_le n;omega
   ·right
    simp only [Option.some.injEq] at hp;have h1:=unpct_le t;refine ⟨?_,by rw [← hp,show low (unpct t)=(unpct t).map lowC from rfl,List.length_map];omega⟩
    by_cases h0:0<cE t
    ·obtain ⟨d,hd,hs⟩:=cE_un _ t (Nat.le_refl _) h0
     have hall:allN (low (unpct t))=true:=by
      cases e:allN (low (unpct t)) with
      | true=>rfl
      | false=>exact absurd (.inr (.inl e)) hno
     unfold allN at hall;have:=List.all_eq_true.1 hall (lowC d) (List.mem_map.2 ⟨d,hd,rfl⟩);have hk:=u8_all (P:=fun c=> !inSetI c.toNat 1 || !nameB (lowC c)) (by decide +kernel) d
     rw [hs,this] at hk
     cases hk
    ·omega

theorem trim_infix (l:List UInt8):trimV l <:+: l:=by
 unfold trimV;have h1:(l.dropWhile wsC) <:+ l:=List.dropWhile_suffix _;have h2:((l.dropWhile wsC).reverse.dropWhile wsC).reverse <+: (l.dropWhile wsC):=by
  have:=(List.dropWhile_suffix (l:=(l.dropWhile wsC).reverse) wsC);have:=List.reverse_prefix.2 this;rw [List.reverse_reverse] at this;exact this
 exact h2.isInfix.trans h1.isInfix

theorem part_infix (c:UInt8) (l:List UInt8):(part c l).1 <:+: l∧(part c l).2.1 <:+: l:=by
 rcases first_split c l with h | ⟨a,r,h,rfl⟩
 ·rw [part_none c l h];exact ⟨List.infix_refl _,List.nil_infix⟩
 ·rw [part_some c a r h]
  exact ⟨(List.prefix_append _ _).isInfix,⟨a++[c],[],by simp⟩⟩

theorem clean_infix {l:List UInt8} (h: ∀ c ∈ l,32≤c.toNat):cleanV l <:+: l:=by
 have h1:=trim_infix l;have:cleanV l=trimV l:=by
  unfold cleanV;rw [List.filter_eq_self];intro c hc;have h2:=h c (h1.subset hc);have:=u8_all (P:=fun c=>decide (c.toNat<32) || !eyeC c) (by decide +kernel) c
  rw [Bool.or_eq_true,decide_eq_true_eq] at this
  rcases this with h3 | h3
  ·omega
  ·exact h3
 rw [this];exact h1

theorem at_infix (l:List UInt8):(atV l).2 <:+: l:=by
 unfold atV;split
 ·have:=(List.takeWhile_prefix (l:=l.reverse) (fun x=>x != 64))
  have:=List.reverse_suffix.2 this;rw [List.reverse_reverse] at this;exact this.isInfix
 ·exact List.infix_refl _

theorem read_inn {P:List UInt8} {B:Adr} (e:readV P none = .ok B) (hs:specV B.scheme=true) (h32: ∀ c ∈ P,32≤c.toNat): ∃ t rest,parseV t true=some B.host∧rest <:+: P∧t <:+: slashV rest:=by
 have wa: ∀ {u v:Adr} {r:List UInt8},withAuth u r = .ok v→v.scheme=u.scheme∧(specV u.scheme=true → ∃ t,parseV t true=some v.host∧t <:+: r):=by
  intro u v r e;unfold withAuth at e;split at e
  ·cases e
  ·rename_i a b h p hh
   injection e with e
   subst e;refine ⟨(withPath_hosts _ _ _).1,fun hs=> ?_⟩;rw [(withPath_hosts _ _ _).2];unfold authV at hh;split at hh
   ·cases hh
   ·split at hh
    ·cases hh
    ·rename_i h' hh'
     split at hh
     ·cases hh
     ·injection hh with hh
      simp only [Prod.mk.injEq] at hh;rw [hs] at hh';refine ⟨_,by show parseV _ true=some h;rw [← hh.2.2.1];exact hh',?_⟩
      exact (List.take_prefix _ _).isInfix.trans ((at_infix _).trans (List.takeWhile_prefix _).isInfix)
 have hb:(beginU P).2 <:+: P:=by
  have c0:=clean_infix h32;have c1:=(part_infix 35 (cleanV P)).1;have c2:=(part_infix 58 (part 35 (cleanV P)).1).2;unfold beginU;simp only;unfold schemeV;split
  ·simp only [Option.getD_some];exact c2.trans (c1.trans c0)
  ·simp only [Option.getD_none];exact c1.trans c0
 unfold readV at e;split at e
 ·cases e
 ·simp only at e
  split at e
  ·cases e
  ·unfold startV at e
   split at e
   ·rename_i hsp
    obtain ⟨t,ht,hi⟩:=(wa e).2 hsp
    exact ⟨t,_,ht,hb,hi.trans (List.dropWhile_suffix _).isInfix⟩
   ·rename_i hsp
    split at e
    ·rw [(wa e).1] at hs
     exact absurd hs hsp
    ·split at e
     ·injection e with e
      subst e;rw [(withPath_hosts _ _ _).1] at hs;exact absurd hs hsp
     ·injection e with e
      subst e;have:(withQuery { (beginU P).1 with opq:=true,path:=[pct 1 (aheadV [63] (beginU P).2).1] } (aheadV [63] (beginU P).2).2).scheme=(beginU P).1.scheme:=by
       unfold withQuery;split<;>rfl
      rw [this] at hs;exact absurd hs hsp

theorem inn_hlen {x:List UInt8} {B:Adr} (e:readV (pct 1 x) none = .ok B) (hs:specV B.scheme=true):B.host.length≤max (x.length+8) 102:=by
 obtain ⟨t,rest,ht,h1,h2⟩:=read_inn e hs (fun c hc=>(pct_range 1 x c (by decide) hc).1)
 rcases host_in ht with h | ⟨h0,hl⟩
 ·omega
 ·have a:=cE_infix h1
  have b:=cE_infix h2;have c:=cE_pct x;have d:cE rest≤cE (slashV rest):=by
   have:=cE_slash (aheadV [63] rest).1 (aheadV [63] rest).2;have e:(aheadV [63] rest).1++(aheadV [63] rest).2=rest:=by unfold aheadV;exact List.takeWhile_append_dropWhile
   rw [e] at this;exact this
  have f:(slashV rest).length=rest.length:=by
   unfold slashV aheadV;simp only [List.length_append,List.length_map]
   rw [← List.length_append,List.takeWhile_append_dropWhile]
  omega

theorem org_own {s:List UInt8} {A:Adr} (e:readV s none = .ok A) (ho:(orgV A).opq=false): ∃ B,SpU B∧orgV A=⟨B.scheme,B.host,hasP B,false⟩∧B.host.length≤max (s.length+8) 102:=by
 have hsp:specV (orgA A).scheme=true:=by
  cases h:specV (orgA A).scheme with
  | true=>rfl
  | false=>unfold orgV at ho;rw [h] at ho;cases ho
 have hv:orgV A=⟨(orgA A).scheme,(orgA A).host,hasP (orgA A),false⟩:=by unfold orgV;rw [if_pos hsp]
 by_cases hw:webV (innV A).scheme=true
 ·have hA:orgA A=innV A:=by unfold orgA;rw [if_pos hw]
  rw [hA] at hsp hv;have hc:A.scheme=sBlob∧A.opq=true:=by
   by_cases hc:A.scheme=sBlob∧A.opq=true
   ·exact hc
   ·have:innV A=Adr.zero:=by unfold innV;rw [if_neg hc]
    rw [this] at hw;exact absurd hw (by decide)
  have hi:innV A=adrOf (readV A.path.flatten none):=by unfold innV;rw [if_pos hc]
  obtain ⟨x,hx,hxl⟩: ∃ x,A.path.flatten=pct 1 x∧x.length≤s.length:=by
   unfold readV at e;split at e
   ·cases e
   ·simp only at e
    split at e
    ·cases e
    ·rw [start_opq4 rfl e hc.2]
     refine ⟨_,by simp;rfl,?_⟩
     have h1:(aheadV [63] (beginU s).2).1.length≤(beginU s).2.length:=(List.takeWhile_prefix _).length_le;have c0:(cleanV s).length≤s.length:=by
      unfold cleanV;exact Nat.le_trans (List.length_filter_le _ _) (trim_infix s).length_le
     have c1:=part_le 35 (cleanV s);have c2:=part_le 58 (part 35 (cleanV s)).1;have h2:(beginU s).2.length≤s.length:=by
      unfold beginU;simp only;unfold schemeV;split
      ·simp only [Option.getD_some];omega
      ·simp only [Option.getD_none];omega
     omega
  cases hr:readV A.path.flatten none with
  | error z=>
    rw [hi,hr] at hw
    exact absurd (show webV Adr.zero.scheme=true from hw) (by decide)
  | ok B=>
    have hB:innV A=B:=by rw [hi,hr];rfl
    rw [hB] at hsp hv;refine ⟨B,read_sp hr hsp,hv,?_⟩
    rw [hx] at hr;have:=inn_hlen hr hsp;omega
 ·have hA:orgA A=A:=by unfold orgA;rw [if_neg hw]
  rw [hA] at hsp hv;refine ⟨A,read_sp e hsp,hv,?_⟩
  have:=read_hlen e hsp;omega

end Go.Proofs.YtolioccofbhliaaGreatDoor

namespace Go.Proofs.YtolioccofbhliaaGreatDoor
open Go.RowKit

theorem orgOk_any (s:List UInt8):OrgOk (ofT s):=by
 unfold ofT urlV
 cases hr:readV (s.take 300) none with
 | error e=>
   show OrgOk (orgV Adr.zero);exact ⟨by decide,by decide,fun h=>by cases h⟩
 | ok A=>
   show OrgOk (orgV A)
   cases ho:(orgV A).opq with
   | true=>
     have e:(orgV A)=⟨[],[],0,true⟩:=by
      unfold orgV at ho ⊢;split at ho
      ·cases ho
      ·rename_i h;rw [if_neg h];rfl
     rw [e];exact ⟨by decide,by decide,fun h=>by cases h⟩
   | false=>
     obtain ⟨B,hB,hO,hh⟩:=org_own hr ho
     have hl:(s.take 300).length≤300:=by rw [List.length_take];omega
     obtain ⟨p0,p1⟩:=hasP_port hB.str hB.spec
     rw [hO];exact ⟨by have:=(spec_len hB.spec).1;show B.scheme.length≤_;omega,by show B.host.length≤_;omega,fun _=>⟨p0,p1⟩⟩

end Go.Proofs.YtolioccofbhliaaGreatDoor
