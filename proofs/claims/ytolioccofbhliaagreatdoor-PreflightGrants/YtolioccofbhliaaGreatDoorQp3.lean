/-
  Walks and plain facts that this claim leans on, put together out of 13 texts: Ua, Yc, Wl, Uc, Ud, Ue, Uf, Ug, Wr, Uh, Ui, Uj, Hl.
-/
import Derived.Test.YtolioccofbhliaaGreatDoorProg
import Derived.Test.YtolioccofbhliaaGreatDoorQp1
import Derived.Test.YtolioccofbhliaaGreatDoorQp2
import Derived.Lib.IndexMore
import Derived.Lib.Join
import Derived.Lib.LastIndexByte
import Derived.WalkKit
import Derived.Lib.Strings
import Derived.Lib.UnsafeStr
import Derived.Laws.IdiomStrings
import Derived.Laws.AppendOwn
import Derived.Laws.BitsAllLaws
import Derived.Lib.Bytealg
import Derived.Lib.BufferMore
import Derived.Shelf.Strings.Builder1
import Derived.Shelf.Strings.Builder2
import Derived.Shelf.Strings.OnBuilder
import Derived.Shelf.Strings.Trim
import Derived.Shelf.Small.Utf8
import Derived.Shelf.Small.Bits
import Derived.Shelf.Small.Strs
import Derived.Shelf.Small.Wraps
import Derived.Shelf.Strings.BuilderF
import Derived.Shelf.Strings.BuilderK
import Derived.Shelf.Strings.Builder2Cap
import Derived.Shelf.Strconv.Itoa0
import Derived.Shelf.Strconv.Itoa1
import Derived.Shelf.LaysM
import Derived.Shelf.Strconv.Itoa2
import Derived.Shelf.Strconv.Itoa3
import Derived.Shelf.Strings.Search1
import Derived.Shelf.Strings.Search2
import Derived.Shelf.Strings.Cut
import Derived.Shelf.Strings.Shaped
import Derived.Shelf.Sort.Plain
import Derived.Shelf.Strings.Prefix
import Derived.Shelf.Strings.Runes
import Derived.Shelf.Strings.IndexAny
import Derived.Shelf.Strings.AsciiSet
import Derived.Shelf.Strings.IndexAnyAll
import Derived.Shelf.Unicode.DecodeSlow
import Derived.Shelf.Unicode.DecodeAny
import Derived.Shelf.Unicode.DecodeLast
import Derived.Shelf.Slices.CompactS
import Derived.Shelf.Slices.In.SortNone
import Derived.Ground.SlgnProg
import Derived.Shelf.SlicesE.Compact
import Derived.Ground.SlgfProg
import Derived.Shelf.SlicesE.IndexFunc
import Derived.Shelf.SlicesE.DeleteFunc
import Derived.WalkSpells
import Derived.WalkLawsBesides
import Derived.Lib.AppendIntMem
import Derived.Lib.SmallJoins
import Derived.WalkSmall
import Derived.WalkMore
import Derived.Deep.LoopGhost
import Derived.OwnWalk
import Derived.Laws.CopyOwn
import Derived.Laws.ResultCell
import Derived.Deep.MidRow
import Derived.Deep.RegionWith
import Derived.Lib.FrozenHead2
import Derived.Lib.OthersKept
import Derived.Lib.Builder
import Derived.Scope
import Derived.ScopeJumps
import Derived.Lib.IndexAny
import Derived.Lib.Replace
import Derived.Lib.TrimByte
import Derived.Lib.ItoaNum
import Derived.Laws.RangeAny
import Derived.Lib.DecodeN
import Derived.RegionTactic
import Derived.Deep.QuietTactic
import Derived.BigQuiet
import Derived.Laws.BytesString
import Derived.Deep.RegionLaw
set_option linter.unusedSimpArgs false
set_option linter.unusedVariables false

namespace Go.Proofs.YtolioccofbhliaaGreatDoor
structure Adr where
 scheme:List UInt8
 user:List UInt8
 pass:List UInt8
 host:List UInt8
 hasHost:Bool
 port:Int
 opq:Bool
 path:List (List UInt8)
 query:List UInt8
 fragment:List UInt8
 hasQuery:Bool
 hasFragment:Bool

def Adr.zero:Adr:=⟨[],[],[],[],false,0,false,[],[],[],false,false⟩

def sHttp:List UInt8:=[104,116,116,112]

def sHttps:List UInt8:=[104,116,116,112,115]

def sWs:List UInt8:=[119,115]

def sWss:List UInt8:=[119,115,115]

def sFtp:List UInt8:=[102,116,112]

def ownV (s:List UInt8):Int:=if s=sHttp∨s=sWs then 80 else if s=sHttps∨s=sWss then 443 else if s=sFtp then 21 else -1

def specV (s:List UInt8):Bool:=decide (0≤ownV s)

def part (c:UInt8):List UInt8→List UInt8×List UInt8×Bool
 | []=>([],[],false)
 | x::l=>if x=c then ([],l,true) else (x::(part c l).1,(part c l).2.1,(part c l).2.2)

def aheadV (ends:List UInt8) (l:List UInt8):List UInt8×List UInt8:=(l.takeWhile (fun c=> !ends.contains c),l.dropWhile (fun c=> !ends.contains c))

def wsC (c:UInt8):Bool:=decide (c.toNat≤32)

def eyeC (c:UInt8):Bool:=c==9||(c==10||c==13)

def trimV (l:List UInt8):List UInt8:=((l.dropWhile wsC).reverse.dropWhile wsC).reverse

def cleanV (l:List UInt8):List UInt8:=(trimV l).filter (fun c=> !eyeC c)

def schC (c:UInt8):Bool:=letterI c.toNat||(digitI c.toNat||(c==43||(c==45||c==46)))

def schOk (l:List UInt8):Bool:=(match l with | []=>false | c::_=>letterI c.toNat)&&l.all schC

def schemeV (l:List UInt8):Option (List UInt8×List UInt8):=if (part 58 l).2.2&&schOk (part 58 l).1 then some (low (part 58 l).1,(part 58 l).2.1) else none

def slC (c:UInt8):UInt8:=if c=92 then 47 else c

def slashV (l:List UInt8):List UInt8:=(aheadV [63] l).1.map slC++(aheadV [63] l).2

def slashedV (scheme l:List UInt8):List UInt8:=if specV scheme then slashV l else l

def atV (l:List UInt8):List UInt8×List UInt8:=if l.contains 64 then (((l.reverse.dropWhile (· != 64)).drop 1).reverse,(l.reverse.takeWhile (· != 64)).reverse) else ([],l)

def colN:Bool→Nat→Nat→List UInt8→Nat
 | _,_,k,[]=>k
 | false,i,k,c::l=>if c=58 then colN false (i+1) i l else if c=91 then colN true (i+1) k l else colN false (i+1) k l
 | true,i,k,c::l=>if c=93 then colN false (i+1) k l else colN true (i+1) k l

def colV (l:List UInt8):Nat:=colN false 0 l.length l

def portV (own:Int) (t:List UInt8):Option Int:=
 if t=[] then some (-1) else if intOk t&&decide (intV t≤65535) then some (if intV t=own then -1 else intV t) else none

def authV (scheme s:List UInt8):Except Int (List UInt8×List UInt8×List UInt8×Int):=
 match portV (ownV scheme) (((atV s).2.drop (colV (atV s).2)).drop 1) with
 | none=> .error 11
 | some p=>
   match parseV ((atV s).2.take (colV (atV s).2)) (specV scheme) with
   | none=> .error 10
   | some h=>
     if h=[]∧(pct 6 (part 58 (atV s).1).1≠[]∨pct 6 (part 58 (atV s).1).2.1≠[]∨((atV s).2.drop (colV (atV s).2)).drop 1≠[]) then .error 10
     else .ok (pct 6 (part 58 (atV s).1).1,pct 6 (part 58 (atV s).1).2.1,h,p)

def dotsV (p:List UInt8):Nat:=if unpct p=[46] then 1 else if unpct p=[46,46] then 2 else 0

def pathL:List (List UInt8)→List (List UInt8)→List (List UInt8)
 | out,[]=>out
 | out,[p]=>if dotsV p=2 then out.dropLast++[[]] else if dotsV p=1 then out++[[]] else out++[pct 5 p]
 | out,p::q::r=>if dotsV p=2 then pathL out.dropLast (q::r) else if dotsV p=1 then pathL out (q::r) else pathL (out++[pct 5 p]) (q::r)

def over1 (l:List UInt8):List UInt8:=match l with | []=>[] | c::r=>if c=47 then r else l

def pathV (special:Bool) (have_:List (List UInt8)) (s:List UInt8):List (List UInt8):=if s=[]∧special=false then [] else pathL have_ (cutL 47 (over1 s))

def querV (special:Bool) (q:List UInt8):List UInt8:=pct (if special then 4 else 3) q

def withQuery (u:Adr) (q:List UInt8):Adr:=if q=[] then u else { u with query:=querV (specV u.scheme) (q.drop 1),hasQuery:=true }

def withPath (u:Adr) (have_:List (List UInt8)) (r:List UInt8):Adr:=withQuery { u with path:=pathV (specV u.scheme) have_ (aheadV [63] r).1 } (aheadV [63] r).2

def withAuth (u:Adr) (r:List UInt8):Except Int Adr:=
 match authV u.scheme (aheadV [47,63] r).1 with
 | .error e=> .error e
 | .ok (a,b,h,p)=> .ok (withPath { u with user:=a,pass:=b,host:=h,hasHost:=true,port:=p } [] (aheadV [47,63] r).2)

def skip47 (l:List UInt8):List UInt8:=l.dropWhile (· == 47)

def startV (u:Adr) (rest:List UInt8):Except Int Adr:=
 if specV u.scheme then withAuth u (skip47 (slashV rest))
 else if Lib.hasPrefix rest [47,47] then withAuth u (rest.drop 2)
 else if Lib.hasPrefix rest [47] then .ok (withPath u [] rest)
 else .ok (withQuery { u with opq:=true,path:=[pct 1 (aheadV [63] rest).1] } (aheadV [63] rest).2)

def beginU (s:List UInt8):Adr×List UInt8:=
 let t:=part 35 (cleanV s)
 let m:=(schemeV t.1).getD ([],t.1)
 (⟨m.1,[],[],[],false,-1,false,[],[],pct 2 t.2.1,false,t.2.2⟩,m.2)

def joinV (u:Adr) (rest:List UInt8) (b:Adr):Except Int Adr:=
 let v:Adr:={ u with scheme:=b.scheme }
 let r:=slashedV b.scheme rest
 if Lib.hasPrefix r [47,47] then startV v r
 else
  let x:Adr:={ v with user:=b.user,pass:=b.pass,host:=b.host,hasHost:=b.hasHost,port:=b.port }
  if Lib.hasPrefix r [47] then .ok (withPath x [] r)
  else if r≠[]∧r.head? ≠ some 63 then .ok (withPath x b.path.dropLast r)
  else .ok (withQuery { x with opq:=b.opq,path:=b.path,query:=b.query,hasQuery:=b.hasQuery } r)

def readV (s:List UInt8) (base:Option Adr):Except Int Adr:=
 if 4096<s.length then .error 3
 else
  match base with
  | none=>if (beginU s).1.scheme=[] then .error 12 else startV (beginU s).1 (beginU s).2
  | some b=>
    if (beginU s).1.scheme≠[]∧(specV (beginU s).1.scheme=false∨(beginU s).1.scheme≠b.scheme) then startV (beginU s).1 (beginU s).2
    else if b.opq=true∧(beginU s).2≠[] then .error 12
    else joinV (beginU s).1 (beginU s).2 b

def deciN:Nat→Nat→List UInt8→List UInt8
 | 0,_,acc=>acc
 | f+1,n,acc=>if n<10 then UInt8.ofNat (48+n)::acc else deciN f (n / 10) (UInt8.ofNat (48+n % 10)::acc)

def portT (p:Int):List UInt8:=deciN 6 p.toNat []

def adrOf:Except Int Adr→Adr
 | .ok u=>u
 | .error _=>Adr.zero

def numOf:Except Int Adr→Int
 | .ok _=>0
 | .error e=>e

end Go.Proofs.YtolioccofbhliaaGreatDoor

namespace Go.Proofs.YtolioccofbhliaaGreatDoor
structure Org where
 scheme:List UInt8
 host:List UInt8
 port:Int
 opq:Bool
deriving DecidableEq

def Org.none:Org:=⟨[],[],0,true⟩

def sBlob:List UInt8:=[98,108,111,98]

def innV (u:Adr):Adr:=if u.scheme=sBlob∧u.opq=true then adrOf (readV u.path.flatten none) else Adr.zero

def webV (s:List UInt8):Bool:=s==sHttp||s==sHttps

def orgA (u:Adr):Adr:=if webV (innV u).scheme then innV u else u

def hasP (u:Adr):Int:=if u.port = -1 then ownV u.scheme else u.port

def orgV (u:Adr):Org:=if specV (orgA u).scheme then ⟨(orgA u).scheme,(orgA u).host,hasP (orgA u),false⟩ else Org.none

end Go.Proofs.YtolioccofbhliaaGreatDoor

namespace Go.Proofs.YtolioccofbhliaaGreatDoor
open Go.RowKit

set_option maxHeartbeats 400000 in
theorem timesTenAnd_any (n d:Int) (w:World) (h0:0≤n) (h1:n≤9223372036854775807) (h2:0≤d) (h3:d≤9):
 Calls Tryz.prog 155 #[.int .i64 n,.int .i64 d] w fun e w'=>e = .returned (.int .i64 (ten n d))∧w=w':=by
 by_cases h:(9223372036854775807 - d) / 10<n
 ·have HT:=hid (show ten n d=9223372036854775807 by unfold ten;rw [if_pos h])
  go_enter Tryz.func155,Tryz.ntmps155
  go_wp2
  go_ret
  exact ⟨ret_int HT.out.symm,rfl⟩
 ·have HT:=hid (show ten n d=n*10+d by unfold ten;rw [if_neg h])
  have h':n≤(9223372036854775807 - d) / 10:=by omega
  clear h
  go_enter Tryz.func155,Tryz.ntmps155
  go_wp2
  go_ret
  exact ⟨ret_int HT.out.symm,rfl⟩

set_option maxHeartbeats 1000000 in
theorem int_any (s:ByteArray) (w:World) (hs:s.size≤140737488351232):
 Calls Tryz.prog 103 #[.string s] w fun e w'=>e = .returned (.tuple #[.int .i64 (intV s.data.toList),.bool (intOk s.data.toList)])∧w=w':=by
 by_cases he:s.size=0
 ·have hl:s.data.toList=[]:=List.eq_nil_of_length_eq_zero (by simpa using he)
  have he':s.toList.isEmpty=true:=by rw [Lib.toList_data,hl];rfl
  have HV:=hid (show intV s.data.toList=0 by rw [hl];rfl);have HO:=hid (show intOk s.data.toList=false by rw [hl];rfl);clear hl
  go_enter Tryz.func103,Tryz.ntmps103
  go_wp2
  go_ret2
  exact ⟨ret_ib HV.out.symm HO.out.symm,rfl⟩
 ·have hl:s.data.toList.isEmpty=false:=by
   rw [List.isEmpty_eq_false_iff];intro h;apply he;have:=congrArg List.length h;simpa using this
  have he':s.toList.isEmpty=false:=by rw [Lib.toList_data,hl]
  have HL:=hid hl;clear hl
  go_enter Tryz.func103,Tryz.ntmps103
  go_wp2
  go_loop [4,10] (fun n i=> ∃ k:Nat,k≤s.size∧i = .int .i64 k∧(s.data.toList.take k).all digP=true∧n = .int .i64 (numI (s.data.toList.take k))) (fun _ i=>s.size - (intOf i).toNat)
  case atStart=>exact ⟨0,Nat.zero_le _,rfl,rfl,rfl⟩
  case round=>
   obtain ⟨k,hk,rfl,hall,rfl⟩:=hrel
   have hr:=numI_range _ hall;have HA:=hid hall;clear hall;by_cases hlt:k<s.size
   ·have HT:=hid (take_snoc s k hlt)
    have HN:=hid (numI_snoc (s.data.toList.take k) s[k]);generalize numI (s.data.toList.take k)=n at *
    by_cases hd:digitI (s[k].toNat:Int)=true
    ·have hd2:48≤(s[k].toNat:Int)∧(s[k].toNat:Int)≤57:=by simp [digitI] at hd;omega
     obtain ⟨hd3,hd4⟩:=hd2
     go_wp2_with (first | (go_at_call 154;refine (digit_any _ _).mono ?_;rintro e w' ⟨rfl,rfl⟩) | (go_at_call 155;refine (timesTenAnd_any _ _ _ (by omega) (by omega) (by omega) (by omega)).mono ?_;rintro e w' ⟨rfl,rfl⟩))
     go_round
     case rel=>exact ⟨k+1,by omega,by go_num,by rw [HT.out,List.all_append,HA.out];simp [digP,hd],by rw [HT.out,HN.out]⟩
     case measure=>simp [intOf];omega
    ·have hd':digitI (s[k].toNat:Int)=false:=by simpa using hd
     clear hd
     go_wp2_with (go_at_call 154;refine (digit_any _ _).mono ?_;rintro e w' ⟨rfl,rfl⟩)
     go_ret2
     have:s.data.toList.all digP=false:=by
      rw [List.all_eq_false];refine ⟨s[k],?_,by simp [digP,hd']⟩
      have:s[k]=s.data.toList[k]'(by simpa using hlt):=rfl
      rw [this];exact List.getElem_mem _
     exact ⟨ret_ib (by simp [intV,this]) (by simp [intOk,this]),rfl⟩
   ·have ha:=HA.out
    rw [take_all s k hlt] at ha ⊢;have ha':=hid ha;clear ha
    go_wp2
    go_ret2
    exact ⟨ret_ib (by simp [intV,ha'.out,HL.out]) (by simp [intOk,ha'.out,HL.out]),rfl⟩

end Go.Proofs.YtolioccofbhliaaGreatDoor

namespace Go.Proofs.YtolioccofbhliaaGreatDoor
open Go.RowKit

theorem beq_no (a:ByteArray) (l:List UInt8) (h:a.data.toList≠l):(a.toList==l)=false:=by
 rw [Lib.toList_data,beq_eq_false_iff_ne];exact h

theorem beq_yes (a:ByteArray) (l:List UInt8) (h:a.data.toList=l):(a.toList==l)=true:=by
 rw [Lib.toList_data,h];exact beq_self_eq_true _

set_option maxHeartbeats 400000 in
theorem own_any (s:ByteArray) (w:World):
 Calls Tryz.prog 140 #[.string s] w fun e w'=>e = .returned (.int .i64 (ownV s.data.toList))∧w=w':=by
 by_cases h1:s.data.toList=sHttp
 ·have HN:=hid (show ownV s.data.toList=80 by rw [h1];rfl)
  have e1:=beq_yes s [104,116,116,112] h1
  clear h1
  go_enter Tryz.func140,Tryz.ntmps140
  go_wp2
  go_ret
  rw [HN.out];exact ⟨rfl,rfl⟩
 ·have e1:=beq_no s [104,116,116,112] h1
  by_cases h2:s.data.toList=sWs
  ·have HN:=hid (show ownV s.data.toList=80 by rw [h2];rfl)
   have e2:=beq_yes s [119,115] h2
   clear h1 h2
   go_enter Tryz.func140,Tryz.ntmps140
   go_wp2
   go_ret
   rw [HN.out];exact ⟨rfl,rfl⟩
  ·have e2:=beq_no s [119,115] h2
   by_cases h3:s.data.toList=sHttps
   ·have HN:=hid (show ownV s.data.toList=443 by rw [h3];rfl)
    have e3:=beq_yes s [104,116,116,112,115] h3
    clear h1 h2 h3
    go_enter Tryz.func140,Tryz.ntmps140
    go_wp2
    go_ret
    rw [HN.out];exact ⟨rfl,rfl⟩
   ·have e3:=beq_no s [104,116,116,112,115] h3
    by_cases h4:s.data.toList=sWss
    ·have HN:=hid (show ownV s.data.toList=443 by rw [h4];rfl)
     have e4:=beq_yes s [119,115,115] h4
     clear h1 h2 h3 h4
     go_enter Tryz.func140,Tryz.ntmps140
     go_wp2
     go_ret
     rw [HN.out];exact ⟨rfl,rfl⟩
    ·have e4:=beq_no s [119,115,115] h4
     by_cases h5:s.data.toList=sFtp
     ·have HN:=hid (show ownV s.data.toList=21 by rw [h5];rfl)
      have e5:=beq_yes s [102,116,112] h5
      clear h1 h2 h3 h4 h5
      go_enter Tryz.func140,Tryz.ntmps140
      go_wp2
      go_ret
      rw [HN.out];exact ⟨rfl,rfl⟩
     ·have e5:=beq_no s [102,116,112] h5
      have HN:=hid (show ownV s.data.toList = -1 by rw [ownV,if_neg (by rintro (h | h);exact h1 h;exact h2 h),if_neg (by rintro (h | h);exact h3 h;exact h4 h),if_neg h5]);clear h1 h2 h3 h4 h5
      go_enter Tryz.func140,Tryz.ntmps140
      go_wp2
      go_ret
      rw [HN.out];exact ⟨rfl,rfl⟩

end Go.Proofs.YtolioccofbhliaaGreatDoor

namespace Go.Proofs.YtolioccofbhliaaGreatDoor
theorem part_none (c:UInt8): ∀ l:List UInt8,c ∉ l→part c l=(l,[],false)
 | [],_=>rfl
 | x::l,h=>by
   have hx:x≠c:=fun e=>h (by simp [e])
   have hl:c ∉ l:=fun e=>h (by simp [e])
   rw [part,if_neg hx,part_none c l hl]

theorem part_some (c:UInt8): ∀ (a r:List UInt8),c ∉ a→part c (a++c::r)=(a,r,true)
 | [],r,_=>by rw [List.nil_append,part,if_pos rfl]
 | x::a,r,h=>by
   have hx:x≠c:=fun e=>h (by simp [e])
   have hl:c ∉ a:=fun e=>h (by simp [e])
   rw [List.cons_append,part,if_neg hx,part_some c a r hl]

theorem cut_part (c:UInt8) (l:List UInt8):Lib.cut l [c]=part c l:=by
 rcases first_split c l with h | ⟨a,r,h,rfl⟩
 ·rw [cut_none l c h,part_none c l h]
 ·rw [cut_some a r c h,part_some c a r h]

theorem part_le (c:UInt8) (l:List UInt8):(part c l).1.length≤l.length∧(part c l).2.1.length≤l.length:=by
 rw [← cut_part];exact cut_le l [c]

theorem ahead_index (ends:List UInt8): ∀ l:List UInt8,(Lib.indexAny l ends = -1∧aheadV ends l=(l,[]))∨(∃ i:Nat,i<l.length∧Lib.indexAny l ends=i∧aheadV ends l=(l.take i,l.drop i))
 | []=> .inl ⟨rfl,rfl⟩
 | c::l=>by
   by_cases h:ends.contains c=true
   ·refine .inr ⟨0,by simp,by rw [Lib.indexAny,if_pos h];rfl,?_⟩
    have h2:c ∈ ends:=by simpa using h
    simp [aheadV,List.takeWhile,List.dropWhile,h2]
   ·have h':ends.contains c=false:=by simpa using h
    have h2:c ∉ ends:=by simpa using h
    have e1:(aheadV ends (c::l))=(c::(aheadV ends l).1,(aheadV ends l).2):=by
     simp [aheadV,List.takeWhile,List.dropWhile,h2]
    rcases ahead_index ends l with ⟨h1,h2⟩ | ⟨i,hi,h1,h2⟩
    ·exact .inl ⟨by rw [Lib.indexAny,if_neg h,h1];rfl,by rw [e1,h2]⟩
    ·refine .inr ⟨i+1,by simp;omega,?_,by rw [e1,h2];rfl⟩
     rw [Lib.indexAny,if_neg h,h1]
     have:((i:Int) == -1)=false:=by rw [beq_eq_false_iff_ne];omega
     rw [this];simp

theorem ahead_app (ends l:List UInt8):(aheadV ends l).1++(aheadV ends l).2=l:=List.takeWhile_append_dropWhile

theorem take_rev (p:UInt8→Bool) (a b:List UInt8) (c:UInt8) (hb: ∀ x ∈ b,p x=true) (hc:p c=false):((a++c::b).reverse.takeWhile p).reverse=b∧(((a++c::b).reverse.dropWhile p).drop 1).reverse=a:=by
 have e:(a++c::b).reverse=b.reverse++c::a.reverse:=by simp
 have hb': ∀ x ∈ b.reverse,p x=true:=fun x hx=>hb x (List.mem_reverse.1 hx)
 constructor
 ·rw [e,List.takeWhile_append_of_pos hb',List.takeWhile_cons,hc]
  simp
 ·rw [e,List.dropWhile_append_of_pos hb',List.dropWhile_cons,hc]
  simp

theorem at_none (l:List UInt8) (h:64 ∉ l):atV l=([],l):=by
 have:l.contains 64=false:=by simpa using h
 rw [atV,this];rfl

theorem at_some (a b:List UInt8) (h:64 ∉ b):atV (a++64::b)=(a,b):=by
 have h1:(a++64::b).contains 64=true:=by simp
 have h2:=take_rev (fun x=>x != 64) a b 64 (fun x hx=>by simp;intro e;exact h (e ▸ hx)) (by decide)
 rw [atV,h1,if_pos rfl,h2.1,h2.2]

theorem deci_gen: ∀ (f n:Nat) (acc:List UInt8),n<10 ^ f→f≠0→deciN f n acc=Lib.decDigits n++acc
 | 0,n,acc,h,h0=>absurd rfl h0
 | f+1,n,acc,h,_=>by
   rw [deciN,Lib.decDigits]
   by_cases h1:n<10
   ·rw [if_pos h1,dif_pos h1];rfl
   ·rw [if_neg h1,dif_neg h1]
    have hf:f≠0:=by rintro rfl;simp at h;omega
    rw [deci_gen f (n / 10) _ (by rw [Nat.pow_succ] at h;omega) hf];simp

theorem portT_itoa (p:Int) (h0:0≤p) (h1:p≤65535):Lib.itoa p=portT p:=by
 unfold Lib.itoa portT;rw [if_neg (by omega),deci_gen 6 _ _ (by omega) (by omega),List.append_nil]

end Go.Proofs.YtolioccofbhliaaGreatDoor

namespace Go.Proofs.YtolioccofbhliaaGreatDoor
open Go.RowKit

theorem ret_ss {a b c d:ByteArray} (h:a=b) (g:c=d):Ending.returned (.tuple #[.string a,.string c]) = .returned (.tuple #[.string b,.string d]):=by rw [h,g]

theorem ret_str' {a b:ByteArray} (h:a=b):Ending.returned (.string a) = .returned (.string b):=by rw [h]

theorem slash_len (l:List UInt8):(slashV l).length=l.length:=by
 have:=congrArg List.length (ahead_app [63] l);rw [List.length_append] at this;rw [slashV,List.length_append,List.length_map,this]

end Go.Proofs.YtolioccofbhliaaGreatDoor

namespace Go.Proofs.YtolioccofbhliaaGreatDoor
open Go.RowKit

theorem intV_range (l:List UInt8):0≤intV l∧intV l≤9223372036854775807:=by
 unfold intV;split
 ·rename_i h
  simp only [Bool.and_eq_true] at h;exact numI_range l h.1
 ·omega

end Go.Proofs.YtolioccofbhliaaGreatDoor

namespace Go.Proofs.YtolioccofbhliaaGreatDoor
open Go.RowKit

def cutS (l:List UInt8):List UInt8×List UInt8:=(schemeV l).getD ([],l)

theorem cutS_none {l:List UInt8} (h:((part 58 l).2.2&&schOk (part 58 l).1)=false):cutS l=([],l):=by rw [cutS,schemeV,h];rfl

theorem cutS_some {l:List UInt8} (h:((part 58 l).2.2&&schOk (part 58 l).1)=true):cutS l=(low (part 58 l).1,(part 58 l).2.1):=by rw [cutS,schemeV,if_pos h];rfl

end Go.Proofs.YtolioccofbhliaaGreatDoor

namespace Go.Proofs.YtolioccofbhliaaGreatDoor
open Go.RowKit

theorem ownsRow_same {w w':World} {B:Nat} {e:TypeId} {size:Nat} {v:Value} {n:Nat} {xs:List Value} (h:w.ownsRow B e size v n xs) (hk: ∀ g,v.ownBlock=some g→w'.heap[g]? = w.heap[g]?):w'.ownsRow B e size v n xs:=by
 refine ⟨h.1,?_⟩
 rcases h.2 with hn | ⟨g,cap,cur,rfl,hb,hgg,rest⟩
 ·exact .inl hn
 ·exact .inr ⟨g,cap,cur,rfl,hb,(hk g rfl).trans hgg,rest⟩

theorem ownsRow_kind {w:World} {B:Nat} {e:TypeId} {size:Nat} {v:Value} {n:Nat} {xs:List Value} (h:w.ownsRow B e size v n xs) (g:Nat) (hg:v.ownBlock=some g): ∃ cur,w.heap[g]? = some (.cells cur e (0,0)):=by
 rcases h.2 with ⟨rfl,_⟩ | ⟨g',cap,cur,rfl,hb,hgg,rest⟩
 ·simp [Value.ownBlock] at hg
 ·simp [Value.ownBlock] at hg
  subst hg;exact ⟨cur,hgg⟩

theorem ownsRow_lower {w:World} {B B':Nat} {e:TypeId} {size:Nat} {v:Value} {n:Nat} {xs:List Value} (h:w.ownsRow B e size v n xs) (hB:B'≤B):w.ownsRow B' e size v n xs:=by
 refine ⟨h.1,?_⟩
 rcases h.2 with hn | ⟨g,cap,cur,rfl,hb,rest⟩
 ·exact .inl hn
 ·exact .inr ⟨g,cap,cur,rfl,Nat.le_trans hB hb,rest⟩

def AppAt (w:World) (v v':Value) (n:Nat):Prop:= ∃ g cap,v' = .slice (some ⟨g,0,none⟩) n cap∧(v.ownBlock=some g∨w.heap.size≤g)

theorem run_append_where {P:Program} (w:World) (base:Nat) (t ty e:TypeId) (i:TypeInfo) (z:Value) (size bytes:Nat) (ht:P.underlying t=some (.slice e)) (hi:P.info? e=some i) (hz:i.zero=some z)
 (hsize:i.size=size) (hby:i.bytes=bytes) (hzs:z.cells.size=size) (hsz:0<size)
 (v:Value) (n:Nat) (xs:List Value) (hown:w.ownsRow base e size v n xs)
 (a:Addr) (m c:Nat) (news:List Value) (hl:news.length=m*size) (hnews: ∀ j u,news[j]? = some u→w.cell? (a.add j)=some u) (h1: ∀ u ∈ news,u.oneCell'=true)
 (h63:n+m≤maxLen) (hbytes:(n+m)*bytes≤140737488355328) (hbase:base≤w.heap.size) (hm:0<m):
 ∃ v' w',(Builtin.append_ #[t,t] ty #[v,.slice (some a) m c]).run P w = .ok v' w'∧w'.ownsRow base e size v' (n+m) (xs++news)∧w.grownBy w' v.ownBlock ∧
  AppAt w v v' (n+m):=by
 obtain ⟨v',w',hr,ho,hg,_⟩:=run_append_own (P:=P) w base t ty e i z size bytes ht hi hz hsize hby hzs hsz v n xs hown a m c news hl hnews h1 h63 hbytes hbase
 refine ⟨v',w',hr,ho,hg,?_⟩
 subst hsize;subst hby
 have hML:n+m≤9223372036854775807:=by simp only [maxLen] at h63;omega
 rcases hown.2 with ⟨rfl,rfl⟩ | ⟨g,cap,cur,rfl,hbg,hgg,hnc,hcm,hcs,htake⟩
 ·have hr2:=run_append_nil (P:=P) w t ty e i z ht hi hz a m c news hl hnews hm (by omega) (by have hb:=hbytes;simp only [Nat.zero_add] at hb;omega)
  rw [hr2] at hr;injection hr with e1 e2
  exact ⟨w.heap.size,_,by rw [← e1];simp;rfl,.inr (Nat.le_refl _)⟩
 ·by_cases hroom:n+m≤cap
  ·have hfit:n*i.size+news.length≤cur.size:=by rw [hl,hcs,← Nat.add_mul];exact Nat.mul_le_mul_right _ hroom
   have hr2:=run_append_room (P:=P) w t ty e i ht hi g n cap cur hgg a m c news hl hnews h1 hroom hfit;rw [hr2] at hr;injection hr with e1 e2
   exact ⟨g,cap,e1.symm,.inl rfl⟩
  ·have hr2:=run_append_grow (P:=P) w t ty e i z ht hi hz ⟨g,0,none⟩ n cap xs hown.1 (hown.cells (g:=g) rfl) a m c news hl hnews (by omega) (by omega) (growslice_fits (by omega) hbytes)
   rw [hr2] at hr;injection hr with e1 e2
   exact ⟨w.heap.size,_,e1.symm,.inr (Nat.le_refl _)⟩

theorem wp_append_where {P:Program} (w:World) {o:Oper} {a:Act} {K:Act→World→Prop} {Q:Exit→Act→World→Prop} (s x:Operand) (t:TypeId)
 (ho:o.op = .call { callee:= .builtin .append,args:= #[s,x],argTypes:= #[t,t] })
 (base:Nat) (e:TypeId) (i:TypeInfo) (z:Value) (size bytes:Nat) (ht:P.underlying t=some (.slice e)) (hi:P.info? e=some i) (hz:i.zero=some z)
 (hsize:i.size=size) (hby:i.bytes=bytes) (hzs:z.cells.size=size) (hsz:0<size)
 (v:Value) (n:Nat) (xs:List Value) (hs:a.eval s=v) (hown:w.ownsRow base e size v n xs)
 (ad:Addr) (m c:Nat) (news:List Value) (hx:a.eval x = .slice (some ad) m c) (hl:news.length=m*size) (hnews: ∀ j u,news[j]? = some u→w.cell? (ad.add j)=some u) (h1: ∀ u ∈ news,u.oneCell'=true)
 (h63:n+m≤maxLen) (hbytes:(n+m)*bytes≤140737488355328) (hbase:base≤w.heap.size) (hm:0<m)
 (h: ∀ v' w',w'.ownsRow base e size v' (n+m) (xs++news)→w.grownBy w' v.ownBlock→AppAt w v v' (n+m)→K (a.put o.dst v') w'):o.wp P a w K Q:=by
 obtain ⟨v',w',hr,h2,h3,h4⟩:=run_append_where (P:=P) w base t o.type e i z size bytes ht hi hz hsize hby hzs hsz v n xs hown ad m c news hl hnews h1 h63 hbytes hbase hm
 unfold Oper.wp;simp [execOp,ho,resolve,invoke,builtin,hs,hx,hr,Result.andThen]
 exact h v' w' h2 h3 h4

theorem wpList_append_where {P:Program} (w:World) {ops:Array Oper} {rest:List Oper} {o:Oper} {a:Act} {Q:Exit→Act→World→Prop} (hgd:o.guard=none) (s x:Operand) (t:TypeId)
 (ho:o.op = .call { callee:= .builtin .append,args:= #[s,x],argTypes:= #[t,t] })
 (base:Nat) (e:TypeId) (i:TypeInfo) (z:Value) (size bytes:Nat) (ht:P.underlying t=some (.slice e)) (hi:P.info? e=some i) (hz:i.zero=some z)
 (hsize:i.size=size) (hby:i.bytes=bytes) (hzs:z.cells.size=size) (hsz:0<size)
 (v:Value) (n:Nat) (xs:List Value) (hs:a.eval s=v) (hown:w.ownsRow base e size v n xs)
 (ad:Addr) (m c:Nat) (news:List Value) (hx:a.eval x = .slice (some ad) m c) (hl:news.length=m*size) (hnews: ∀ j u,news[j]? = some u→w.cell? (ad.add j)=some u) (h1: ∀ u ∈ news,u.oneCell'=true)
 (h63:n+m≤maxLen) (hbytes:(n+m)*bytes≤140737488355328) (hbase:base≤w.heap.size) (hm:0<m)
 (h: ∀ v' w',w'.ownsRow base e size v' (n+m) (xs++news)→w.grownBy w' v.ownBlock→AppAt w v v' (n+m)→wpList P ops Q rest (a.put o.dst v') w'):wpList P ops Q (o::rest) a w:=
 wpList_plain hgd fun _ hK=>wp_append_where w s x t ho base e i z size bytes ht hi hz hsize hby hzs hsz v n xs hs hown ad m c news hx hl hnews h1 h63 hbytes hbase hm fun v' w' h2 h3 h4=>hK _ _ (h v' w' h2 h3 h4)

end Go.Proofs.YtolioccofbhliaaGreatDoor

namespace Go.Proofs.YtolioccofbhliaaGreatDoor
open Go.RowKit

theorem dropWhile_all (p:UInt8→Bool) (A M:List UInt8) (hA:A.all p=true):(A++M).dropWhile p=M.dropWhile p:=by
 rw [List.dropWhile_append_of_pos];intro x hx;exact List.all_eq_true.1 hA x hx

theorem trim_parts (A M B:List UInt8) (hA:A.all wsC=true) (hB:B.all wsC=true) (hM:M=[]∨((∃ c r,M=c::r∧wsC c=false)∧(∃ c r,M=r++[c]∧wsC c=false))):trimV (A++M++B)=M:=by
 unfold trimV;rcases hM with rfl | ⟨⟨c,r,h1,h2⟩,⟨d,q,h3,h4⟩⟩
 ·rw [List.append_nil,dropWhile_all wsC A B hA]
  have:B.dropWhile wsC=[]:=by
   have:=dropWhile_all wsC B [] hB;rw [List.append_nil] at this;exact this
  rw [this];rfl
 ·rw [List.append_assoc,dropWhile_all wsC A _ hA]
  have e1:(M++B).dropWhile wsC=M++B:=by rw [h1,List.cons_append,List.dropWhile_cons,h2];rfl
  have hB':B.reverse.all wsC=true:=by rw [List.all_reverse];exact hB
  have e2:M.reverse.dropWhile wsC=M.reverse:=by rw [h3,List.reverse_append,List.reverse_singleton,List.singleton_append,List.dropWhile_cons,h4];rfl
  rw [e1,List.reverse_append,dropWhile_all wsC _ _ hB',e2,List.reverse_reverse]

def keepC (l:List UInt8):List UInt8:=l.filter (fun c=> !eyeC c)

theorem keepC_le (l:List UInt8):(keepC l).length≤l.length:=List.length_filter_le _ _

theorem keepC_yes (l:List UInt8) (c:UInt8) (h:eyeC c=true):keepC (l++[c])=keepC l:=by simp [keepC,h]

theorem keepC_no (l:List UInt8) (c:UInt8) (h:eyeC c=false):keepC (l++[c])=keepC l++[c]:=by simp [keepC,h]

theorem clean_keep (l:List UInt8):cleanV l=keepC (trimV l):=rfl

theorem clean_le (l:List UInt8):(cleanV l).length≤l.length:=by
 rw [clean_keep];refine Nat.le_trans (keepC_le _) ?_;unfold trimV;rw [List.length_reverse];refine Nat.le_trans (List.dropWhile_suffix wsC).length_le ?_;rw [List.length_reverse];exact (List.dropWhile_suffix wsC).length_le

theorem ws_yes {c:UInt8} (h:wsC c=true):(c.toNat:Int)≤32:=by
 have:=of_decide_eq_true h;omega

theorem ws_no {c:UInt8} (h:wsC c=false):32<(c.toNat:Int):=by
 have:=of_decide_eq_false h;omega

theorem eye_no {c:UInt8} (h:eyeC c=false):((c.toNat:Int) != 9)=true∧((c.toNat:Int) != 10)=true∧((c.toNat:Int) != 13)=true:=by
 have key: ∀ n<256,eyeC (UInt8.ofNat n)=false→(((UInt8.ofNat n).toNat:Int) != 9)=true∧(((UInt8.ofNat n).toNat:Int) != 10)=true∧(((UInt8.ofNat n).toNat:Int) != 13)=true:=by decide +kernel
 have:=key c.toNat c.toNat_lt;have e:UInt8.ofNat c.toNat=c:=by simp
 rw [e] at this;exact this h

theorem eye_yes {c:UInt8} (h:eyeC c=true):((c.toNat:Int) != 9)=false∨(((c.toNat:Int) != 9)=true∧((c.toNat:Int) != 10)=false)∨(((c.toNat:Int) != 9)=true∧((c.toNat:Int) != 10)=true∧((c.toNat:Int) != 13)=false):=by
 have key: ∀ n<256,eyeC (UInt8.ofNat n)=true→(((UInt8.ofNat n).toNat:Int) != 9)=false∨((((UInt8.ofNat n).toNat:Int) != 9)=true∧(((UInt8.ofNat n).toNat:Int) != 10)=false)∨((((UInt8.ofNat n).toNat:Int) != 9)=true∧(((UInt8.ofNat n).toNat:Int) != 10)=true∧(((UInt8.ofNat n).toNat:Int) != 13)=false):=by decide +kernel
 have:=key c.toNat c.toNat_lt;have e:UInt8.ofNat c.toNat=c:=by simp
 rw [e] at this;exact this h

end Go.Proofs.YtolioccofbhliaaGreatDoor

namespace Go.Proofs.YtolioccofbhliaaGreatDoor
open Go.RowKit

theorem all_snoc {p:UInt8→Bool} (s:ByteArray) (k:Nat) (h:k<s.size) (ha:(s.data.toList.take k).all p=true) (hb:p s[k]=true):(s.data.toList.take (k+1)).all p=true:=by
 rw [take_snoc s k h,List.all_append,ha];simp [hb]

theorem all_cons {p:UInt8→Bool} (s:ByteArray) (k:Nat) (h:k<s.size) (ha:(s.data.toList.drop (k+1)).all p=true) (hb:p s[k]=true):(s.data.toList.drop k).all p=true:=by
 rw [drop_cons s k h,List.all_cons,ha,hb];rfl

end Go.Proofs.YtolioccofbhliaaGreatDoor

namespace Go.Proofs.YtolioccofbhliaaGreatDoor
open Go.RowKit

theorem byte_is {s:ByteArray} {n:Nat} {h:n<s.size} {c:UInt8} (e:s[n]=c):((s[n].toNat:Int)==(c.toNat:Int))=true:=by rw [e];exact beq_self_eq_true _

theorem byte_not {s:ByteArray} {n:Nat} {h:n<s.size} {c:UInt8} (e: ¬ s[n]=c):((s[n].toNat:Int)==(c.toNat:Int))=false:=by
 rw [beq_eq_false_iff_ne];intro h2;exact e (UInt8.toNat_inj.1 (by omega))

end Go.Proofs.YtolioccofbhliaaGreatDoor

namespace Go.Proofs.YtolioccofbhliaaGreatDoor
def hx (c:UInt8):Bool:=decide (dig16 c<16)

def halves (m:Nat):List Nat:=[m / 65536,m % 65536]

def hexP (p:List UInt8):Option (List Nat):=if p≠[]∧p.length≤4∧p.all hx=true then some [fold16 0 p] else none

theorem scan_all (whole:Option Nat) (last:Bool): ∀ (l:List UInt8) (i n:Nat),i≤4→(last=true→46 ∉ l)→scanP whole last i n l=if (i≠0∨l≠[])∧i+l.length≤4∧l.all hx=true then some [fold16 n l] else none
 | [],i,n,hi,_=>by
   rw [scanP];by_cases h:i=0
   ·rw [if_pos h,if_neg (by simp [h])]
   ·rw [if_neg h,if_pos ⟨.inl h,by simpa using hi,rfl⟩];rfl
 | c::l,i,n,hi,hl=>by
   rw [scanP,if_neg (by rintro ⟨rfl,h⟩;exact hl h (by simp))]
   by_cases hd:dig16 c<16∧i≠4
   ·rw [if_pos hd,scan_all whole last l (i+1) _ (by omega) (fun h e=>hl h (by simp [e]))]
    have e:(fold16 (n*16+dig16 c) l)=fold16 n (c::l):=rfl;rw [e];by_cases h:i+(c::l).length≤4∧(c::l).all hx=true
    ·have h1:i+1+l.length≤4:=by have:=h.1;simp at this;omega
     have h2:l.all hx=true:=by have:=h.2;simp only [List.all_cons,Bool.and_eq_true] at this;exact this.2
     rw [if_pos ⟨.inl (by omega),h1,h2⟩,if_pos ⟨.inr (by simp),h⟩]
    ·have h': ¬ ((i+1≠0∨l≠[])∧i+1+l.length≤4∧l.all hx=true):=by
      rintro ⟨_,h1,h2⟩
      exact h ⟨by simp;omega,by simp only [List.all_cons,h2,Bool.and_true,hx,decide_eq_true_eq];exact hd.1⟩
     rw [if_neg h',if_neg (fun g=>h g.2)]
   ·rw [if_neg hd,if_neg]
    rintro ⟨_,h1,h2⟩
    simp only [List.all_cons,Bool.and_eq_true,hx,decide_eq_true_eq] at h2
    simp at h1;exact hd ⟨h2.1,by omega⟩

theorem pieceV_hex (last:Bool) (p:List UInt8) (h:last=true→46 ∉ p):pieceV last p=hexP p:=by
 unfold pieceV hexP;rw [scan_all _ _ _ _ _ (by omega) h]
 congr 1
 simp

theorem scan_dotted (whole:Option Nat): ∀ (a r:List UInt8) (i n:Nat),i≤4→46 ∉ a→scanP whole true i n (a++46::r)=if i+a.length≤4∧a.all hx=true then whole.map halves else none
 | [],r,i,n,hi,_=>by
   rw [List.nil_append,scanP,if_pos ⟨rfl,rfl⟩,if_pos ⟨by simpa using hi,rfl⟩];rfl
 | c::a,r,i,n,hi,ha=>by
   rw [List.cons_append,scanP,if_neg (by rintro ⟨rfl,h⟩;exact ha (by simp))]
   by_cases hd:dig16 c<16∧i≠4
   ·rw [if_pos hd,scan_dotted whole a r (i+1) _ (by omega) (fun e=>ha (by simp [e]))]
    have hc:hx c=true:=by simp [hx,hd.1]
    simp only [List.length_cons,List.all_cons,hc,Bool.true_and]
    rw [show i+1+a.length=i+(a.length+1) by omega]
   ·rw [if_neg hd,if_neg]
    rintro ⟨h1,h2⟩
    simp only [List.all_cons,Bool.and_eq_true,hx,decide_eq_true_eq] at h2
    simp at h1;exact hd ⟨h2.1,by omega⟩

def dotL:Nat→List (List UInt8)→Option Nat
 | n,[]=>some n
 | n,x::L=>match plainB x with
   | none=>none
   | some b=>dotL (n*256+b) L

theorem dotN_L: ∀ (r n:Nat) (l:List UInt8),dotN (r+1) n l=if (cutL 46 l).length=r+1 then dotL n (cutL 46 l) else none
 | r,n,l=>by
   rcases first_split 46 l with h | ⟨a,t,ha,rfl⟩
   ·rw [dotN,cut_none l 46 h,cutL_none 46 l h]
    simp only [List.length_singleton,dotL]
    cases plainB l with
    | none=>simp
    | some b=>
      cases r with
      | zero=>rfl
      | succ r=>simp
   ·rw [dotN,cut_some a t 46 ha,cutL_some 46 a t ha]
    simp only [List.length_cons,dotL]
    have hne:=List.length_pos_iff.2 (cutL_ne 46 t)
    cases plainB a with
    | none=>simp
    | some b=>
      cases r with
      | zero=>
        rw [if_neg (by omega)];rfl
      | succ r=>
        simp only [ne_eq,Nat.add_one_ne_zero,not_false_eq_true,decide_true,if_true]
        rw [dotN_L r _ t]
        congr 1
        simp

theorem dottedV_L (p:List UInt8):dottedV p=if (cutL 46 p).length=4 then dotL 0 (cutL 46 p) else none:=dotN_L 3 0 p

theorem valN_up: ∀ (l:List UInt8) (n m:Nat),n≤4294967296→valN 10 n l=some m→n≤m
 | [],n,m,_,h=>by rw [valN] at h;injection h with h;omega
 | c::l,n,m,hn,h=>by
   rw [valN] at h;split at h
   ·have:=valN_up l _ m (by omega) h
    omega
   ·cases h

theorem valN_cons {n m:Nat} {c:UInt8} {l:List UInt8} (h:valN 10 n (c::l)=some m):dig16 c<10∧valN 10 (min (n*10+dig16 c) 4294967296) l=some m:=by
 rw [valN] at h;split at h
 ·exact ⟨by assumption,h⟩
 ·cases h

theorem valN_hx (base:Nat) (hb:base≤16) (l:List UInt8) (n m:Nat) (h:valN base n l=some m):l.all hx=true:=by
 have:=valN_isSome base l n;rw [h] at this;have h2:=List.all_eq_true.1 this.symm;rw [List.all_eq_true];intro c hc;have:=h2 c hc;simp only [decide_eq_true_eq] at this;simp only [hx,decide_eq_true_eq]
 omega

theorem dig16_zero (c:UInt8) (h:dig16 c=0):c=48:=by
 have key: ∀ n<256,dig16 (UInt8.ofNat n)=0→UInt8.ofNat n=48:=by decide +kernel
 have:=key c.toNat c.toNat_lt;simp at this;exact this h

theorem plainB_ok (a:List UInt8) (b:Nat) (h:plainB a=some b):a.length≤4∧a.all hx=true:=by
 unfold plainB at h
 cases hv:valV 10 a with
 | none=>rw [hv] at h;cases h
 | some n=>
   rw [hv] at h;simp only at h;split at h
   ·cases h
   ·rename_i hn
    refine ⟨?_,valN_hx 10 (by omega) a 0 n hv⟩
    rcases Nat.lt_or_ge 4 a.length with h4 | h4
    ·exfalso
     match a,h4 with
     | c::d::e::f::r,_=>
       unfold valV at hv;obtain ⟨h1,hv⟩:=valN_cons hv
       obtain ⟨h2,hv⟩:=valN_cons hv
       obtain ⟨h3,hv⟩:=valN_cons hv
       obtain ⟨h4,hv⟩:=valN_cons hv
       have:=valN_up _ _ _ (by omega) hv
       have hc:dig16 c≠0:=fun e=>hn (.inr (.inr ⟨by rw [dig16_zero c e];rfl,by simp⟩))
       have hn1: ¬ 255<n:=fun e=>hn (.inl e)
       omega
    ·exact h4

theorem pieceV_last (p:List UInt8):pieceV true p=if (cutL 46 p).length=4 then (dotL 0 (cutL 46 p)).map halves else hexP p:=by
 rcases first_split 46 p with h | ⟨a,r,ha,rfl⟩
 ·rw [pieceV_hex true p (fun _=>h),cutL_none 46 p h,if_neg (by simp)]
 ·have e:pieceV true (a++46::r)=if 0+a.length≤4∧a.all hx=true then (dottedV (a++46::r)).map halves else none:=scan_dotted _ a r 0 0 (by omega) ha
  rw [e,dottedV_L]
  by_cases h4:(cutL 46 (a++46::r)).length=4
  ·rw [if_pos h4,if_pos h4]
   rw [cutL_some 46 a r ha,dotL]
   cases hp:plainB a with
   | none=>simp
   | some b=>
     have:=plainB_ok a b hp;rw [if_pos ⟨by omega,this.2⟩]
  ·rw [if_neg h4,if_neg h4]
   have:hexP (a++46::r)=none:=by
    unfold hexP;rw [if_neg];rintro ⟨_,_,h⟩
    have:=List.all_eq_true.1 h 46 (by simp)
    revert this;decide
   rw [this];simp

def big:Nat:=9223372036854775807

def plainR (l:List UInt8):Option Nat:=
 match valC big 10 0 l with
 | none=>none
 | some m=>if l=[]∨255<m∨(1<l.length∧l.head? = some 48) then none else some m

theorem plainR_eq (l:List UInt8):plainR l=plainB l:=by
 unfold plainR plainB valV;rw [valC_N big 10 (by omega) (by decide) l 0 0 rfl]
 cases valC big 10 0 l with
 | none=>rfl
 | some m=>
   simp only [Option.map_some];by_cases h:l=[]∨255<m∨(1<l.length∧l.head? = some 48)
   ·rw [if_pos h,if_pos]
    rcases h with h | h | ⟨h1,h2⟩
    ·exact .inr (.inl h)
    ·exact .inl (by omega)
    ·refine .inr (.inr ⟨h2,?_⟩)
     rintro rfl;simp at h1
   ·rw [if_neg h,if_neg]
    ·have: ¬ 255<m:=fun e=>h (.inr (.inl e))
     rw [Nat.min_eq_left (by omega)]
    ·rintro (g | g | ⟨g1,g2⟩)
     ·exact h (.inr (.inl (by omega)))
     ·exact h (.inl g)
     ·refine h (.inr (.inr ⟨?_,g1⟩))
      match l,g1,g2 with
      | [c],g1,g2=>simp at g1;subst g1;exact absurd rfl g2
      | c::d::r,_,_=>simp

def rpL (e:Bool):List (List UInt8)→Option (List Nat)
 | []=>some []
 | [p]=>pieceV e p
 | p::q::L=>match hexP p with
   | none=>none
   | some ns=>(rpL e (q::L)).map fun x=>ns++x

theorem piecesN_L (e:Bool): ∀ (f:Nat) (out:List Nat) (l:List UInt8),piecesN e f out l true=if (cutL 58 l).length≤f then (rpL e (cutL 58 l)).map fun x=>out++x else none
 | 0,out,l=>by
   have:=List.length_pos_iff.2 (cutL_ne 58 l);rw [if_neg (by omega)];rfl
 | f+1,out,l=>by
   rcases first_split 58 l with h | ⟨a,t,ha,rfl⟩
   ·rw [piecesN,cut_none l 58 h,cutL_none 58 l h,if_pos (by simp),rpL]
    simp only [Bool.not_false,Bool.and_true]
    cases pieceV e l with
    | none=>rfl
    | some ns=>simp only [Option.map_some];exact piecesN_done
   ·rw [piecesN,cut_some a t 58 ha,cutL_some 58 a t ha]
    simp only [Bool.not_true,Bool.and_false]
    obtain ⟨y,L,hy⟩: ∃ y L,cutL 58 t=y::L:=by
     cases e:cutL 58 t with
     | nil=>exact absurd e (cutL_ne 58 t)
     | cons y L=>exact ⟨y,L,rfl⟩
    rw [pieceV_hex false a (by simp),hy,rpL]
    cases hexP a with
    | none=>simp
    | some ns=>
      simp only;rw [piecesN_L e f (out++ns) t,hy];simp only [List.length_cons,Nat.add_le_add_iff_right]
      congr 1
      cases rpL e (y::L)<;>simp

def rpV (s:List UInt8) (e:Bool):Option (List Nat):=if s=[] then some [] else rpL e (cutL 58 s)

theorem piecesV_rp (s:List UInt8) (e:Bool):piecesV s e=if s=[]∨(cutL 58 s).length≤8 then rpV s e else none:=by
 unfold piecesV rpV;by_cases h:s=[]
 ·subst h;rfl
 ·rw [decide_eq_true h,piecesN_L]
  simp only [h,false_or,if_false,List.nil_append,Option.map_id']

theorem hexP_len (p:List UInt8) (ns:List Nat) (h:hexP p=some ns):ns.length=1:=by
 unfold hexP at h;split at h
 ·injection h with h;rw [← h];rfl
 ·cases h

theorem pieceV_len (e:Bool) (p:List UInt8) (ns:List Nat) (h:pieceV e p=some ns):1≤ns.length:=by
 cases e with
 | false=>rw [pieceV_hex false p (by simp)] at h;rw [hexP_len p ns h];exact Nat.le_refl _
 | true=>
   rw [pieceV_last] at h;split at h
   ·cases hd:dotL 0 (cutL 46 p) with
    | none=>rw [hd] at h;cases h
    | some m=>rw [hd] at h;simp at h;rw [← h];simp [halves]
   ·rw [hexP_len p ns h];exact Nat.le_refl _

theorem rpL_len (e:Bool): ∀ (L:List (List UInt8)) (x:List Nat),rpL e L=some x→L.length≤x.length
 | [],x,_=>by simp
 | [p],x,h=>pieceV_len e p x h
 | p::q::L,x,h=>by
   rw [rpL] at h
   cases hp:hexP p with
   | none=>rw [hp] at h;cases h
   | some ns=>
     rw [hp] at h;simp only at h
     cases hr:rpL e (q::L) with
     | none=>rw [hr] at h;cases h
     | some y=>
       rw [hr] at h;simp only [Option.map_some,Option.some.injEq] at h
       have:=rpL_len e (q::L) y hr;have:=hexP_len p ns hp;rw [← h];simp at *
       omega

theorem pieces_some (s:List UInt8) (e:Bool) (x:List Nat) (h:rpV s e=some x) (hx:x.length≤8):piecesV s e=some x:=by
 rw [piecesV_rp,if_pos,h]
 by_cases h0:s=[]
 ·exact .inl h0
 ·right
  unfold rpV at h;rw [if_neg h0] at h;have:=rpL_len e _ x h;omega

theorem pieces_back (s:List UInt8) (e:Bool) (x:List Nat) (h:piecesV s e=some x):rpV s e=some x:=by
 rw [piecesV_rp] at h;split at h
 ·exact h
 ·cases h

def rsixV (l:List UInt8):Option (List Nat):=
 if (Lib.cut l [58,58]).2.2 then
  match rpV (Lib.cut l [58,58]).1 false,rpV (Lib.cut l [58,58]).2.1 true with
  | some a,some b=>if a.length+b.length≤7 then some (a++List.replicate (8 - a.length - b.length) 0++b) else none
  | _,_=>none
 else match rpV l true with
  | some a=>if a.length=8 then some a else none
  | none=>none

theorem cut_not (l:List UInt8) (h:(Lib.cut l [58,58]).2.2=false):Lib.cut l [58,58]=(l,[],false):=by
 unfold Lib.cut at h ⊢;split
 ·rename_i h1;rw [if_pos h1] at h;cases h
 ·rfl

theorem rsixV_eq (l:List UInt8):sixV l=rsixV l:=by
 unfold rsixV
 cases hg:(Lib.cut l [58,58]).2.2 with
 | false=>
   have hc:=cut_not l hg;simp only [Bool.false_eq_true,if_false]
   unfold sixV;rw [hc];have hn:piecesV [] true=some []:=rfl;simp only [Bool.not_false,hn]
   cases hr:rpV l true with
   | none=>
     cases hp:piecesV l true with
     | none=>rfl
     | some x=>rw [pieces_back l true x hp] at hr;cases hr
   | some a=>
     simp only;by_cases h8:a.length=8
     ·rw [pieces_some l true a hr (by omega),if_pos h8]
      simp [h8]
     ·rw [if_neg h8]
      cases hp:piecesV l true with
      | none=>rfl
      | some x=>
        have:=pieces_back l true x hp;rw [hr] at this;injection this with this
        subst this;simp only [List.length_nil,Nat.add_zero,Bool.false_eq_true,false_iff]
        rw [if_neg (by omega)]
 | true=>
   simp only [if_true];unfold sixV;rw [hg];simp only [Bool.not_true,true_iff]
   cases hr:rpV (Lib.cut l [58,58]).1 false with
   | none=>
     cases hp:piecesV (Lib.cut l [58,58]).1 false with
     | none=>rfl
     | some x=>rw [pieces_back _ _ x hp] at hr;cases hr
   | some a=>
     cases hr2:rpV (Lib.cut l [58,58]).2.1 true with
     | none=>
       cases hp:piecesV (Lib.cut l [58,58]).2.1 true with
       | none=>cases piecesV (Lib.cut l [58,58]).1 false<;>rfl
       | some x=>rw [pieces_back _ _ x hp] at hr2;cases hr2
     | some b=>
       simp only;by_cases h7:a.length+b.length≤7
       ·rw [pieces_some _ _ a hr (by omega),pieces_some _ _ b hr2 (by omega),if_pos h7]
        simp only;rw [if_pos ⟨by omega,by omega⟩]
       ·rw [if_neg h7]
        cases hp:piecesV (Lib.cut l [58,58]).1 false with
        | none=>rfl
        | some x=>
          have e1:=pieces_back _ _ x hp;rw [hr] at e1;injection e1 with e1
          subst e1
          cases hp2:piecesV (Lib.cut l [58,58]).2.1 true with
          | none=>rfl
          | some y=>
            have e2:=pieces_back _ _ y hp2;rw [hr2] at e2;injection e2 with e2
            subst e2;simp only;rw [if_neg (by omega)]

def xn:List UInt8:=[120,110,45,45]

theorem contains_cons (x:UInt8) (l sub:List UInt8) (h:sub≠[]):Lib.contains (x::l) sub=(sub.isPrefixOf (x::l)||Lib.contains l sub):=by
 unfold Lib.contains;rw [Lib.index]
 cases sub.isPrefixOf (x::l) with
 | true=>simp
 | false=>
   simp only [Bool.false_eq_true,if_false,Bool.false_or]
   by_cases h1:Lib.index l sub = -1
   ·simp [h1]
   ·have h2:(Lib.index l sub == -1)=false:=by rw [beq_eq_false_iff_ne];exact h1
    have h3:0≤Lib.index l sub:=by
     have:=Lib.index_ge l sub;omega
    simp [h2,h1]
    omega

theorem xn_app: ∀ (a r:List UInt8),46 ∉ a→Lib.hasPrefix (a++46::r) xn=Lib.hasPrefix a xn:=by
 intro a r h;unfold Lib.hasPrefix xn
 match a with
 | []=>rfl
 | [b]=>simp [List.isPrefixOf]
 | [b,c]=>simp [List.isPrefixOf]
 | [b,c,d]=>simp [List.isPrefixOf]
 | b::c::d::e::t=>simp [List.isPrefixOf]

theorem con_skip (r:List UInt8): ∀ a:List UInt8,46 ∉ a→Lib.contains (a++r) (46::xn)=Lib.contains r (46::xn)
 | [],_=>rfl
 | x::a,h=>by
   have hx:x≠46:=fun e=>h (by simp [e])
   rw [List.cons_append,contains_cons _ _ _ (by simp),con_skip r a (fun e=>h (by simp [e]))]
   have:(46::xn).isPrefixOf (x::(a++r))=false:=by
    simp [List.isPrefixOf];intro e;exact absurd e.symm hx
   rw [this];rfl

theorem coded_eq: ∀ l:List UInt8,coded l=(cutL 46 l).any fun p=>Lib.hasPrefix p xn:=by
 refine cutL_ind 46 (fun l h=> ?_) (fun a r h ih=> ?_)
 ·rw [cutL_none 46 l h]
  have:=con_skip [] l h;rw [List.append_nil] at this;unfold coded;rw [show ([46,120,110,45,45]:List UInt8)=46::xn from rfl,this,show Lib.contains [] (46::xn)=false from by decide];simp [xn]
 ·rw [cutL_some 46 a r h,List.any_cons,← ih]
  unfold coded;rw [show ([46,120,110,45,45]:List UInt8)=46::xn from rfl,show ([120,110,45,45]:List UInt8)=xn from rfl,xn_app a r h,con_skip _ a h,contains_cons _ _ _ (by simp)]
  congr 2

end Go.Proofs.YtolioccofbhliaaGreatDoor
