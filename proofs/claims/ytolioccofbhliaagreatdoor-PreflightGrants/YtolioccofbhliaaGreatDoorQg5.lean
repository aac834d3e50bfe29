/-
  Walks and plain facts that this claim leans on, put together out of 6 texts: Ert, Eru, Erua, Erub, Eruc, Erud.
-/
import Derived.Test.YtolioccofbhliaaGreatDoorProg
import Derived.Test.YtolioccofbhliaaGreatDoorQp1
import Derived.Test.YtolioccofbhliaaGreatDoorQp2
import Derived.Test.YtolioccofbhliaaGreatDoorQp3
import Derived.Test.YtolioccofbhliaaGreatDoorQp4
import Derived.Test.YtolioccofbhliaaGreatDoorQp5
import Derived.Test.YtolioccofbhliaaGreatDoorQp6
import Derived.Test.YtolioccofbhliaaGreatDoorQp7
import Derived.Test.YtolioccofbhliaaGreatDoorQp8
import Derived.Test.YtolioccofbhliaaGreatDoorQp9
import Derived.Test.YtolioccofbhliaaGreatDoorQp10
import Derived.Test.YtolioccofbhliaaGreatDoorQp11
import Derived.Test.YtolioccofbhliaaGreatDoorQp12
import Derived.Test.YtolioccofbhliaaGreatDoorQp13
import Derived.Test.YtolioccofbhliaaGreatDoorQp14
import Derived.Test.YtolioccofbhliaaGreatDoorQp15
import Derived.Test.YtolioccofbhliaaGreatDoorQp16
import Derived.Test.YtolioccofbhliaaGreatDoorQp17
import Derived.Test.YtolioccofbhliaaGreatDoorQp18
import Derived.Test.YtolioccofbhliaaGreatDoorQp19
import Derived.Test.YtolioccofbhliaaGreatDoorQp20
import Derived.Test.YtolioccofbhliaaGreatDoorQp21
import Derived.Test.YtolioccofbhliaaGreatDoorQp22
import Derived.Test.YtolioccofbhliaaGreatDoorQp23
import Derived.Test.YtolioccofbhliaaGreatDoorQp24
import Derived.Test.YtolioccofbhliaaGreatDoorQp25
import Derived.Test.YtolioccofbhliaaGreatDoorQp26
import Derived.Test.YtolioccofbhliaaGreatDoorQp27
import Derived.Test.YtolioccofbhliaaGreatDoorQp28
import Derived.Test.YtolioccofbhliaaGreatDoorQg1
import Derived.Test.YtolioccofbhliaaGreatDoorQg4
import Derived.Lib.IndexMore
import Derived.Lib.Join
import Derived.Lib.LastIndexByte
import Derived.WalkKit
import Derived.Lib.Strings
import Derived.Lib.UnsafeStr
import Derived.Laws.IdiomStrings
import Derived.Laws.AppendOwn
import Derived.Laws.BitsAllLaws
import Derived.Lib.Bytealg
import Derived.Lib.BufferMore
import Derived.LoopN
import Derived.RegionTactic
import Derived.Deep.RegionWith
import Derived.Deep.QuietTactic
import Derived.BigQuiet
import Derived.Laws.OwnMore
import Derived.Shelf.Strings.Builder1
import Derived.Shelf.Strings.Builder2
import Derived.Shelf.Strings.OnBuilder
import Derived.Shelf.Strings.Trim
import Derived.Shelf.Small.Utf8
import Derived.Shelf.Small.Bits
import Derived.Shelf.Small.Strs
import Derived.Shelf.Small.Wraps
import Derived.Shelf.Strings.BuilderF
import Derived.Shelf.Strings.BuilderK
import Derived.Shelf.Strings.Builder2Cap
import Derived.Shelf.Strconv.Itoa0
import Derived.Shelf.Strconv.Itoa1
import Derived.Shelf.LaysM
import Derived.Shelf.Strconv.Itoa2
import Derived.Shelf.Strconv.Itoa3
import Derived.Shelf.Strings.Search1
import Derived.Shelf.Strings.Search2
import Derived.Shelf.Strings.Cut
import Derived.Shelf.Strings.Shaped
import Derived.Shelf.Sort.Plain
import Derived.Shelf.Strings.Prefix
import Derived.Shelf.Strings.Runes
import Derived.Shelf.Strings.IndexAny
import Derived.Shelf.Strings.AsciiSet
import Derived.Shelf.Strings.IndexAnyAll
import Derived.Shelf.Unicode.DecodeSlow
import Derived.Shelf.Unicode.DecodeAny
import Derived.Shelf.Unicode.DecodeLast
import Derived.Shelf.Slices.CompactS
import Derived.Shelf.Slices.In.SortNone
import Derived.Ground.SlgnProg
import Derived.Shelf.SlicesE.Compact
import Derived.Ground.SlgfProg
import Derived.Shelf.SlicesE.IndexFunc
import Derived.Shelf.SlicesE.DeleteFunc
import Derived.Scope
import Derived.ScopeJumps
import Derived.WalkMore
import Derived.Lib.IndexAny
import Derived.Lib.Replace
import Derived.Lib.TrimByte
import Derived.Lib.ItoaNum
import Derived.Laws.RangeAny
import Derived.Lib.DecodeN
import Derived.Lib.OthersKept
import Derived.Deep.LoopGhost
import Derived.Laws.BytesString
import Derived.Deep.WholeRow
import Derived.BigRegion
import Derived.Lib.AppendStr
import Derived.Deep.RegionHeld
import Derived.WalkSpells
import Derived.WalkLawsBesides
import Derived.Lib.AppendIntMem
import Derived.Lib.SmallJoins
import Derived.WalkSmall
import Derived.OwnWalk
import Derived.Laws.CopyOwn
import Derived.Laws.ResultCell
import Derived.Deep.MidRow
import Derived.Lib.FrozenHead2
import Derived.Lib.Builder
import Derived.Deep.RegionLaw
import Derived.Lib.SlTrimSet
set_option linter.unusedSimpArgs false
set_option linter.unusedVariables false

namespace Go.Proofs.YtolioccofbhliaaGreatDoor
theorem is16_5 (c:UInt8) (h:is16I c.toNat=true):inSetI c.toNat 5=false:=by
 have:=u8_all (P:=fun c=> !is16I c.toNat || !inSetI c.toNat 5) (by decide +kernel) c
 simp only [Bool.or_eq_true,Bool.not_eq_true'] at this
 rcases this with h' | h'
 ·rw [h] at h';cases h'
 ·exact h'

theorem is16_37:is16I (37:UInt8).toNat=false:=by decide

theorem pct_cons (k:Int) (c:UInt8) (l:List UInt8):pct k (c::l)=pct1 k c++pct k l:=rfl

theorem pct1_in {k:Int} {c:UInt8} (h:inSetI c.toNat k=true):pct1 k c=[37,hexD (c.toNat / 16),hexD (c.toNat % 16)]:=by unfold pct1;rw [if_pos h];rfl

theorem pct1_out {k:Int} {c:UInt8} (h:inSetI c.toNat k=false):pct1 k c=[c]:=by unfold pct1;rw [h];rfl

theorem unpct_ne {c:UInt8} {l:List UInt8} (h:c≠37):unpct (c::l)=c::unpct l:=by rw [unpct_cons,pcd_other l c h];rfl

theorem unpct_37_no {l:List UInt8} (h:pcd (37::l)=(37,false)):unpct (37::l)=37::unpct l:=by
 rw [unpct_cons,h];rfl

theorem unpct_pct5: ∀ (n:Nat) (p:List UInt8),p.length≤n→unpct (pct 5 p)=unpct p:=by
 intro n
 induction n with
 | zero=>
   intro p h;have:p=[]:=List.eq_nil_of_length_eq_zero (by omega)
   subst this;rfl
 | succ n ih=>
   intro p h
   match p,h with
   | [],_=>rfl
   | c::l,h=>
     have hl:l.length≤n:=by simp at h;omega
     by_cases hc:inSetI c.toNat 5=true
     ·have hne:c≠37:=fun e=>by subst e;exact absurd hc (by decide)
      rw [pct_cons];unfold pct1;rw [if_pos hc,unpct_esc,ih l hl,unpct_ne hne]
     ·have hc':inSetI c.toNat 5=false:=by simpa using hc
      rw [pct_cons,pct1_out hc',List.singleton_append]
      by_cases h37:c=37
      ·subst h37
       by_cases hb: ∃ a b r,l=a::b::r∧(is16I a.toNat&&is16I b.toNat)=true
       ·obtain ⟨a,b,r,rfl,hab⟩:=hb
        have hab':=hab;rw [Bool.and_eq_true] at hab';rw [pct_cons,pct1_out (is16_5 a hab'.1),pct_cons,pct1_out (is16_5 b hab'.2),List.singleton_append,List.singleton_append]
        rw [unpct_cons,unpct_cons,pcd_three,pcd_three,hab]
        simp only [if_true];rw [List.drop_succ_cons,List.drop_succ_cons,List.drop_zero,List.drop_succ_cons,List.drop_succ_cons,List.drop_zero,ih r (by simp at hl;omega)]
       ·have h1:pcd (37::l)=(37,false):=by
         match l,hb with
         | [],_=>exact pcd_short [] 37 (by simp)
         | [a],_=>exact pcd_short [a] 37 (by simp)
         | a::b::r,hb=>
           rw [pcd_three,if_neg (fun e=>hb ⟨a,b,r,rfl,e⟩)]
        have h2:pcd (37::pct 5 l)=(37,false):=by
         match l,hb with
         | [],_=>exact pcd_short [] 37 (by simp)
         | a::l',hb=>
           by_cases ha:inSetI a.toNat 5=true
           ·rw [pct_cons,pct1_in ha]
            show pcd (37::37::hexD (a.toNat / 16)::(hexD (a.toNat % 16)::pct 5 l'))=_;rw [pcd_three,is16_37,Bool.false_and];rfl
           ·have ha':inSetI a.toNat 5=false:=by simpa using ha
            rw [pct_cons,pct1_out ha',List.singleton_append]
            match l',hb with
            | [],_=>exact pcd_short [a] 37 (by simp)
            | b::r,hb=>
              by_cases hbs:inSetI b.toNat 5=true
              ·rw [pct_cons,pct1_in hbs]
               show pcd (37::a::37::(hexD (b.toNat / 16)::hexD (b.toNat % 16)::pct 5 r))=_;rw [pcd_three,is16_37,Bool.and_false];rfl
              ·have hb':inSetI b.toNat 5=false:=by simpa using hbs
               rw [pct_cons,pct1_out hb',List.singleton_append,pcd_three,if_neg (fun e=>hb ⟨a,b,r,rfl,e⟩)]
        rw [unpct_37_no h1,unpct_37_no h2,ih l hl]
      ·rw [unpct_ne h37,unpct_ne h37,ih l hl]

theorem dots_pct5 (p:List UInt8):dotsV (pct 5 p)=dotsV p:=by
 unfold dotsV;rw [unpct_pct5 p.length p (Nat.le_refl _)]

def Part2 (p:List UInt8):Prop:=dotsV p=0∧pct 5 p=p∧47 ∉ p

theorem pathL_back: ∀ (L out:List (List UInt8)),(∀ p ∈ L,Part2 p)→pathL out L=out++L
 | [],out,_=>by rw [pathL,List.append_nil]
 | [p],out,h=>by
   have hp:=h p (by simp)
   rw [pathL_last,stepP0 hp.1,hp.2.1]
 | p::q::r,out,h=>by
   have hp:=h p (by simp)
   rw [pathL_more out p (q::r) (by simp),stepP0 hp.1,hp.2.1,pathL_back (q::r) _ fun x hx=>h x (by simp [hx])];simp

theorem cut_back: ∀ (p:List UInt8) (L:List (List UInt8)),47 ∉ p→(∀ q ∈ L,Part2 q)→cutL 47 (p++L.flatMap (fun q=>47::q))=p::L
 | p,[],hp,_=>by rw [List.flatMap_nil,List.append_nil,cutL_none 47 p hp]
 | p,q::L,hp,h=>by
   rw [List.flatMap_cons,List.cons_append,cutL_some 47 p _ hp,cut_back q L (h q (by simp)).2.2 fun x hx=>h x (by simp [hx])]

theorem path_back (sp:Bool) (L:List (List UInt8)) (h: ∀ p ∈ L,Part2 p) (hsp:sp=true→L≠[]):pathV sp [] (L.flatMap (fun q=>47::q))=L:=by
 cases L with
 | nil=>
   cases sp with
   | true=>exact absurd rfl (hsp rfl)
   | false=>rfl
 | cons p L=>
   unfold pathV;rw [if_neg (by simp),List.flatMap_cons];have:over1 (47::p++L.flatMap (fun q=>47::q))=p++L.flatMap (fun q=>47::q):=by simp [over1]
   rw [this,cut_back p L (h p (by simp)).2.2 (fun x hx=>h x (by simp [hx])),pathL_back _ _ h,List.nil_append]

theorem text6_gen (P:UInt8→Bool) (h58:P 58=true) (hd: ∀ n<16,P (digC n)=true): ∀ (x:List Nat),∀ c ∈ text6 x,P c=true:=by
 have hN: ∀ (f n:Nat) (acc:List UInt8),(∀ c ∈ acc,P c=true) → ∀ c ∈ digsN 16 f n acc,P c=true:=by
  intro f
  induction f with
  | zero=>intro n acc h;exact h
  | succ f ih=>
    intro n acc h;rw [digsN];split
    ·intro c hc
     rcases List.mem_cons.1 hc with rfl | hc
     ·exact hd n (by omega)
     ·exact h c hc
    ·refine ih _ _ fun c hc=> ?_
     rcases List.mem_cons.1 hc with rfl | hc
     ·exact hd _ (Nat.mod_lt _ (by omega))
     ·exact h c hc
 have hj: ∀ (x:List Nat),∀ c ∈ joined x,P c=true:=by
  intro x
  induction x with
  | nil=>rw [joined_nil];simp
  | cons a l ih=>
    cases l with
    | nil=>rw [joined_one];exact hN 4 a [] (by simp)
    | cons b l=>
      rw [joined_cons];intro c hc;rcases List.mem_append.1 hc with hc | hc
      ·exact hN 4 a [] (by simp) c hc
      ·rcases List.mem_append.1 hc with hc | hc
       ·obtain rfl:=List.mem_singleton.1 hc;exact h58
       ·exact ih c hc
 intro x;unfold text6;split
 ·exact hj x
 ·intro c hc
  rcases List.mem_append.1 hc with hc | hc
  ·exact hj _ c hc
  ·rcases List.mem_append.1 hc with hc | hc
   ·rcases List.mem_cons.1 hc with rfl | hc
    ·exact h58
    ·obtain rfl:=List.mem_singleton.1 hc;exact h58
   ·exact hj _ c hc

def HostCol (h:List UInt8):Prop:=(∀ c ∈ h,c≠58∧c≠91) ∨ ∃ t,h=91::(t++[93])∧93 ∉ t

theorem dec8_gen (n:Nat) (h:n<256): ∀ c ∈ dec8 n,c≠58∧c≠91:=by
 have: ∀ n<256,∀ c ∈ dec8 n,c≠58∧c≠91:=by decide +kernel
 exact this n h

theorem host_col {l a:List UInt8} {b:Bool} (h:parseV l b=some a):HostCol a:=by
 unfold parseV at h;split at h
 ·unfold bracketV at h
  split at h
  ·cases hs:sixV (Lib.trimSuffix (l.drop 1) [93]) with
   | none=>rw [hs] at h;cases h
   | some x=>
     rw [hs] at h;simp only [Option.map_some,Option.some.injEq] at h
     refine .inr ⟨text6 x,h.symm,fun e=> ?_⟩;have:=text6_gen (fun c=>c != 93) (by decide) (by decide +kernel) x 93 e
     exact absurd this (by decide)
  ·cases h
 ·split at h
  ·unfold nameV at h
   split at h
   ·cases h
   ·rename_i hn
    split at h
    ·cases hf:fourV (low (unpct l)) with
     | none=>rw [hf] at h;cases h
     | some n=>
       rw [hf] at h;simp only [Option.map_some,Option.some.injEq] at h
       rw [← h];refine .inl fun c hc=> ?_
       have hm: ∀ k:Nat,k % 256<256:=fun k=>Nat.mod_lt _ (by decide)
       unfold text4 at hc;rcases List.mem_append.1 hc with hc | hc
       ·exact dec8_gen _ (hm _) c hc
       ·rcases List.mem_cons.1 hc with rfl | hc
        ·decide
        ·rcases List.mem_append.1 hc with hc | hc
         ·exact dec8_gen _ (hm _) c hc
         ·rcases List.mem_cons.1 hc with rfl | hc
          ·decide
          ·rcases List.mem_append.1 hc with hc | hc
           ·exact dec8_gen _ (hm _) c hc
           ·rcases List.mem_cons.1 hc with rfl | hc
            ·decide
            ·exact dec8_gen _ (hm _) c hc
    ·simp only [Option.some.injEq] at h
     rw [← h];refine .inl fun c hc=> ?_
     have hall:allN (low (unpct l))=true:=by
      cases he:allN (low (unpct l)) with
      | true=>rfl
      | false=>exact absurd (.inr (.inl he)) hn
     have h1:=List.all_eq_true.1 hall c hc;constructor
     ·rintro rfl;exact absurd h1 (by decide)
     ·rintro rfl;exact absurd h1 (by decide)
  ·unfold otherV at h
   split at h
   ·cases h
   ·rename_i hn
    simp only [Option.some.injEq] at h;have hf:=pct_forb l (by simpa using hn)
    rw [h] at hf;refine .inl fun c hc=> ?_
    have h1:forb c=false:=by
     cases he:forb c with
     | false=>rfl
     | true=>rw [List.any_eq_true.2 ⟨c,hc,he⟩] at hf;cases hf
    constructor
    ·rintro rfl;exact absurd h1 (by decide)
    ·rintro rfl;exact absurd h1 (by decide)

theorem colN_true: ∀ (t r:List UInt8) (i k:Nat),93 ∉ t→colN true i k (t++93::r)=colN false (i+t.length+1) k r
 | [],r,i,k,_=>by rw [List.nil_append,colN,if_pos rfl];rfl
 | c::t,r,i,k,h=>by
   rw [List.cons_append,colN,if_neg (fun e=>h (by rw [e];simp)),colN_true t r (i+1) k fun e=>h (by simp [e])]
   congr 1
   simp;omega

theorem col_host (h pt:List UInt8) (hc:HostCol h) (hp:pt=[] ∨ ∃ t,pt=58::t ∧ ∀ c ∈ t,c≠58∧c≠91):colV (h++pt)=h.length:=by
 have key: ∀ (i k:Nat),(pt=[]→colN false i k pt=k)∧(pt≠[]→colN false i k pt=i):=by
  intro i k;rcases hp with rfl | ⟨t,rfl,ht⟩
  ·exact ⟨fun _=>rfl,fun e=>absurd rfl e⟩
  ·refine ⟨fun e=>(by cases e),fun _=> ?_⟩
   rw [colN,if_pos rfl,colN_plain t _ _ ht]
 rcases hc with hc | ⟨t,rfl,ht⟩
 ·rcases hp with rfl | ⟨t,rfl,ht⟩
  ·rw [List.append_nil,colV,colN_plain h _ _ hc]
  ·rw [colV,colN_at11 h t 0 _ hc ht,Nat.zero_add]
 ·unfold colV
  rw [List.cons_append,colN,if_neg (by decide),if_pos rfl,List.append_assoc,List.singleton_append,colN_true t pt _ _ ht]
  by_cases he:pt=[]
  ·(rw [(key _ _).1 he,he])<;>(try simp)
  ·(rw [(key _ _).2 he])<;>(try simp)<;>(try omega)

end Go.Proofs.YtolioccofbhliaaGreatDoor

namespace Go.Proofs.YtolioccofbhliaaGreatDoor
theorem pct_keep (k:Int) (P:UInt8→Bool) (h37:P 37=true) (hh: ∀ n<16,P (hexD n)=true) (l:List UInt8) (hl: ∀ c ∈ l,P c=true): ∀ c ∈ pct k l,P c=true:=by
 intro c hc;unfold pct at hc;obtain ⟨d,hd,hc⟩:=List.mem_flatMap.1 hc
 unfold pct1 at hc;split at hc
 ·unfold esc at hc
  rcases List.mem_cons.1 hc with rfl | hc
  ·exact h37
  ·rcases List.mem_cons.1 hc with rfl | hc
   ·exact hh _ (by have:=d.toNat_lt;omega)
   ·obtain rfl:=List.mem_singleton.1 hc
    exact hh _ (Nat.mod_lt _ (by omega))
 ·obtain rfl:=List.mem_singleton.1 hc
  exact hl _ hd

theorem pct_no (k:Int) (x:UInt8) (hx:x≠37) (hh: ∀ n<16,hexD n≠x) (l:List UInt8) (hl:x ∉ l):x ∉ pct k l:=fun e=>by
 have:=pct_keep k (fun c=>c != x) (by simpa using hx.symm) (fun n hn=>by simpa using hh n hn) l (fun c hc=>by simp;intro e2;exact hl (e2 ▸ hc)) x e
 simp at this

theorem hexD_no:(∀ n<16,hexD n≠47)∧(∀ n<16,hexD n≠92)∧(∀ n<16,hexD n≠63)∧(∀ n<16,hexD n≠35):=by decide +kernel

theorem cutL_mem: ∀ (n:Nat) (l:List UInt8),l.length≤n → ∀ q ∈ cutL 47 l,47 ∉ q ∧ ∀ c ∈ q,c ∈ l:=by
 intro n
 induction n with
 | zero=>
   intro l h q hq;have:l=[]:=List.eq_nil_of_length_eq_zero (by omega)
   subst this;rw [cutL_none 47 [] (by simp)] at hq;obtain rfl:=List.mem_singleton.1 hq;exact ⟨by simp,by simp⟩
 | succ n ih=>
   intro l h q hq;by_cases h47:47 ∈ l
   ·obtain ⟨a,r,rfl,ha⟩: ∃ a r,l=a++47::r∧47 ∉ a:=by
     obtain ⟨a,r,e,ha⟩:=List.eq_append_cons_of_mem h47
     exact ⟨a,r,e,ha⟩
    rw [cutL_some 47 a r ha] at hq;rcases List.mem_cons.1 hq with rfl | hq
    ·exact ⟨ha,fun c hc=>by simp [hc]⟩
    ·obtain ⟨h1,h2⟩:=ih r (by simp at h;omega) q hq
     exact ⟨h1,fun c hc=>by simp [h2 c hc]⟩
   ·rw [cutL_none 47 l h47] at hq
    obtain rfl:=List.mem_singleton.1 hq;exact ⟨h47,fun c hc=>hc⟩

theorem stepP_mem {out:List (List UInt8)} {p:List UInt8} {mo:Bool} {q:List UInt8} (h:q ∈ stepP out p mo):q ∈ out∨q=[]∨(q=pct 5 p∧dotsV p=0):=by
 rcases dotsV_cases p with h0 | h0 | h0
 ·rw [stepP0 h0] at h
  rcases List.mem_append.1 h with h | h
  ·exact .inl h
  ·exact .inr (.inr ⟨List.mem_singleton.1 h,h0⟩)
 ·cases mo with
  | true=>rw [stepP1 h0] at h;exact .inl h
  | false=>
    rw [stepP1' h0] at h;rcases List.mem_append.1 h with h | h
    ·exact .inl h
    ·exact .inr (.inl (List.mem_singleton.1 h))
 ·cases mo with
  | true=>rw [stepP2 h0] at h;exact .inl (List.dropLast_subset _ h)
  | false=>
    rw [stepP2' h0] at h;rcases List.mem_append.1 h with h | h
    ·exact .inl (List.dropLast_subset _ h)
    ·exact .inr (.inl (List.mem_singleton.1 h))

theorem pathL_mem: ∀ (L out:List (List UInt8)) (q:List UInt8),q ∈ pathL out L→q ∈ out∨q=[] ∨ ∃ r ∈ L,q=pct 5 r∧dotsV r=0
 | [],out,q,h=>by rw [pathL] at h;exact .inl h
 | [p],out,q,h=>by
   rw [pathL_last] at h;rcases stepP_mem h with h | h | h
   ·exact .inl h
   ·exact .inr (.inl h)
   ·exact .inr (.inr ⟨p,by simp,h⟩)
 | p::q'::r,out,q,h=>by
   rw [pathL_more out p (q'::r) (by simp)] at h;rcases pathL_mem (q'::r) _ q h with h | h | ⟨x,hx,h⟩
   ·rcases stepP_mem h with h | h | h
    ·exact .inl h
    ·exact .inr (.inl h)
    ·exact .inr (.inr ⟨p,by simp,h⟩)
   ·exact .inr (.inl h)
   ·exact .inr (.inr ⟨x,by simp at hx ⊢;exact .inr hx,h⟩)

theorem part2_nil:Part2 []:=⟨dots0.1,dots0.2,by simp⟩

theorem pathV_parts (sp:Bool) (l:List UInt8) (q:List UInt8) (h:q ∈ pathV sp [] l):Part2 q∧(92 ∉ l→92 ∉ q):=by
 unfold pathV at h;split at h
 ·simp at h
 ·rcases pathL_mem _ _ q h with h | rfl | ⟨r,hr,rfl,hd⟩
  ·simp at h
  ·exact ⟨part2_nil,fun _=>by simp⟩
  ·obtain ⟨h1,h2⟩:=cutL_mem _ _ (Nat.le_refl _) r hr
   refine ⟨⟨by rw [dots_pct5];exact hd,pct_idem 5 r,pct_no 5 47 (by decide) hexD_no.1 r h1⟩,fun h92=>pct_no 5 92 (by decide) hexD_no.2.1 r fun e=>h92 ?_⟩
   have:=h2 92 e;unfold over1 at this;split at this
   ·simp at this
   ·split at this
    ·simp [this]
    ·exact this

end Go.Proofs.YtolioccofbhliaaGreatDoor

namespace Go.Proofs.YtolioccofbhliaaGreatDoor
structure Str0 (u : Adr) : Prop where
 sch:schOk u.scheme=true∧low u.scheme=u.scheme
 usr:pct 6 u.user=u.user
 pas:pct 6 u.pass=u.pass
 qry:querV (specV u.scheme) u.query=u.query
 frg:pct 2 u.fragment=u.fragment
 hst:u.hasHost=true→parseV u.host (specV u.scheme)=some u.host∧HostCol u.host∧(u.host=[]→u.user=[]∧u.pass=[]∧u.port = -1)
 noh:u.hasHost=false→u.user=[]∧u.pass=[]∧u.host=[]∧u.port = -1
 prt:u.port = -1∨(0≤u.port∧u.port≤65535∧u.port≠ownV u.scheme)

structure Str (u : Adr) : Prop where
 pre:Str0 u
 par:u.opq=false → ∀ p ∈ u.path,Part2 p∧(specV u.scheme=true→92 ∉ p)
 pne:u.hasHost=false→u.opq=false→u.path≠[]
 opq:u.opq=true→u.hasHost=false∧specV u.scheme=false ∧ ∃ x,u.path=[x]∧pct 1 x=x∧x.head? ≠ some 47∧63 ∉ x∧35 ∉ x

theorem querV_idem (sp:Bool) (q:List UInt8):querV sp (querV sp q)=querV sp q:=by
 unfold querV;exact pct_idem _ _

theorem Str.query {u:Adr} (h:Str u) (q:List UInt8):Str (withQuery u q):=by
 rcases withQuery_cases u q with e | e
 ·rw [e];exact h
 ·rw [e]
  exact ⟨⟨h.pre.sch,h.pre.usr,h.pre.pas,querV_idem _ _,h.pre.frg,h.pre.hst,h.pre.noh,h.pre.prt⟩,h.par,h.pne,h.opq⟩

theorem Str.path {u:Adr} (h:Str0 u) (ho:u.opq=false) (r:List UInt8) (h92:specV u.scheme=true→92 ∉ (aheadV [63] r).1) (hne:u.hasHost=false→(aheadV [63] r).1≠[]):Str (withPath u [] r):=by
 unfold withPath;refine Str.query (u:={ u with path:=pathV (specV u.scheme) [] (aheadV [63] r).1 }) ⟨⟨h.sch,h.usr,h.pas,h.qry,h.frg,h.hst,h.noh,h.prt⟩,?_,?_,?_⟩ _
 ·intro _ p hp
  obtain ⟨h1,h2⟩:=pathV_parts (specV u.scheme) (aheadV [63] r).1 p hp
  exact ⟨h1,fun hs=>h2 (h92 hs)⟩
 ·intro hh _
  show pathV (specV u.scheme) [] (aheadV [63] r).1≠[];unfold pathV;rw [if_neg (fun e=>hne hh e.1)];exact pathL_ne _ _ (cutL_ne _ _)
 ·intro e
  have e':u.opq=true:=e;rw [ho] at e';cases e'

theorem auth_str {sc s a b h:List UInt8} {p:Int} (e:authV sc s = .ok (a,b,h,p)):pct 6 a=a∧pct 6 b=b∧parseV h (specV sc)=some h∧HostCol h∧(h=[]→a=[]∧b=[]∧p = -1)∧(p = -1∨(0≤p∧p≤65535∧p≠ownV sc)):=by
 unfold authV at e;split at e
 ·cases e
 ·rename_i po hpo
  split at e
  ·cases e
  ·rename_i hh hhe
   split at e
   ·cases e
   ·rename_i hcond
    injection e with e
    injection e with e1 e
    injection e with e2 e
    injection e with e3 e4
    subst e1 e2 e3 e4;refine ⟨pct_idem 6 _,pct_idem 6 _,parse_back _ _ _ hhe,host_col hhe,fun h0=> ?_,port_own hpo⟩;have hc: ¬ (pct 6 (part 58 (atV s).1).1≠[]∨pct 6 (part 58 (atV s).1).2.1≠[]∨((atV s).2.drop (colV (atV s).2)).drop 1≠[]):=fun e=>hcond ⟨h0,e⟩
    have h1:pct 6 (part 58 (atV s).1).1=[]:=Classical.byContradiction fun e=>hc (.inl e)
    have h2:pct 6 (part 58 (atV s).1).2.1=[]:=Classical.byContradiction fun e=>hc (.inr (.inl e))
    have h3:((atV s).2.drop (colV (atV s).2)).drop 1=[]:=Classical.byContradiction fun e=>hc (.inr (.inr e))
    rw [h3] at hpo;refine ⟨h1,h2,?_⟩
    unfold portV at hpo;rw [if_pos rfl] at hpo;injection hpo with hpo
    exact hpo.symm

theorem withAuth_str {u v:Adr} {r:List UInt8} (h:Str0 u) (ho:u.opq=false) (h92:specV u.scheme=true→92 ∉ (aheadV [63] (aheadV [47,63] r).2).1) (e:withAuth u r = .ok v):Str v:=by
 unfold withAuth at e;split at e
 ·cases e
 ·rename_i a b hh p hau
  injection e with e
  rw [← e];obtain ⟨h1,h2,h3,h4,h5,h6⟩:=auth_str hau
  exact Str.path (u:={ u with user:=a,pass:=b,host:=hh,hasHost:=true,port:=p }) ⟨h.sch,h1,h2,h.qry,h.frg,fun _=>⟨h3,h4,h5⟩,fun e=>(by cases e),h6⟩ ho _ h92 (fun e=>by cases e)

theorem take_no63 (l:List UInt8):63 ∉ (aheadV [63] l).1:=fun e=>by
 have h:=List.all_eq_true.1 (List.all_takeWhile (p:=fun c:UInt8=> !([63]:List UInt8).contains c) (l:=l)) 63 e;simp at h

theorem slash_no92 (l:List UInt8):92 ∉ (aheadV [63] l).1.map slC:=fun e=>by
 obtain ⟨d,-,hd⟩:=List.mem_map.1 e
 have:=u8_all (P:=fun c=>slC c != 92) (by decide +kernel) d
 rw [hd] at this
 cases this

theorem ahead_rest (l:List UInt8):(aheadV [63] l).2=[] ∨ ∃ q,(aheadV [63] l).2=63::q:=by
 cases h:(aheadV [63] l).2 with
 | nil=>exact .inl rfl
 | cons x r=>
   refine .inr ⟨r,?_⟩
   have h3:l.dropWhile (fun c=> !([63]:List UInt8).contains c)=x::r:=h;have h4:=List.head?_dropWhile_not (fun c=> !([63]:List UInt8).contains c) l;rw [h3] at h4;have:x=63:=by simpa using h4
   rw [this]

theorem drop_q (p:UInt8→Bool) (hp:p 63=false) (M Q:List UInt8) (hQ:Q=[] ∨ ∃ q,Q=63::q):(M++Q).dropWhile p=M.dropWhile p++Q:=by
 rcases hQ with rfl | ⟨q,rfl⟩
 ·simp
 ·exact drop_stop p 63 hp q M

theorem ahead_q (M Q:List UInt8) (hM:63 ∉ M) (hQ:Q=[] ∨ ∃ q,Q=63::q):aheadV [63] (M++Q)=(M,Q):=by
 have hno: ∀ c ∈ M,c ∉ ([63]:List UInt8):=fun c hc=>by simp;exact fun e=>hM (e ▸ hc)
 rcases hQ with rfl | ⟨q,rfl⟩
 ·rw [List.append_nil];exact ahead_all _ _ hno
 ·exact ahead_at _ _ _ _ hno (by simp)

theorem spec_no92 (rest:List UInt8):92 ∉ (aheadV [63] (aheadV [47,63] (skip47 (slashV rest))).2).1:=by
 have hQ:=ahead_rest rest;have hM:63 ∉ (aheadV [63] rest).1.map slC:=fun e=>by
  obtain ⟨d,hd,h2⟩:=List.mem_map.1 e
  have h3:=u8_all (P:=fun c=>slC c != 63||c==63) (by decide +kernel) d
  rw [h2] at h3;have:d=63:=by simpa using h3
  subst this;exact take_no63 rest hd
 have h92:=slash_no92 rest;unfold slashV;generalize (aheadV [63] rest).1.map slC=M at hM h92 ⊢;generalize (aheadV [63] rest).2=Q at hQ ⊢;unfold skip47;rw [drop_q _ (by decide) M Q hQ];have e2:(aheadV [47,63] (M.dropWhile (fun x=>x==47)++Q)).2=(M.dropWhile (fun x=>x==47)).dropWhile (fun c=> !([47,63]:List UInt8).contains c)++Q:=by
  unfold aheadV;exact drop_q _ (by decide) _ Q hQ
 rw [e2];have hsub: ∀ c ∈ (M.dropWhile (fun x=>x==47)).dropWhile (fun c=> !([47,63]:List UInt8).contains c),c ∈ M:=fun c hc=>(List.dropWhile_suffix _).subset ((List.dropWhile_suffix _).subset hc)
 rw [ahead_q _ Q (fun e=>hM (hsub 63 e)) hQ];exact fun e=>h92 (hsub 92 e)

theorem start_str {u v:Adr} {r:List UInt8} (h:Str0 u) (ho:u.opq=false) (hh:u.hasHost=false) (h35:35 ∉ r) (e:startV u r = .ok v):Str v:=by
 unfold startV at e;split at e
 ·exact withAuth_str h ho (fun _=>spec_no92 r) e
 ·rename_i hsp
  split at e
  ·exact withAuth_str h ho (fun e=>absurd e hsp) e
  ·split at e
   ·rename_i h47
    injection e with e
    rw [← e];refine Str.path h ho r (fun e=>absurd e hsp) (fun _=> ?_)
    cases r with
    | nil=>cases h47
    | cons c r=>
      have hc:c=47:=by
       unfold Lib.hasPrefix at h47;simp at h47;exact h47.symm
      subst hc;unfold aheadV;rw [List.takeWhile_cons,if_pos (by decide)]
      simp
   ·rename_i h47
    injection e with e
    rw [← e];refine Str.query (u:={ u with opq:=true,path:=[pct 1 (aheadV [63] r).1] }) ⟨⟨h.sch,h.usr,h.pas,h.qry,h.frg,h.hst,h.noh,h.prt⟩,?_,?_,?_⟩ _
    ·intro e;cases e
    ·intro _ e;cases e
    ·intro _
     refine ⟨hh,by simpa using hsp,_,rfl,pct_idem 1 _,?_,pct_no 1 63 (by decide) hexD_no.2.2.1 _ (take_no63 r),pct_no 1 35 (by decide) hexD_no.2.2.2 _ (fun e=>h35 ((List.takeWhile_prefix _).subset e))⟩
     cases r with
     | nil=>simp [aheadV,pct]
     | cons c r=>
       have hc:c≠47:=fun e=>by
        subst e;apply h47;unfold Lib.hasPrefix;simp
       unfold aheadV;rw [List.takeWhile_cons];split
       ·show (pct1 1 c++_).head? ≠ some 47
        unfold pct1;split
        ·simp [esc]
        ·simpa using hc
       ·simp [pct]

theorem part_no (c:UInt8): ∀ l:List UInt8,c ∉ (part c l).1
 | []=>by simp [part]
 | x::l=>by
   rw [part];split
   ·simp
   ·rename_i hx
    intro e;rcases List.mem_cons.1 e with e | e
    ·exact hx e.symm
    ·exact part_no c l e

theorem low_sch {l:List UInt8} (h:schOk l=true):schOk (low l)=true∧low (low l)=low l:=by
 refine ⟨?_,low_low l⟩
 unfold schOk at h ⊢;rw [Bool.and_eq_true] at h ⊢;refine ⟨?_,?_⟩
 ·cases l with
  | nil=>exact h.1
  | cons c l=>
    have:=u8_all (P:=fun c=> !letterI c.toNat||letterI (lowC c).toNat) (by decide +kernel) c
    show letterI (lowC c).toNat=true;have hc:letterI c.toNat=true:=h.1;rw [hc] at this;simpa using this
 ·rw [List.all_eq_true]
  intro d hd;obtain ⟨c,hc,rfl⟩:=List.mem_map.1 (show d ∈ l.map lowC from hd)
  have h1:=List.all_eq_true.1 h.2 c hc;have:=u8_all (P:=fun c=> !schC c||schC (lowC c)) (by decide +kernel) c
  rw [h1] at this;simpa using this

theorem part_sub (c:UInt8): ∀ (l:List UInt8),∀ x ∈ (part c l).2.1,x ∈ l
 | []=>by simp [part]
 | y::l=>by
   rw [part];split
   ·intro x hx;simp [show x ∈ l from hx]
   ·intro x hx
    have:=part_sub c l x hx;simp [this]

theorem read_str {s:List UInt8} {u:Adr} (e:readV s none = .ok u):Str u:=by
 unfold readV at e;split at e
 ·cases e
 ·simp only at e
  split at e
  ·cases e
  ·rename_i hne
   have hrest:35 ∉ (beginU s).2∧schOk (beginU s).1.scheme=true∧low (beginU s).1.scheme=(beginU s).1.scheme:=by
    have h0:=part_no 35 (cleanV s);unfold beginU at hne ⊢;simp only at hne ⊢;revert hne;unfold schemeV;split
    ·rename_i hc
     rw [Bool.and_eq_true] at hc;intro _;exact ⟨fun e=>h0 (part_sub 58 _ _ e),low_sch hc.2⟩
    ·intro hne
     exact absurd rfl hne
   refine start_str ⟨hrest.2,rfl,rfl,?_,pct_idem 2 _,fun e=>(by cases e),fun _=>⟨rfl,rfl,rfl,rfl⟩,.inl rfl⟩ rfl rfl hrest.1 e
   show querV _ []=[];unfold querV;split<;>rfl

end Go.Proofs.YtolioccofbhliaaGreatDoor

namespace Go.Proofs.YtolioccofbhliaaGreatDoor
theorem deci_facts: ∀ (f n:Nat) (acc:List UInt8),n<10 ^ f→0<f→n≤65535 → ∃ X,deciN f n acc=X++acc∧X≠[]∧X.all digP=true∧numI X=(n:Int)
 | 0,n,acc,_,h,_=>absurd h (by omega)
 | f+1,n,acc,hn,_,hb=>by
   rw [deciN];by_cases h:n<10
   ·rw [if_pos h]
    have hv:=decC_val n h;refine ⟨[decC n],rfl,by simp,by simpa using hv.2,?_⟩;have:=numI_snoc [] (decC n);rw [List.nil_append] at this;rw [this,hv.1]
    unfold ten;rw [if_neg]
    ·simp [numI]
    ·show ¬ (9223372036854775807 - (n:Int)) / 10<numI []
     have:numI []=0:=rfl;rw [this];omega
   ·rw [if_neg h]
    have hf:0<f:=by
     rcases Nat.eq_zero_or_pos f with rfl | hf
     ·simp at hn;omega
     ·exact hf
    obtain ⟨X,h1,h2,h3,h4⟩:=deci_facts f (n / 10) (UInt8.ofNat (48+n % 10)::acc) (by rw [Nat.pow_succ] at hn;omega) hf (by omega)
    have hv:=decC_val (n % 10) (by omega)
    refine ⟨X++[decC (n % 10)],?_,by simp,?_,?_⟩
    ·rw [h1];simp [decC]
    ·rw [List.all_append,h3];simpa using hv.2
    ·rw [numI_snoc,h4,hv.1]
     unfold ten;rw [if_neg (by omega)];omega

theorem portT_dec (p:Int) (h0:0≤p) (h1:p≤65535):portT p≠[]∧(portT p).all digP=true∧numI (portT p)=p:=by
 obtain ⟨n,rfl⟩:=Int.eq_ofNat_of_zero_le h0
 obtain ⟨X,e,h2,h3,h4⟩:=deci_facts 6 n [] (by omega) (by omega) (by omega)
 have:portT (n:Int)=X:=by unfold portT;rw [Int.toNat_natCast,e,List.append_nil]
 rw [this];exact ⟨h2,h3,h4⟩

theorem portV_back (own p:Int) (h0:0≤p) (h1:p≤65535) (hne:p≠own):portV own (portT p)=some p:=by
 obtain ⟨a,b,c⟩:=portT_dec p h0 h1
 have he:(portT p).isEmpty=false:=by
  cases h:portT p with
  | nil=>exact absurd h a
  | cons x r=>rfl
 have e1:intOk (portT p)=true:=by unfold intOk;rw [b,he];rfl
 have e2:intV (portT p)=p:=by unfold intV;rw [b,he];exact c
 unfold portV;rw [if_neg a,e1,e2,decide_eq_true h1];simp [hne]

theorem dig_ne {c:UInt8} (h:digP c=true):c≠58∧c≠91∧c≠64∧c≠47∧c≠63∧c≠92∧c≠35:=by
 refine ⟨?_,?_,?_,?_,?_,?_,?_⟩<;>(rintro rfl;exact absurd h (by decide))

theorem p6_ne {l:List UInt8} (h:pct 6 l=l) {c:UInt8} (hc:c ∈ l):c≠58∧c≠64∧c≠47∧c≠63∧c≠92∧c≠35:=by
 have:=pct_mem 6 l c (by rw [h];exact hc)
 refine ⟨?_,?_,?_,?_,?_,?_⟩<;>(rintro rfl;exact absurd this (by decide))

theorem ho_ne {c:UInt8} (h:hoC c=true):c≠64∧c≠47∧c≠63∧c≠92∧c≠35:=by
 refine ⟨?_,?_,?_,?_,?_⟩<;>(rintro rfl;exact absurd h (by decide))

def ptT (p:Int):List UInt8:=if p = -1 then [] else 58::portT p

def crT (a b:List UInt8):List UInt8:=a++(if b=[] then [] else 58::b)

def auT (u:Adr):List UInt8:=crT u.user u.pass++(if u.user=[]∧u.pass=[] then [] else [64])++u.host++ptT u.port

theorem authT_eq (u:Adr) (h:u.hasHost=true):authT u=47::47::auT u:=by
 unfold authT auT crT ptT;rw [if_pos h];simp

theorem pt_dig {p:Int} (hp:p = -1∨(0≤p∧p≤65535)): ∀ c ∈ ptT p,c=58∨digP c=true:=by
 unfold ptT;rcases hp with rfl | ⟨h0,h1⟩
 ·rw [if_pos rfl];simp
 ·split
  ·simp
  ·intro c hc
   rcases List.mem_cons.1 hc with rfl | hc
   ·exact .inl rfl
   ·exact .inr (List.all_eq_true.1 (portT_dec p h0 h1).2.1 c hc)

theorem prt2 {u:Adr} (h:Str0 u):u.port = -1∨(0≤u.port∧u.port≤65535):=h.prt.imp id fun x=>⟨x.1,x.2.1⟩

theorem cr_ne {a b:List UInt8} (ha:pct 6 a=a) (hb:pct 6 b=b): ∀ c ∈ crT a b,c≠64∧c≠47∧c≠63∧c≠92∧c≠35:=by
 unfold crT;intro c hc;rcases List.mem_append.1 hc with hc | hc
 ·exact (p6_ne ha hc).2
 ·split at hc
  ·simp at hc
  ·rcases List.mem_cons.1 hc with rfl | hc
   ·decide
   ·exact (p6_ne hb hc).2

theorem au_ne {u:Adr} (h:Str0 u) (hg: ∀ c ∈ u.host,hoC c=true): ∀ c ∈ auT u,c≠47∧c≠63∧c≠92∧c≠35:=by
 unfold auT;intro c hc;rcases List.mem_append.1 hc with hc | hc
 ·rcases List.mem_append.1 hc with hc | hc
  ·rcases List.mem_append.1 hc with hc | hc
   ·exact (cr_ne h.usr h.pas c hc).2
   ·split at hc
    ·simp at hc
    ·obtain rfl:=List.mem_singleton.1 hc;decide
  ·exact (ho_ne (hg c hc)).2
 ·rcases pt_dig (prt2 h) c hc with rfl | hd
  ·decide
  ·exact ⟨(dig_ne hd).2.2.2.1,(dig_ne hd).2.2.2.2.1,(dig_ne hd).2.2.2.2.2.1,(dig_ne hd).2.2.2.2.2.2⟩

theorem auth_back {u:Adr} (h:Str0 u) (hh:u.hasHost=true) (hg: ∀ c ∈ u.host,hoC c=true):authV u.scheme (auT u) = .ok (u.user,u.pass,u.host,u.port):=by
 obtain ⟨hpv,hcol,hemp⟩:=h.hst hh
 have hpt:=pt_dig (prt2 h);have h64:64 ∉ u.host++ptT u.port:=fun e=>by
  rcases List.mem_append.1 e with e | e
  ·exact (ho_ne (hg 64 e)).1 rfl
  ·rcases hpt 64 e with e | e
   ·cases e
   ·exact (dig_ne e).2.2.1 rfl
 have hat:atV (auT u)=(crT u.user u.pass,u.host++ptT u.port):=by
  unfold auT;by_cases hc:u.user=[]∧u.pass=[]
  ·rw [if_pos hc,hc.1,hc.2]
   show atV ((([]++[])++[])++u.host++ptT u.port)=_;simp only [List.nil_append,crT]
   exact at_none _ h64
  ·rw [if_neg hc,List.append_assoc,List.append_assoc,List.singleton_append]
   exact at_some _ _ h64
 have hcl:colV (u.host++ptT u.port)=u.host.length:=by
  refine col_host _ _ hcol ?_;unfold ptT;rcases prt2 h with e | ⟨h0,h1⟩
  ·exact .inl (by rw [if_pos e])
  ·split
   ·exact .inl rfl
   ·exact .inr ⟨_,rfl,fun c hc=>⟨(dig_ne (List.all_eq_true.1 (portT_dec _ h0 h1).2.1 c hc)).1,(dig_ne (List.all_eq_true.1 (portT_dec _ h0 h1).2.1 c hc)).2.1⟩⟩
 have hpo:portV (ownV u.scheme) ((ptT u.port).drop 1)=some u.port:=by
  unfold ptT;rcases h.prt with e | ⟨h0,h1,h2⟩
  ·rw [if_pos e,e];rfl
  ·rw [if_neg (by omega)]
   exact portV_back _ _ h0 h1 h2
 have hpa:part 58 (crT u.user u.pass)=(u.user,u.pass,decide (u.pass≠[])):=by
  have hu:58 ∉ u.user:=fun e=>(p6_ne h.usr e).1 rfl
  unfold crT;by_cases hp:u.pass=[]
  ·rw [if_pos hp,List.append_nil,part_none 58 _ hu,hp];rfl
  ·rw [if_neg hp,part_some 58 _ _ hu];simp [hp]
 have hdr:((atV (auT u)).2.drop (colV (atV (auT u)).2)).drop 1=(ptT u.port).drop 1:=by rw [hat];show ((u.host++ptT u.port).drop (colV (u.host++ptT u.port))).drop 1=_;rw [hcl,List.drop_left]
 have htk:(atV (auT u)).2.take (colV (atV (auT u)).2)=u.host:=by rw [hat];show (u.host++ptT u.port).take (colV (u.host++ptT u.port))=_;rw [hcl,List.take_left]
 have hfst:(atV (auT u)).1=crT u.user u.pass:=by rw [hat]
 have:=auth_ok (sc:=u.scheme) (s:=auT u) (h:=u.host) (p:=u.port) (by rw [hdr];exact hpo) (by rw [htk];exact hpv) (by
  rw [hdr,hfst,hpa]
  rintro ⟨e0,e1⟩
  obtain ⟨g1,g2,g3⟩:=hemp e0
  simp only at e1;rw [h.usr,h.pas] at e1
  rcases e1 with e1 | e1 | e1
  ·exact e1 g1
  ·exact e1 g2
  ·apply e1;unfold ptT;rw [if_pos g3];rfl)
 rw [hfst,hpa] at this
 simp only at this;rw [h.usr,h.pas] at this
 exact this

end Go.Proofs.YtolioccofbhliaaGreatDoor

namespace Go.Proofs.YtolioccofbhliaaGreatDoor
def qT (u:Adr):List UInt8:=if u.hasQuery then 63::u.query else []

def fT (u:Adr):List UInt8:=if u.hasFragment then 35::u.fragment else []

def rT (u:Adr):List UInt8:=authT u++(pathT u++qT u)

def paT (u:Adr):List UInt8:=u.path.flatMap (fun p=>47::p)

def un0 (u:Adr):Adr:=⟨u.scheme,[],[],[],false,-1,false,[],[],u.fragment,false,u.hasFragment⟩

theorem qT_form (u:Adr):qT u=[] ∨ ∃ q,qT u=63::q:=by
 unfold qT;split
 ·exact .inr ⟨_,rfl⟩
 ·exact .inl rfl

theorem wq_back {u v:Adr} (h:Str0 u) (hn:u.hasQuery=false→u.query=[]) (hs:v.scheme=u.scheme) (hv:v.query=[]∧v.hasQuery=false):withQuery v (qT u)={ v with query:=u.query,hasQuery:=u.hasQuery }:=by
 unfold withQuery qT
 cases hq:u.hasQuery with
 | true=>
   rw [if_neg (by simp)];simp only [if_true,List.drop_succ_cons,List.drop_zero]
   rw [hs,h.qry]
 | false=>
   simp only [Bool.false_eq_true,if_false]
   rw [hn hq];obtain ⟨a,b⟩:=hv
   cases v
   simp_all

theorem pa_no {u:Adr} (h:Str u) (ho:u.opq=false):63 ∉ paT u∧(specV u.scheme=true→92 ∉ paT u)∧35 ∉ paT u:=by
 have h5: ∀ (x:UInt8) (p:List UInt8),Part2 p→inSetI x.toNat 5=true→x ∉ p:=fun x p hp hx e=>by
  have:=pct_mem 5 p x (by rw [hp.2.1];exact e)
  rw [hx] at this;cases this
 refine ⟨fun e=> ?_,fun hs e=> ?_,fun e=> ?_⟩
 ·obtain ⟨p,hp,e⟩:=List.mem_flatMap.1 e
  rcases List.mem_cons.1 e with e | e
  ·cases e
  ·exact h5 63 p (h.par ho p hp).1 (by decide) e
 ·obtain ⟨p,hp,e⟩:=List.mem_flatMap.1 e
  rcases List.mem_cons.1 e with e | e
  ·cases e
  ·exact (h.par ho p hp).2 hs e
 ·obtain ⟨p,hp,e⟩:=List.mem_flatMap.1 e
  rcases List.mem_cons.1 e with e | e
  ·cases e
  ·exact h5 35 p (h.par ho p hp).1 (by decide) e

theorem wp_back {u v:Adr} (h:Str u) (hg:Good3 u) (ho:u.opq=false) (hs:v.scheme=u.scheme) (hv:v.query=[]∧v.hasQuery=false):withPath v [] (paT u++qT u)={ v with path:=u.path,query:=u.query,hasQuery:=u.hasQuery }:=by
 unfold withPath;rw [ahead_q _ _ (pa_no h ho).1 (qT_form u)];simp only;have hp:pathV (specV v.scheme) [] (paT u)=u.path:=by rw [hs];exact path_back _ _ (fun p hp=>(h.par ho p hp).1) (fun hsp=>(hg.special hsp).2.1)
 rw [hp];exact wq_back (v:={ v with path:=u.path }) h.pre hg.pre.noQ hs hv

theorem ahead_au {u:Adr} (h:Str0 u) (hg: ∀ c ∈ u.host,hoC c=true):aheadV [47,63] (auT u++(paT u++qT u))=(auT u,paT u++qT u):=by
 have hno: ∀ c ∈ auT u,c ∉ ([47,63]:List UInt8):=fun c hc=>by
  have:=au_ne h hg c hc;simp [this.1,this.2.1]
 unfold paT
 cases hp:u.path with
 | nil=>
   rw [List.flatMap_nil,List.nil_append]
   rcases qT_form u with e | ⟨q,e⟩
   ·rw [e,List.append_nil];exact ahead_all _ _ hno
   ·rw [e];exact ahead_at _ _ _ _ hno (by simp)
 | cons p L=>
   rw [List.flatMap_cons,List.cons_append,List.cons_append]
   exact ahead_at _ _ _ _ hno (by simp)

theorem wa_back {u:Adr} (h:Str u) (hg:Good3 u) (hh:u.hasHost=true) (ho:u.opq=false):withAuth (un0 u) (auT u++(paT u++qT u)) = .ok u:=by
 unfold withAuth;rw [ahead_au h.pre hg.pre.host];simp only;rw [show (un0 u).scheme=u.scheme from rfl,auth_back h.pre hh hg.pre.host];simp only;refine (congrArg Except.ok (wp_back (v:=(⟨u.scheme,u.user,u.pass,u.host,true,u.port,false,[],[],u.fragment,false,u.hasFragment⟩:Adr)) h hg ho rfl ⟨rfl,rfl⟩)).trans ?_
 cases u
 simp_all

theorem start_back {u:Adr} (h:Str u) (hg:Good3 u):startV (un0 u) (rT u) = .ok u:=by
 have hus:(un0 u).scheme=u.scheme:=rfl
 cases hh:u.hasHost with
 | true=>
   have ho:u.opq=false:=by
    cases e:u.opq with
    | false=>rfl
    | true=>have:=(h.opq e).1;rw [hh] at this;cases this
   have hpt:pathT u=paT u:=by unfold pathT paT;simp [ho,hh]
   have hR:rT u=47::47::(auT u++(paT u++qT u)):=by unfold rT;rw [authT_eq u hh,hpt];simp
   have hau:=au_ne h.pre hg.pre.host;unfold startV;rw [hus,hR]
   cases hsp:specV u.scheme with
   | true=>
     rw [if_pos rfl];have hM:slashV (47::47::(auT u++(paT u++qT u)))=47::47::(auT u++(paT u++qT u)):=by
      have e:47::47::(auT u++(paT u++qT u))=(47::47::(auT u++paT u))++qT u:=by simp
      have h63:63 ∉ (47::47::(auT u++paT u):List UInt8):=fun e=>by
       simp at e;rcases e with e | e
       ·exact (hau 63 e).2.1 rfl
       ·exact (pa_no h ho).1 e
      have h92:92 ∉ (47::47::(auT u++paT u):List UInt8):=fun e=>by
       simp at e;rcases e with e | e
       ·exact (hau 92 e).2.2.1 rfl
       ·exact (pa_no h ho).2.1 hsp e
      rw [e];unfold slashV;rw [ahead_q _ _ h63 (qT_form u)];simp only;rw [slC_none _ h92]
     have hsk:skip47 (47::47::(auT u++(paT u++qT u)))=auT u++(paT u++qT u):=by
      unfold skip47;rw [List.dropWhile_cons,if_pos (by decide),List.dropWhile_cons,if_pos (by decide)]
      cases ha:auT u with
      | nil=>
        have:u.host=[]:=by
         unfold auT at ha;exact (List.append_eq_nil_iff.1 (List.append_eq_nil_iff.1 ha).1).2
        exact absurd this (hg.special hsp).1
      | cons c t=>
        rw [List.cons_append,List.dropWhile_cons,if_neg]
        have:=(hau c (by rw [ha];simp)).1;simpa using this
     rw [hM,hsk]
     exact wa_back h hg hh ho
   | false=>
     rw [if_neg (by simp),if_pos (by unfold Lib.hasPrefix;simp)];exact wa_back h hg hh ho
 | false=>
   obtain ⟨n1,n2,n3,n4⟩:=h.pre.noh hh
   have hsp:specV u.scheme=false:=by
    cases e:specV u.scheme with
    | false=>rfl
    | true=>exact absurd n3 (hg.special e).1
   have hau:authT u=[]:=by unfold authT;rw [hh];rfl
   have hR:rT u=pathT u++qT u:=by unfold rT;rw [hau];rfl
   unfold startV;rw [hus,hsp,if_neg (by simp),hR]
   cases ho:u.opq with
   | true=>
     obtain ⟨-,-,x,hx,hx1,hx2,hx3,hx4⟩:=h.opq ho
     have hpt:pathT u=x:=by unfold pathT;rw [ho,hx];simp
     have hno: ∀ l:List UInt8,l.head? ≠ some 47→Lib.hasPrefix l [47]=false∧Lib.hasPrefix l [47,47]=false:=by
      intro l hl
      cases l with
      | nil=>exact ⟨rfl,rfl⟩
      | cons c l=>
        have:c≠47:=by simpa using hl
        constructor
        ·show ([47]:List UInt8).isPrefixOf (c::l)=false
         simp [List.isPrefixOf,this.symm]
        ·show ([47,47]:List UInt8).isPrefixOf (c::l)=false
         simp [List.isPrefixOf,this.symm]
     have hhd:(x++qT u).head? ≠ some 47:=by
      cases x with
      | nil=>
        rcases qT_form u with e | ⟨q,e⟩<;>rw [List.nil_append,e]<;>simp
      | cons c x=>simpa using hx2
     rw [hpt,(hno _ hhd).2,if_neg (by simp),(hno _ hhd).1,if_neg (by simp),ahead_q _ _ hx3 (qT_form u)]
     simp only;rw [hx1];refine (congrArg Except.ok (wq_back (v:=(⟨u.scheme,[],[],[],false,-1,true,[x],[],u.fragment,false,u.hasFragment⟩:Adr)) h.pre hg.pre.noQ rfl ⟨rfl,rfl⟩)).trans ?_
     cases u
     simp_all
   | false=>
     have hne:=h.pne hh ho;have hfin:({ un0 u with path:=u.path,query:=u.query,hasQuery:=u.hasQuery }:Adr)=u:=by
      cases u
      simp_all [un0]
     by_cases hd:1<u.path.length∧u.path.head? = some []
     ·have hpt:pathT u=47::46::paT u:=by unfold pathT paT;simp [ho,hh,hd]
      rw [hpt];show (if Lib.hasPrefix (47::46::(paT u++qT u)) [47,47]=true then _ else if Lib.hasPrefix (47::46::(paT u++qT u)) [47]=true then Except.ok (withPath (un0 u) [] (47::46::(paT u++qT u))) else _)=_;rw [if_neg (by unfold Lib.hasPrefix;simp),if_pos (by unfold Lib.hasPrefix;simp)]
      congr 1
      unfold withPath;have e:47::46::(paT u++qT u)=(47::46::paT u)++qT u:=by simp
      rw [e,ahead_q _ _ (fun e=>by simp at e;exact (pa_no h ho).1 e) (qT_form u)]
      simp only;have hp:pathV (specV (un0 u).scheme) [] (47::46::paT u)=u.path:=by
       unfold pathV;rw [if_neg (by simp)];have ho1:over1 (47::46::paT u)=[46]++paT u:=by simp [over1]
       rw [ho1];unfold paT;rw [cut_back [46] u.path (by decide) (fun p hp=>(h.par ho p hp).1),pathL_more [] [46] u.path hne,stepP1 d_1.1,pathL_back _ _ (fun p hp=>(h.par ho p hp).1),List.nil_append]
      rw [hp];exact (wq_back (v:=(⟨u.scheme,[],[],[],false,-1,false,u.path,[],u.fragment,false,u.hasFragment⟩:Adr)) h.pre hg.pre.noQ rfl ⟨rfl,rfl⟩).trans hfin
     ·have hpt:pathT u=paT u:=by unfold pathT paT;rw [ho,hh];simp [hd]
      rw [hpt];have hform: ∃ t,paT u++qT u=47::t∧t.head? ≠ some 47:=by
       unfold paT
       cases hp:u.path with
       | nil=>exact absurd hp hne
       | cons p L=>
         refine ⟨p++L.flatMap (fun p=>47::p)++qT u,by simp,?_⟩
         cases p with
         | nil=>
           have hL:L=[]:=by
            cases L with
            | nil=>rfl
            | cons q L=>exact absurd ⟨by rw [hp];simp,by rw [hp];rfl⟩ hd
           subst hL;rcases qT_form u with e | ⟨q,e⟩<;>rw [e]<;>simp
         | cons c p=>
           have:=(h.par ho (c::p) (by rw [hp];simp)).1.2.2;simp at this ⊢;exact fun e=>this.1 e.symm
      obtain ⟨t,ht,ht2⟩:=hform
      have h2:Lib.hasPrefix (paT u++qT u) [47,47]=false:=by
       rw [ht]
       cases t with
       | nil=>rfl
       | cons c t=>
         have:c≠47:=by simpa using ht2
         show ([47,47]:List UInt8).isPrefixOf (47::c::t)=false
         simp [List.isPrefixOf,this.symm]
      have h1:Lib.hasPrefix (paT u++qT u) [47]=true:=by rw [ht];unfold Lib.hasPrefix;simp
      rw [h2,if_neg (by simp),h1,if_pos rfl,wp_back (v:=un0 u) h hg ho rfl ⟨rfl,rfl⟩,hfin]

end Go.Proofs.YtolioccofbhliaaGreatDoor

namespace Go.Proofs.YtolioccofbhliaaGreatDoor
theorem clean_mid (c z:UInt8) (t a:List UInt8) (e:c::t=a++[z]) (hc:33≤c.toNat) (hz:33≤z.toNat) (hall: ∀ x ∈ c::t,32≤x.toNat):cleanV (c::t)=c::t:=by
 have w: ∀ x:UInt8,33≤x.toNat→wsC x=false:=fun x hx=>by unfold wsC;rw [decide_eq_false];omega
 have h1:(c::t).dropWhile wsC=c::t:=by rw [List.dropWhile_cons,w c hc];rfl
 have h2:(c::t).reverse.dropWhile wsC=(c::t).reverse:=by
  rw [e,List.reverse_append,List.reverse_singleton,List.singleton_append,List.dropWhile_cons,w z hz];rfl
 unfold cleanV trimV;rw [h1,h2,List.reverse_reverse,List.filter_eq_self]
 intro x hx;have:=hall x hx;unfold eyeC;simp only [Bool.not_eq_true',Bool.or_eq_false_iff,beq_eq_false_iff_ne]
 refine ⟨?_,?_,?_⟩<;>(intro e;subst e;revert this;decide)

theorem text_split (u:Adr):textV u=(u.scheme++58::rT u)++fT u:=rfl

theorem bare_no35 {u:Adr} (h:Str u) (hg:Good3 u):35 ∉ u.scheme++58::rT u:=by
 have hq:35 ∉ qT u:=by
  unfold qT;split
  ·intro e
   rcases List.mem_cons.1 e with e | e
   ·cases e
   ·have hm:35 ∈ querV (specV u.scheme) u.query:=by rw [h.pre.qry];exact e
    unfold querV at hm;have:=pct_mem _ _ _ hm
    cases hs:specV u.scheme with
    | true=>rw [hs] at this;exact absurd this (by decide)
    | false=>rw [hs] at this;exact absurd this (by decide)
  ·simp
 have hpa:35 ∉ pathT u:=by
  cases ho:u.opq with
  | true=>
    obtain ⟨-,-,x,hx,-,-,-,h35⟩:=h.opq ho
    have:pathT u=x:=by unfold pathT;rw [ho,hx];simp
    rw [this];exact h35
  | false=>
    have:pathT u=(if u.hasHost=false∧1<u.path.length∧u.path.head? = some [] then [47,46] else [])++paT u:=by unfold pathT paT;rw [ho];rfl
    rw [this];intro e;rcases List.mem_append.1 e with e | e
    ·split at e
     ·revert e;decide
     ·simp at e
    ·exact (pa_no h ho).2.2 e
 have hau:35 ∉ authT u:=by
  cases hh:u.hasHost with
  | true=>
    rw [authT_eq u hh];intro e;simp at e;exact (au_ne h.pre hg.pre.host 35 e).2.2.2 rfl
  | false=>unfold authT;rw [hh];simp
 intro e;rcases List.mem_append.1 e with e | e
 ·have:=h.pre.sch.1
  unfold schOk at this;rw [Bool.and_eq_true] at this;exact absurd (List.all_eq_true.1 this.2 35 e) (by decide)
 ·rcases List.mem_cons.1 e with e | e
  ·cases e
  ·unfold rT at e
   rcases List.mem_append.1 e with e | e
   ·exact hau e
   ·rcases List.mem_append.1 e with e | e
    ·exact hpa e
    ·exact hq e

theorem sch_no58 {u:Adr} (h:Str0 u):58 ∉ u.scheme ∧ ∃ c t,u.scheme=c::t:=by
 have:=h.sch.1;unfold schOk at this;rw [Bool.and_eq_true] at this;refine ⟨fun e=>absurd (List.all_eq_true.1 this.2 58 e) (by decide),?_⟩
 cases hs:u.scheme with
 | nil=>rw [hs] at this;cases this.1
 | cons c t=>exact ⟨c,t,rfl⟩

theorem clean_text {u:Adr} (h:Str u) (hg:Good3 u) (hl:u.opq=true→u.hasQuery=false→u.hasFragment=false→u.path.flatten.getLast? ≠ some 32):cleanV (textV u)=textV u:=by
 have see:=text_see hg;have s33: ∀ c:UInt8,seeC c=true→33≤c.toNat:=fun c hc=>by unfold seeC at hc;rw [Bool.and_eq_true,decide_eq_true_iff] at hc;exact hc.1
 have s32: ∀ c:UInt8,seeB c=true→32≤c.toNat:=fun c hc=>by unfold seeB at hc;rw [Bool.and_eq_true,decide_eq_true_iff] at hc;exact hc.1
 cases ho:u.opq with
 | false=>exact w_clean_id _ fun c hc=>s33 c ((see c hc).2 ho)
 | true=>
   obtain ⟨-,c,t,hs⟩:=sch_no58 h.pre
   obtain ⟨hh,-,x,hx,-,-,-,-⟩:=h.opq ho
   have hau:authT u=[]:=by unfold authT;rw [hh];rfl
   have hpt:pathT u=x:=by unfold pathT;rw [ho,hx];simp
   have hT:textV u=u.scheme++58::(x++(qT u++fT u)):=by rw [text_split];unfold rT;rw [hau,hpt];simp
   have hlast: ∃ a z,58::(x++(qT u++fT u))=a++[z]∧33≤z.toNat:=by
    have key: ∀ (l m:List UInt8),m≠[]→AllS m → ∃ a z,l++m=a++[z]∧33≤z.toNat:=fun l m hm hs=>by
     refine ⟨l++m.dropLast,m.getLast hm,?_,s33 _ (hs _ (List.getLast_mem hm))⟩;rw [List.append_assoc,List.dropLast_concat_getLast]
    by_cases hf:fT u=[]
    ·by_cases hq:qT u=[]
     ·have hq':u.hasQuery=false:=by
       cases e:u.hasQuery with
       | false=>rfl
       | true=>unfold qT at hq;rw [e] at hq;cases hq
      have hf':u.hasFragment=false:=by
       cases e:u.hasFragment with
       | false=>rfl
       | true=>unfold fT at hf;rw [e] at hf;cases hf
      have h32:=hl ho hq' hf';rw [hx] at h32;simp only [List.flatten_cons,List.flatten_nil,List.append_nil] at h32
      rw [hq,hf,List.append_nil,List.append_nil]
      by_cases hx0:x=[]
      ·rw [hx0];exact ⟨[],58,rfl,by decide⟩
      ·refine ⟨58::x.dropLast,x.getLast hx0,by rw [List.cons_append,List.dropLast_concat_getLast],?_⟩
       have h1:32≤(x.getLast hx0).toNat:=s32 _ (see _ (by rw [hT];simp [List.getLast_mem hx0])).1;have h2:(x.getLast hx0)≠32:=fun e=>h32 (by rw [List.getLast?_eq_some_getLast hx0,e])
       have h3:(x.getLast hx0).toNat≠32:=fun e=>h2 (UInt8.toNat_inj.1 e)
       omega
     ·rw [hf,List.append_nil,← List.cons_append]
      refine key _ _ hq ?_;unfold qT at hq ⊢;split
      ·exact allS_cons (by decide) hg.pre.query
      ·exact allS_nil
    ·rw [← List.append_assoc,← List.cons_append]
     refine key _ _ hf ?_;unfold fT at hf ⊢;split
     ·exact allS_cons (by decide) hg.pre.fragment
     ·exact allS_nil
   obtain ⟨a,z,hz,hz33⟩:=hlast
   have hT2:textV u=c::(t++58::(x++(qT u++fT u))):=by rw [hT,hs];rfl
   rw [hT2];refine clean_mid c z _ (u.scheme++a) ?_ ?_ hz33 ?_
   ·rw [← hT2,hT,hz,List.append_assoc]
   ·exact s33 c (hg.pre.scheme c (by rw [hs];simp))
   ·intro y hy
    rw [← hT2] at hy;exact s32 y (see y hy).1

theorem begin_text {u:Adr} (h:Str u) (hg:Good3 u) (hl:u.opq=true→u.hasQuery=false→u.hasFragment=false→u.path.flatten.getLast? ≠ some 32):beginU (textV u)=(un0 u,rT u):=by
 have hp35:part 35 (textV u)=(u.scheme++58::rT u,u.fragment,u.hasFragment):=by
  rw [text_split];unfold fT
  cases hf:u.hasFragment with
  | true=>simp only [if_true];exact part_some 35 _ _ (bare_no35 h hg)
  | false=>
    simp only [Bool.false_eq_true,if_false]
    rw [List.append_nil,part_none 35 _ (bare_no35 h hg),hg.pre.noF hf]
 have hsch:schemeV (u.scheme++58::rT u)=some (u.scheme,rT u):=by
  unfold schemeV;rw [part_some 58 _ _ (sch_no58 h.pre).1];simp only;rw [h.pre.sch.1,h.pre.sch.2]
  rfl
 unfold beginU;simp only [clean_text h hg hl,hp35,hsch,Option.getD_some];unfold un0;rw [h.pre.frg]

theorem text_read {u:Adr} (h:Str u) (hg:Good3 u) (hl:u.opq=true→u.hasQuery=false→u.hasFragment=false→u.path.flatten.getLast? ≠ some 32) (hlen:(textV u).length≤4096):readV (textV u) none = .ok u:=by
 have hb:=begin_text h hg hl;obtain ⟨-,c,t,hs⟩:=sch_no58 h.pre
 unfold readV;rw [if_neg (by omega),hb];simp only;rw [if_neg (by show ¬ u.scheme=[];rw [hs];simp)];exact start_back h hg

end Go.Proofs.YtolioccofbhliaaGreatDoor
