/-
  Walks and plain facts that this claim leans on, put together out of 27 texts: Hb, Vc, Vd, Vl, Vm, Hd, He, Hf, Hi, Ua, Ud, Pi, Hj, Xb, Xc, Xi, Yk, Ym, Era, Erf, Erh, Eri, Ewa, Xm, Xr, Xx, Xq.
-/
import Derived.Test.YtolioccofbhliaaGreatDoorProg
import Derived.Test.YtolioccofbhliaaGreatDoorQp1
import Derived.Test.YtolioccofbhliaaGreatDoorQp2
import Derived.Test.YtolioccofbhliaaGreatDoorQp3
import Derived.Test.YtolioccofbhliaaGreatDoorQp4
import Derived.Test.YtolioccofbhliaaGreatDoorQp5
import Derived.Test.YtolioccofbhliaaGreatDoorQp6
import Derived.Test.YtolioccofbhliaaGreatDoorQp7
import Derived.Test.YtolioccofbhliaaGreatDoorQp8
import Derived.Test.YtolioccofbhliaaGreatDoorQp9
import Derived.Test.YtolioccofbhliaaGreatDoorQp10
import Derived.Test.YtolioccofbhliaaGreatDoorQp11
import Derived.Test.YtolioccofbhliaaGreatDoorQp12
import Derived.Test.YtolioccofbhliaaGreatDoorQp13
import Derived.Test.YtolioccofbhliaaGreatDoorQp14
import Derived.Test.YtolioccofbhliaaGreatDoorQp15
import Derived.Test.YtolioccofbhliaaGreatDoorQp16
import Derived.Test.YtolioccofbhliaaGreatDoorQp17
import Derived.Test.YtolioccofbhliaaGreatDoorQp18
import Derived.Test.YtolioccofbhliaaGreatDoorQp19
import Derived.Test.YtolioccofbhliaaGreatDoorQp20
import Derived.Test.YtolioccofbhliaaGreatDoorQp21
import Derived.Test.YtolioccofbhliaaGreatDoorQp22
import Derived.Test.YtolioccofbhliaaGreatDoorQp23
import Derived.Test.YtolioccofbhliaaGreatDoorQp24
import Derived.Test.YtolioccofbhliaaGreatDoorQp25
import Derived.Test.YtolioccofbhliaaGreatDoorQp26
import Derived.Test.YtolioccofbhliaaGreatDoorQp27
import Derived.Test.YtolioccofbhliaaGreatDoorQp28
import Derived.Lib.IndexMore
import Derived.Lib.Join
import Derived.Lib.LastIndexByte
import Derived.WalkKit
import Derived.Lib.Strings
import Derived.Lib.UnsafeStr
import Derived.Laws.IdiomStrings
import Derived.Laws.AppendOwn
import Derived.Laws.BitsAllLaws
import Derived.Lib.Bytealg
import Derived.Lib.BufferMore
import Derived.Shelf.Strings.Builder1
import Derived.Shelf.Strings.Builder2
import Derived.Shelf.Strings.OnBuilder
import Derived.Shelf.Strings.Trim
import Derived.Shelf.Small.Utf8
import Derived.Shelf.Small.Bits
import Derived.Shelf.Small.Strs
import Derived.Shelf.Small.Wraps
import Derived.Shelf.Strings.BuilderF
import Derived.Shelf.Strings.BuilderK
import Derived.Shelf.Strings.Builder2Cap
import Derived.Shelf.Strconv.Itoa0
import Derived.Shelf.Strconv.Itoa1
import Derived.Shelf.LaysM
import Derived.Shelf.Strconv.Itoa2
import Derived.Shelf.Strconv.Itoa3
import Derived.Shelf.Strings.Search1
import Derived.Shelf.Strings.Search2
import Derived.Shelf.Strings.Cut
import Derived.Shelf.Strings.Shaped
import Derived.Shelf.Sort.Plain
import Derived.Shelf.Strings.Prefix
import Derived.Shelf.Strings.Runes
import Derived.Shelf.Strings.IndexAny
import Derived.Shelf.Strings.AsciiSet
import Derived.Shelf.Strings.IndexAnyAll
import Derived.Shelf.Unicode.DecodeSlow
import Derived.Shelf.Unicode.DecodeAny
import Derived.Shelf.Unicode.DecodeLast
import Derived.Shelf.Slices.CompactS
import Derived.Shelf.Slices.In.SortNone
import Derived.Ground.SlgnProg
import Derived.Shelf.SlicesE.Compact
import Derived.Ground.SlgfProg
import Derived.Shelf.SlicesE.IndexFunc
import Derived.Shelf.SlicesE.DeleteFunc
import Derived.WalkSpells
import Derived.WalkLawsBesides
import Derived.Lib.AppendIntMem
import Derived.Lib.SmallJoins
import Derived.WalkSmall
import Derived.WalkMore
import Derived.Deep.LoopGhost
import Derived.OwnWalk
import Derived.Laws.CopyOwn
import Derived.Laws.ResultCell
import Derived.Deep.MidRow
import Derived.Lib.FrozenHead2
import Derived.Lib.OthersKept
import Derived.Lib.Builder
import Derived.Deep.RegionWith
import Derived.Lib.IndexAny
import Derived.Lib.Replace
import Derived.Lib.TrimByte
import Derived.Lib.ItoaNum
import Derived.Lib.SlTrimSet
import Derived.Laws.OwnMore
import Derived.Below
import Derived.Deep.QuietTactic
import Derived.BigQuiet
import Derived.LoopN
import Derived.RegionTactic
import Derived.Scope
import Derived.ScopeJumps
import Derived.Laws.RangeAny
import Derived.Lib.DecodeN
import Derived.Laws.BytesString
import Derived.Deep.WholeRow
import Derived.BigRegion
import Derived.Deep.RegionLaw
import Derived.Lib.AppendStr
import Derived.Deep.RegionHeld
import Derived.Lib.BufferRead
import Derived.Lib.RuneBytes
import Derived.Laws.AppendOwnNone
import Derived.Deep.Cut
import Derived.Shelf.Strings.SlTrimAscii
import Derived.Laws.Runes
import Derived.Deep.CutRange
import Derived.Laws.Rows
import Derived.Laws.MakeOwn
import Derived.Deep.RegionHeldLaw
set_option linter.unusedSimpArgs false
set_option linter.unusedVariables false

namespace Go.Proofs.YtolioccofbhliaaGreatDoor
theorem lastLab_some (a l:List UInt8) (h: ∀ c ∈ l,c≠46):lastLab (a++46::l)=l:=by
 unfold lastLab;have e:(a++46::l).reverse=l.reverse++46::a.reverse:=by simp
 rw [e,List.takeWhile_append_of_pos (by intro c hc;have:=h c (by simpa using hc);simpa using this)]
 simp

end Go.Proofs.YtolioccofbhliaaGreatDoor

namespace Go.Proofs.YtolioccofbhliaaGreatDoor
open Go.RowKit

theorem numV_ten {l:List UInt8} {c:UInt8} (h:marked (c::l)=false) (hc:c≠48):numV (c::l)=valV 10 (c::l):=by simp [numV,h,hc]

end Go.Proofs.YtolioccofbhliaaGreatDoor

namespace Go.Proofs.YtolioccofbhliaaGreatDoor
open Go.RowKit

theorem fourN_more {r high n:Nat} {l:List UInt8} (h:numV (Lib.cut l [46]).1=some n) (hm:(Lib.cut l [46]).2.2=true) (hn: ¬ 255<n):fourN (r+1) high l=fourN r (high*256+n) (Lib.cut l [46]).2.1:=by rw [fourN,h];simp [hm,hn]

theorem fourN_last {r high n:Nat} {l:List UInt8} (h:numV (Lib.cut l [46]).1=some n) (hm:(Lib.cut l [46]).2.2=false) (hn:n<2 ^ (8*(r+1))):fourN (r+1) high l=some (high*2 ^ (8*(r+1))+n):=by rw [fourN,h];simp [hm,hn]

end Go.Proofs.YtolioccofbhliaaGreatDoor

namespace Go.Proofs.YtolioccofbhliaaGreatDoor
open Go.RowKit

theorem zeros_le (l:List Nat):zeros l≤l.length:=by
 induction l with
 | nil=>simp [zeros]
 | cons a l ih=>rw [zeros];split<;>simp<;>omega

end Go.Proofs.YtolioccofbhliaaGreatDoor

namespace Go.Proofs.YtolioccofbhliaaGreatDoor
open Go.RowKit

theorem lrunN_le: ∀ (l:List Nat) (i fr tu:Nat),fr≤tu→tu≤i+l.length→(lrunN 0 i fr tu l).1≤(lrunN 0 i fr tu l).2∧(lrunN 0 i fr tu l).2≤i+l.length
 | [],i,fr,tu,h,h2=>⟨h,h2⟩
 | n::l,i,fr,tu,h,h2=>by
   rw [lrunN];have hz:=zeros_le (n::l);simp only [List.length_cons] at hz h2 ⊢;split
   ·have:=lrunN_le l (i+1) i (i+zeros (n::l)) (by omega) (by omega)
    omega
   ·have:=lrunN_le l (i+1) fr tu h (by omega)
    omega

theorem lrun_le (x:List Nat):(lrun x).1≤(lrun x).2∧(lrun x).2≤x.length:=by
 have:=lrunN_le x 0 0 0 (by omega) (by omega)
 rw [Nat.zero_add] at this;exact this

theorem text6_same {x:List Nat} (h:(lrun x).1=(lrun x).2):text6 x=joined x:=by rw [text6,if_pos h]

theorem text6_run {x:List Nat} (h:(lrun x).1≠(lrun x).2):text6 x=joined (x.take (lrun x).1)++([58,58]++joined (x.drop (lrun x).2)):=by rw [text6,if_neg h]

end Go.Proofs.YtolioccofbhliaaGreatDoor

namespace Go.Proofs.YtolioccofbhliaaGreatDoor
theorem dig16_digC: ∀ n<16,dig16 (digC n)=n:=by decide

theorem valN_digs (base:Nat) (h2:2≤base) (h16:base≤16): ∀ (f u:Nat) (T:List UInt8),u<base ^ f→u≤4294967296→f≠0→valN base 0 (digsN base f u T)=valN base u T
 | 0,_,_,_,_,h=>absurd rfl h
 | f+1,u,T,hu,hc,_=>by
   by_cases h:u<base
   ·rw [digsN_last _ _ _ _ h,valN,dig16_digC u (by omega),if_pos h]
    congr 1;omega
   ·have hf:f≠0:=by
     rintro rfl;simp at hu;omega
    have hd:u / base<base ^ f:=by
     rw [Nat.div_lt_iff_lt_mul (by omega)];rw [Nat.pow_succ] at hu;exact hu
    have hle:u / base≤u:=Nat.div_le_self _ _;have hm:u % base<base:=Nat.mod_lt _ (by omega)
    rw [digsN_more _ _ _ _ h,valN_digs base h2 h16 f _ _ hd (by omega) hf,valN,dig16_digC _ (by omega),if_pos hm];have e:u / base*base+u % base=u:=by rw [Nat.mul_comm];exact Nat.div_add_mod u base
    rw [e]
    congr 1;omega

theorem valV_digs (base n:Nat) (h2:2≤base) (h16:base≤16) (hn:n≤4294967296):valV base (digs base n)=some n:=by
 have hp:n<base ^ 40:=by
  have h1:2 ^ 40≤base ^ 40:=Nat.pow_le_pow_left h2 40;have h3:(4294967296:Nat)<2 ^ 40:=by decide
  omega
 have:=valN_digs base h2 h16 40 n [] hp hn (by decide)
 rw [valN] at this;exact this

def numC (c:UInt8):Bool:=decide (dig16 c<16) && !(decide (65≤c.toNat)&&decide (c.toNat≤70))

theorem numC_digC: ∀ n<16,numC (digC n)=true:=by decide

theorem digsN_head (base:Nat) (h2:2≤base) (h16:base≤16): ∀ (f u:Nat) (T:List UInt8),0<u→u<base ^ f → ∃ c r,digsN base f u T=c::r∧c≠48
 | 0,u,_,h0,hu=>by simp at hu;omega
 | f+1,u,T,h0,hu=>by
   rw [digsN];split
   ·rename_i h
    refine ⟨_,_,rfl,?_⟩
    have key: ∀ n<16,0<n→digC n≠48:=by decide
    exact key u (by omega) h0
   ·rename_i h
    refine digsN_head base h2 h16 f _ _ (Nat.div_pos (by omega) (by omega)) ?_;rw [Nat.div_lt_iff_lt_mul (by omega)];rw [Nat.pow_succ] at hu;exact hu

theorem digs_zero (base:Nat) (h:1≤base):digs base 0=[48]:=by
 unfold digs;rw [digsN,if_pos (by omega)];rfl

theorem digs_head (base n:Nat) (h2:2≤base) (h16:base≤16) (h0:0<n) (hn:n≤4294967296): ∃ c r,digs base n=c::r∧c≠48:=by
 have hp:n<base ^ 40:=by
  have h1:2 ^ 40≤base ^ 40:=Nat.pow_le_pow_left h2 40;have h3:(4294967296:Nat)<2 ^ 40:=by decide
  omega
 exact digsN_head base h2 h16 40 n [] h0 hp

theorem not_marked_head (c:UInt8) (r:List UInt8) (h:c≠48):marked (c::r)=false:=by
 simp [marked,Lib.hasPrefix,List.isPrefixOf]
 exact ⟨fun e=>absurd e.symm h,fun e=>absurd e.symm h⟩

theorem num_dec (n:Nat) (hn:n≤4294967296):numV (digs 10 n)=some n:=by
 rcases Nat.eq_zero_or_pos n with rfl | h0
 ·rw [digs_zero 10 (by omega)];decide
 ·obtain ⟨c,r,e,hc⟩:=digs_head 10 n (by omega) (by omega) h0 hn
  have hv:=valV_digs 10 n (by omega) (by omega) hn
  rw [e] at hv ⊢;rw [numV_ten (not_marked_head c r hc) hc];exact hv

theorem noDot_none (l:List UInt8) (c:UInt8) (h:c≠46):noDot (l++[c])=l++[c]:=by
 unfold noDot Lib.trimSuffix;rw [if_neg];unfold Lib.hasSuffix;rw [List.isSuffixOf_iff_suffix];rintro ⟨t,ht⟩
 have:=List.append_inj_right' ht rfl;simp at this;exact h this.symm

end Go.Proofs.YtolioccofbhliaaGreatDoor

namespace Go.Proofs.YtolioccofbhliaaGreatDoor
def hostC (c:UInt8):Bool:=numC c||(c==46||c==120)

theorem hostC_facts (c:UInt8) (h:hostC c=true):nameB c=true∧lowC c=c∧c≠37∧c≠45∧c≠91:=by
 have key: ∀ n<256,hostC (UInt8.ofNat n)=true→nameB (UInt8.ofNat n)=true∧lowC (UInt8.ofNat n)=UInt8.ofNat n∧UInt8.ofNat n≠37∧UInt8.ofNat n≠45∧UInt8.ofNat n≠91:=by decide +kernel
 have e:UInt8.ofNat c.toNat=c:=by simp
 have:=key c.toNat c.toNat_lt;rw [e] at this;exact this h

theorem index_infix: ∀ (l sub:List UInt8),Lib.index l sub ≠ -1 → ∃ a b,l=a++(sub++b)
 | [],sub,h=>by
   unfold Lib.index at h;split at h
   ·rename_i hs
    have:sub=[]:=by simpa using hs
    exact ⟨[],[],by rw [this];rfl⟩
   ·exact absurd rfl h
 | c::l,sub,h=>by
   unfold Lib.index at h;split at h
   ·rename_i hp
    rw [List.isPrefixOf_iff_prefix] at hp;obtain ⟨b,hb⟩:=hp
    exact ⟨[],b,by rw [← hb];rfl⟩
   ·split at h
    ·exact absurd rfl h
    ·rename_i hn
     obtain ⟨a,b,e⟩:=index_infix l sub (by simpa using hn)
     exact ⟨c::a,b,by rw [e];rfl⟩

theorem coded_minus (l:List UInt8) (h:45 ∉ l):coded l=false:=by
 unfold coded;rw [Bool.or_eq_false_iff];constructor
 ·rw [← Bool.not_eq_true]
  intro hp;rw [Lib.hasPrefix,List.isPrefixOf_iff_prefix] at hp
  obtain ⟨b,hb⟩:=hp
  exact h (by rw [← hb];simp)
 ·rw [Lib.contains,decide_eq_false_iff_not]
  intro hi;obtain ⟨a,b,e⟩:=index_infix l [46,120,110,45,45] (by omega)
  exact h (by rw [e];simp)

theorem hostC_all {l:List UInt8} (h:l.all hostC=true): ∀ c ∈ l,hostC c=true:=List.all_eq_true.1 h

theorem host_num (l:List UInt8) (n:Nat) (h0:l≠[]) (hall:l.all hostC=true) (hn:numberedV l=true) (hf:fourV l=some n):parseV l true=some (text4 n):=by
 have ha:=hostC_all hall;have h37:37 ∉ l:=fun e=>(hostC_facts _ (ha _ e)).2.2.1 rfl
 have h45:45 ∉ l:=fun e=>(hostC_facts _ (ha _ e)).2.2.2.1 rfl
 have hp:Lib.hasPrefix l [91]=false:=by
  rw [← Bool.not_eq_true];intro hp;rw [Lib.hasPrefix,List.isPrefixOf_iff_prefix] at hp
  obtain ⟨b,hb⟩:=hp
  exact (hostC_facts 91 (ha 91 (by rw [← hb];simp))).2.2.2.2 rfl
 rw [parseV_name hp,unpct_plain l h37,low_plain l (fun c hc=>(hostC_facts c (ha c hc)).2.1)];rw [nameV_num h0 (List.all_eq_true.2 fun c hc=>(hostC_facts c (ha c hc)).1) (coded_minus l h45) hn,hf];rfl

theorem noDot_tail (pre t:List UInt8) (ht:t≠[]) (h46:46 ∉ t):noDot (pre++t)=pre++t:=by
 have e:=List.dropLast_concat_getLast ht;have hl:t.getLast ht≠46:=fun h=>h46 (by rw [← h];exact List.getLast_mem ht)
 rw [← e,← List.append_assoc];exact noDot_none _ _ hl

theorem numbered_lab (l t:List UInt8) (hl:lastLab (noDot l)=t) (h:(marked t=true∧(valV 16 (t.drop 2)).isSome=true)∨(marked t=false∧t≠[]∧(valV 10 t).isSome=true)):numberedV l=true:=by
 unfold numberedV;rw [hl];rcases h with ⟨h1,h2⟩ | ⟨h1,h2,h3⟩
 ·rw [if_pos h1];exact h2
 ·rw [if_neg (by rw [h1];decide)];simp [h2,h3]

theorem four_one (r h n:Nat) (t:List UInt8) (hn:numV t=some n) (h46:46 ∉ t) (hlt:n<2 ^ (8*(r+1))):fourN (r+1) h t=some (h*2 ^ (8*(r+1))+n):=
 fourN_last (by rw [cut_none t 46 h46];exact hn) (by rw [cut_none t 46 h46]) hlt

theorem four_cons (r h n:Nat) (a t:List UInt8) (hn:numV a=some n) (h46:46 ∉ a) (hlt:n≤255):fourN (r+1) h (a++46::t)=fourN r (h*256+n) t:=by
 rw [fourN_more (n:=n) (by rw [cut_some a t 46 h46];exact hn) (by rw [cut_some a t 46 h46]) (by omega),cut_some a t 46 h46]

theorem digs_no (base n:Nat) (c:UInt8) (hb:1≤base) (hc: ∀ k<base,digC k≠c):c ∉ digs base n:=by
 intro hm;have:=digsN_all (fun x=>x != c) base hb (fun k hk=>by simpa using hc k hk) 40 n [] rfl;have h2:=List.all_eq_true.1 this c hm;simp at h2

theorem digs_hostC (base n:Nat) (hb:1≤base) (h16:base≤16):(digs base n).all hostC=true:=by
 refine digsN_all hostC base hb (fun k hk=> ?_) 40 n [] rfl;rw [hostC,numC_digC k (by omega)];rfl

theorem no46 (base n:Nat) (hb:1≤base) (h16:base≤16):46 ∉ digs base n:=by
 refine digs_no base n 46 hb (fun k hk=> ?_);have key: ∀ k<16,digC k≠46:=by decide
 exact key k (by omega)

theorem lab_dec (n:Nat) (hn:n≤4294967296):marked (digs 10 n)=false∧digs 10 n≠[]∧(valV 10 (digs 10 n)).isSome=true:=by
 refine ⟨?_,digs_ne _ _,by rw [valV_digs 10 n (by omega) (by omega) hn];rfl⟩
 rcases Nat.eq_zero_or_pos n with rfl | h0
 ·rw [digs_zero 10 (by omega)];decide
 ·obtain ⟨c,r,e,hc⟩:=digs_head 10 n (by omega) (by omega) h0 hn
  rw [e];exact not_marked_head c r hc

end Go.Proofs.YtolioccofbhliaaGreatDoor

namespace Go.Proofs.YtolioccofbhliaaGreatDoor
theorem num_dec8 (n:Nat) (h:n<256):numV (dec8 n)=some n:=by rw [dec8_digs n h];exact num_dec n (by omega)

theorem dec8_no46 (n:Nat) (h:n<256):46 ∉ dec8 n:=by rw [dec8_digs n h];exact no46 10 n (by omega) (by omega)

theorem dec8_hostC (n:Nat) (h:n<256):(dec8 n).all hostC=true:=by rw [dec8_digs n h];exact digs_hostC 10 n (by omega) (by omega)

theorem text4_eq (n:Nat):text4 n=dec8 (n / 16777216 % 256)++46::(dec8 (n / 65536 % 256)++46::(dec8 (n / 256 % 256)++46::dec8 (n % 256))):=rfl

theorem text4_tail (n:Nat):text4 n=(dec8 (n / 16777216 % 256)++46::(dec8 (n / 65536 % 256)++46::dec8 (n / 256 % 256)))++46::dec8 (n % 256):=by
 rw [text4_eq];simp

theorem text4_hostC (n:Nat):(text4 n).all hostC=true:=by
 rw [text4_eq];simp only [List.all_append,List.all_cons,dec8_hostC _ (Nat.mod_lt _ (by decide:0<256))]
 decide

theorem text4_ne (n:Nat):text4 n≠[]:=by rw [text4_eq];simp

theorem text4_noDot (n:Nat):noDot (text4 n)=text4 n:=by
 have e:text4 n=(dec8 (n / 16777216 % 256)++46::(dec8 (n / 65536 % 256)++46::(dec8 (n / 256 % 256)++[46])))++dec8 (n % 256):=by rw [text4_eq];simp
 rw [e];exact noDot_tail _ _ (dec8_ne _ (Nat.mod_lt _ (by decide))) (dec8_no46 _ (Nat.mod_lt _ (by decide)))

theorem text4_four (n:Nat) (hn:n<4294967296):fourN 4 0 (text4 n)=some n:=by
 have m: ∀ k,k % 256<256:=fun k=>Nat.mod_lt _ (by decide)
 rw [text4_eq,four_cons 3 0 _ _ _ (num_dec8 _ (m _)) (dec8_no46 _ (m _)) (by have:=m (n / 16777216);omega),four_cons 2 _ _ _ _ (num_dec8 _ (m _)) (dec8_no46 _ (m _)) (by have:=m (n / 65536);omega),four_cons 1 _ _ _ _ (num_dec8 _ (m _)) (dec8_no46 _ (m _)) (by have:=m (n / 256);omega),
  four_one 0 _ _ _ (num_dec8 _ (m _)) (dec8_no46 _ (m _)) (by simpa using m n)]
 congr 1
 simp only [Nat.zero_add,Nat.mul_one,Nat.reduceMul,Nat.reducePow,Nat.zero_mul]
 omega

theorem text4_lab (n:Nat):lastLab (text4 n)=dec8 (n % 256):=by
 rw [text4_tail];exact lastLab_some _ _ (fun c hc e=>dec8_no46 _ (Nat.mod_lt _ (by decide)) (e ▸ hc))

theorem text4_labs (n:Nat):marked (dec8 (n % 256))=false∧dec8 (n % 256)≠[]∧(valV 10 (dec8 (n % 256))).isSome=true:=by
 rw [dec8_digs _ (Nat.mod_lt _ (by decide))];exact lab_dec _ (by have:=Nat.mod_lt n (by decide:0<256);omega)

theorem text4_fourV (n:Nat) (hn:n<4294967296):fourV (text4 n)=some n:=by unfold fourV;rw [text4_noDot];exact text4_four n hn

theorem text4_parse (n:Nat) (hn:n<4294967296):parseV (text4 n) true=some (text4 n):=by
 refine host_num _ n (text4_ne n) (text4_hostC n) ?_ (text4_fourV n hn);refine numbered_lab _ _ ?_ (.inr (text4_labs n));rw [text4_noDot];exact text4_lab n

end Go.Proofs.YtolioccofbhliaaGreatDoor

namespace Go.Proofs.YtolioccofbhliaaGreatDoor
theorem np_cons (x:UInt8) (l:List UInt8) (h:x≠58) (hl:noPair l=true):noPair (x::l)=true:=by
 cases l with
 | nil=>rfl
 | cons b l=>simp [noPair,h,hl]

theorem np_pre: ∀ (h t:List UInt8),58 ∉ h→noPair t=true→noPair (h++t)=true
 | [],_,_,ht=>ht
 | x::h,t,hx,ht=>np_cons x (h++t) (fun e=>hx (by simp [e])) (np_pre h t (fun e=>hx (by simp [e])) ht)

theorem np_colon (c:UInt8) (t:List UInt8) (hc:c≠58) (h:noPair (c::t)=true):noPair (58::c::t)=true:=by
 simp [noPair,hc,h]

theorem np_left: ∀ (a b:List UInt8),noPair (a++b)=true→noPair a=true
 | [],_,_=>rfl
 | [_],_,_=>rfl
 | x::y::a,b,h=>by
   have h':noPair (x::y::(a++b))=true:=h;simp only [noPair,Bool.and_eq_true] at h' ⊢
   exact ⟨h'.1,np_left (y::a) b h'.2⟩

theorem joined_np: ∀ (x:List Nat),x≠[]→noPair (joined x++[58])=true ∧ ∃ c r,joined x=c::r∧c≠58
 | [],h=>absurd rfl h
 | [n],_=>by
   rw [joined_one];refine ⟨np_pre _ _ (hex16_no58 n) rfl,?_⟩
   cases he:hex16 n with
   | nil=>exact absurd he (hex16_ne n)
   | cons c r=>exact ⟨c,r,rfl,fun e=>hex16_no58 n (by rw [he,e];simp)⟩
 | n::m::l,_=>by
   obtain ⟨h1,c,r,e,hc⟩:=joined_np (m::l) (by simp)
   rw [joined_cons];constructor
   ·rw [List.append_assoc]
    refine np_pre _ _ (hex16_no58 n) ?_;rw [List.append_assoc,e]
    rw [e] at h1;exact np_colon c _ hc h1
   ·cases he:hex16 n with
    | nil=>exact absurd he (hex16_ne n)
    | cons c r=>exact ⟨c,_,rfl,fun e=>hex16_no58 n (by rw [he,e];simp)⟩

theorem fold_digs: ∀ (f u:Nat) (T:List UInt8),u<16 ^ f→f≠0→fold16 0 (digsN 16 f u T)=fold16 u T
 | 0,_,_,_,h=>absurd rfl h
 | f+1,u,T,hu,_=>by
   by_cases hn:u<16
   ·rw [digsN_last _ _ _ _ hn]
    show fold16 (0*16+dig16 (digC u)) T=_;rw [dig16_digC u hn,Nat.zero_mul,Nat.zero_add]
   ·rw [digsN_more _ _ _ _ hn]
    have h1:u / 16<16 ^ f:=by rw [Nat.div_lt_iff_lt_mul (by omega)];rw [Nat.pow_succ] at hu;exact hu
    have hf:f≠0:=by rintro rfl;simp at h1;omega
    rw [fold_digs f (u / 16) _ h1 hf];show fold16 (u / 16*16+dig16 (digC (u % 16))) T=_;rw [dig16_digC _ (Nat.mod_lt _ (by omega)),show u / 16*16+u % 16=u by omega]

theorem digsN_len (base:Nat): ∀ (f n:Nat) (T:List UInt8),(digsN base f n T).length≤f+T.length
 | 0,_,T=>by simp [digsN]
 | f+1,n,T=>by
   by_cases h:n<base
   ·rw [digsN_last _ _ _ _ h];simp;omega
   ·rw [digsN_more _ _ _ _ h]
    have:=digsN_len base f (n / base) (digC (n % base)::T);simp at this;omega

def hexC (c:UInt8):Bool:=decide (dig16 c<16)&&c != 46

theorem scan_hex (whole:Option Nat) (last:Bool): ∀ (l:List UInt8) (i n:Nat),l.all hexC=true→i+l.length≤4→(i≠0∨l≠[])→scanP whole last i n l=some [fold16 n l]
 | [],i,n,_,_,h=>by
   have h0:i≠0:=h.resolve_right (by simp)
   rw [scanP,if_neg h0];rfl
 | c::l,i,n,hall,hl,_=>by
   simp only [List.all_cons,Bool.and_eq_true,hexC,decide_eq_true_eq,bne_iff_ne,ne_eq] at hall
   simp only [List.length_cons] at hl;rw [scanP,if_neg (fun h=>hall.1.2 h.1),if_pos ⟨hall.1.1,by omega⟩]
   rw [scan_hex whole last l (i+1) _ (by simpa [hexC] using hall.2) (by omega) (.inl (by omega))];rfl

theorem hex16_all (n:Nat):(hex16 n).all hexC=true:=digsN_all hexC 16 (by omega) (by decide) 4 n [] rfl

theorem piece_hex (last:Bool) (n:Nat) (h:n<65536):pieceV last (hex16 n)=some [n]:=by
 have hlen:(hex16 n).length≤4:=digsN_len 16 4 n [];unfold pieceV;rw [scan_hex _ last _ 0 0 (hex16_all n) (by omega) (.inr (hex16_ne n))];have:fold16 0 (hex16 n)=n:=by
  have:=fold_digs 4 n [] (by omega) (by omega)
  simpa [hex16,fold16] using this
 rw [this]

theorem pieces_joined (atEnd:Bool): ∀ (y:List Nat) (f:Nat) (out:List Nat),y≠[]→y.length≤f→(∀ n ∈ y,n<65536)→piecesN atEnd f out (joined y) true=some (out++y)
 | [],_,_,h,_,_=>absurd rfl h
 | [n],f+1,out,_,_,h16=>by
   have hc:Lib.cut (joined [n]) [58]=(hex16 n,[],false):=by rw [joined_one];exact cut_none _ _ (hex16_no58 n)
   rw [piecesN,hc]
   simp only [piece_hex _ n (h16 n (by simp))];rw [piecesN]
 | n::m::y,f+1,out,_,hl,h16=>by
   have hc:Lib.cut (joined (n::m::y)) [58]=(hex16 n,joined (m::y),true):=by rw [joined_cons];exact cut_some _ _ _ (hex16_no58 n)
   rw [piecesN,hc]
   simp only [piece_hex _ n (h16 n (by simp))];rw [pieces_joined atEnd (m::y) f (out++[n]) (by simp) (by simpa using hl) (fun k hk=>h16 k (by simp [hk]))];simp
 | _::_,0,_,_,hl,_=>by simp at hl

theorem joined_empty (y:List Nat):joined y=[] ↔ y=[]:=by
 constructor
 ·intro h
  cases y with
  | nil=>rfl
  | cons n y=>
    obtain ⟨_,c,r,e,_⟩:=joined_np (n::y) (by simp)
    rw [e] at h;simp at h
 ·rintro rfl;exact joined_nil

theorem pieces_of (atEnd:Bool) (y:List Nat) (hl:y.length≤8) (h16: ∀ n ∈ y,n<65536):piecesV (joined y) atEnd=some y:=by
 unfold piecesV;by_cases h:y=[]
 ·subst h
  rw [joined_nil];rfl
 ·have hj:joined y≠[]:=fun e=>h ((joined_empty y).1 e)
  rw [decide_eq_true hj,pieces_joined atEnd y 8 [] h hl h16];rfl

theorem zeros_get: ∀ (l:List Nat) (j:Nat),j<zeros l→l[j]? = some 0
 | [],j,h=>by simp [zeros] at h
 | a::l,j,h=>by
   rw [zeros] at h;split at h
   ·rename_i ha
    cases j with
    | zero=>simp [ha]
    | succ j=>simpa using zeros_get l j (by omega)
   ·omega

theorem lrunN_zero (x:List Nat): ∀ (l:List Nat) (i fr tu:Nat),l=x.drop i→(∀ j,fr≤j→j<tu→x[j]? = some 0) → ∀ j,(lrunN 0 i fr tu l).1≤j→j<(lrunN 0 i fr tu l).2→x[j]? = some 0
 | [],i,fr,tu,_,h=>h
 | n::l,i,fr,tu,hd,h=>by
   have hd':l=x.drop (i+1):=by
    rw [← List.drop_drop,← hd];rfl
   rw [lrunN];split
   ·refine lrunN_zero x l (i+1) i (i+zeros (n::l)) hd' (fun j h1 h2=> ?_)
    have:=zeros_get (n::l) (j - i) (by omega)
    rw [hd,List.getElem?_drop,show i+(j - i)=j by omega] at this
    exact this
   ·exact lrunN_zero x l (i+1) fr tu hd' h

theorem run_fill (x:List Nat) (h8:x.length=8) (hft:(lrun x).1<(lrun x).2) (ht:(lrun x).2≤8):x.take (lrun x).1++List.replicate (8 - (lrun x).1 - (8 - (lrun x).2)) 0++x.drop (lrun x).2=x:=by
 have hz:=lrunN_zero x x 0 0 0 rfl (fun j _ h=>absurd h (by omega));have hz': ∀ j,(lrun x).1≤j→j<(lrun x).2→x[j]? = some 0:=hz
 generalize (lrun x).1=fr at *
 generalize (lrun x).2=tu at *
 refine List.ext_getElem? fun j=> ?_
 by_cases h1:j<fr
 ·rw [List.append_assoc,List.getElem?_append_left (by simp;omega),List.getElem?_take_of_lt h1]
 ·by_cases h2:j<tu
  ·rw [List.getElem?_append_left (by simp;omega),List.getElem?_append_right (by simp;omega),List.getElem?_replicate,if_pos (by simp;omega),hz' j (by omega) h2]
  ·rw [List.getElem?_append_right (by simp;omega),List.getElem?_drop]
   congr 1
   simp;omega

theorem six_text6 (x:List Nat) (h8:x.length=8) (h16: ∀ n ∈ x,n<65536):sixV (text6 x)=some x:=by
 obtain ⟨hl1,hl2⟩:=lrun_le x
 rw [h8] at hl2;by_cases h:(lrun x).1=(lrun x).2
 ·rw [text6_same h]
  have hnp:noPair (joined x)=true:=np_left _ _ (joined_np x (by rintro rfl;simp at h8)).1;unfold sixV;rw [cut2_none _ hnp];have hp:=pieces_of true x (by omega) h16
  have hn:piecesV [] true=some []:=rfl;simp only [Bool.not_false,hp,hn]
  simp [h8]
 ·rw [text6_run h]
  have hnp:noPair (joined (x.take (lrun x).1)++[58])=true:=by
   by_cases h0:x.take (lrun x).1=[]
   ·rw [h0,joined_nil];rfl
   ·exact (joined_np _ h0).1
  unfold sixV;rw [cut2_some _ _ hnp];have hp1:=pieces_of false (x.take (lrun x).1) (by simp;omega) (fun n hn=>h16 n (List.mem_of_mem_take hn))
  have hp2:=pieces_of true (x.drop (lrun x).2) (by simp;omega) (fun n hn=>h16 n (List.mem_of_mem_drop hn))
  have e1:(x.take (lrun x).1).length=(lrun x).1:=by simp;omega
  have e2:(x.drop (lrun x).2).length=8 - (lrun x).2:=by simp;omega
  simp only [Bool.not_true,hp1,hp2,e1,e2]
  rw [if_pos ⟨by omega,by simp;omega⟩,run_fill x h8 (by omega) hl2]

end Go.Proofs.YtolioccofbhliaaGreatDoor

namespace Go.Proofs.YtolioccofbhliaaGreatDoor
def authT (u:Adr):List UInt8:=
 if u.hasHost then [47,47]++u.user++(if u.pass=[] then [] else 58::u.pass)++(if u.user=[]∧u.pass=[] then [] else [64])++u.host++(if u.port = -1 then [] else 58::portT u.port) else []

def pathT (u:Adr):List UInt8:=
 if u.opq then u.path.flatten
 else (if u.hasHost=false∧1<u.path.length∧u.path.head? = some [] then [47,46] else [])++u.path.flatMap (fun p=>47::p)

def bareV (u:Adr):List UInt8:=u.scheme++58::(authT u++(pathT u++(if u.hasQuery then 63::u.query else [])))

def textV (u:Adr):List UInt8:=bareV u++(if u.hasFragment then 35::u.fragment else [])

end Go.Proofs.YtolioccofbhliaaGreatDoor

namespace Go.Proofs.YtolioccofbhliaaGreatDoor
theorem slC_none (l:List UInt8) (h:92 ∉ l):l.map slC=l:=by
 induction l with
 | nil=>rfl
 | cons c l ih=>
   have hc:c≠92:=fun e=>h (by simp [e])
   have hl:92 ∉ l:=fun e=>h (by simp [e])
   rw [List.map_cons,ih hl,slC,if_neg hc]

end Go.Proofs.YtolioccofbhliaaGreatDoor

namespace Go.Proofs.YtolioccofbhliaaGreatDoor
theorem inSet_out (c set:Int) (h: ¬ inSetP c set):inSetI c set=false:=by
 rw [← Bool.not_eq_true,inSetI_iff];exact h

theorem hexD_range (n:Nat) (h:n<16):(48≤(hexD n).toNat∧(hexD n).toNat≤57)∨(65≤(hexD n).toNat∧(hexD n).toNat≤70):=by
 unfold hexD;split
 ·left
  have:(UInt8.ofNat (48+n)).toNat=(48+n) % 256:=by simp
  rw [this];omega
 ·right
  have:(UInt8.ofNat (55+n)).toNat=(55+n) % 256:=by simp
  rw [this];omega

theorem pct1_mem (set:Int) (c d:UInt8) (h:d ∈ pct1 set c):inSetI d.toNat set=false:=by
 unfold pct1 at h;split at h
 ·unfold esc at h
  have hc:=c.toNat_lt;have h1:=hexD_range (c.toNat / 16) (by omega)
  have h2:=hexD_range (c.toNat % 16) (by omega)
  simp only [List.mem_cons,List.not_mem_nil,or_false] at h
  apply inSet_out;rcases h with rfl | rfl | rfl
  ·have:((37:UInt8).toNat:Int)=37:=rfl
   rw [this];unfold inSetP;omega
  ·unfold inSetP;omega
  ·unfold inSetP;omega
 ·simp only [List.mem_cons,List.not_mem_nil,or_false] at h
  subst h;rename_i h';exact Bool.eq_false_iff.2 h'

theorem pct_mem (set:Int) (l:List UInt8) (d:UInt8) (h:d ∈ pct set l):inSetI d.toNat set=false:=by
 unfold pct at h;rw [List.mem_flatMap] at h;obtain ⟨c,_,hd⟩:=h
 exact pct1_mem set c d hd

theorem pct_none (set:Int) (l:List UInt8) (h: ∀ d ∈ l,inSetI d.toNat set=false):pct set l=l:=by
 induction l with
 | nil=>rfl
 | cons c l ih=>
   have h1:=h c (by simp)
   have h2:=ih fun d hd=>h d (by simp [hd])
   have e:pct set (c::l)=pct1 set c++pct set l:=by simp [pct]
   rw [e,h2]
   simp [pct1,h1]

theorem pct_idem (set:Int) (l:List UInt8):pct set (pct set l)=pct set l:=pct_none _ _ fun d hd=>pct_mem set l d hd

theorem pct_range (set:Int) (l:List UInt8) (d:UInt8) (hs:1≤set∧set≤6) (h:d ∈ pct set l):32≤d.toNat∧d.toNat≤126:=by
 have h1:=pct_mem set l d h;have h2: ¬ inSetP d.toNat set:=by rw [← inSetI_iff,h1];simp
 unfold inSetP at h2;omega

end Go.Proofs.YtolioccofbhliaaGreatDoor

namespace Go.Proofs.YtolioccofbhliaaGreatDoor
theorem trim_one (l:List UInt8) (c:UInt8):Lib.hasSuffix (l++[c]) [c]=true∧Lib.trimSuffix (l++[c]) [c]=l:=by
 have h:Lib.hasSuffix (l++[c]) [c]=true:=by
  unfold Lib.hasSuffix;rw [List.isSuffixOf_iff_suffix];exact ⟨l,rfl⟩
 refine ⟨h,?_⟩
 unfold Lib.trimSuffix;rw [if_pos h];simp

theorem bracket_back (x:List Nat) (h8:x.length=8) (h16: ∀ n ∈ x,n<65536) (b:Bool):parseV (91::(text6 x++[93])) b=some (91::(text6 x++[93])):=by
 have hp:Lib.hasPrefix (91::(text6 x++[93])) [91]=true:=by simp [Lib.hasPrefix,List.isPrefixOf]
 rw [parseV_six hp];obtain ⟨h1,h2⟩:=trim_one (text6 x) 93
 exact bracketV_some (l:=text6 x++[93]) h1 (by rw [h2];exact six_text6 x h8 h16)

theorem low_low (l:List UInt8):low (low l)=low l:=by
 have key: ∀ n<256,lowC (lowC (UInt8.ofNat n))=lowC (UInt8.ofNat n):=by decide +kernel
 have hc: ∀ c:UInt8,lowC (lowC c)=lowC c:=by
  intro c;have:=key c.toNat c.toNat_lt;simpa using this
 simp [low,List.map_map,Function.comp_def,hc]

theorem nameB_facts (c:UInt8) (h:nameB c=true):c≠37∧c≠91:=by
 constructor
 ·rintro rfl;revert h;decide
 ·rintro rfl;revert h;decide

theorem no_prefix (l:List UInt8) (h: ∀ c ∈ l,c≠91):Lib.hasPrefix l [91]=false:=by
 cases l with
 | nil=>rfl
 | cons c l=>
   have:=h c (by simp)
   rw [Lib.hasPrefix];simp [List.isPrefixOf];exact fun e=>this e.symm

theorem name_back (m a:List UInt8) (hl:low m=m) (h:nameV m=some a):parseV a true=some a:=by
 by_cases hb:m=[]∨allN m=false∨coded m=true
 ·rw [nameV_bad hb] at h;simp at h
 ·have h0:m≠[]:=fun e=>hb (.inl e)
  have h1:allN m=true:=by cases e:allN m with | true=>rfl | false=>exact absurd (.inr (.inl e)) hb
  have h2:coded m=false:=by cases e:coded m with | false=>rfl | true=>exact absurd (.inr (.inr e)) hb
  cases h3:numberedV m with
  | true=>
    rw [nameV_num h0 h1 h2 h3] at h
    cases hf:fourV m with
    | none=>rw [hf] at h;simp at h
    | some n=>
      rw [hf] at h;simp only [Option.map_some,Option.some.injEq] at h
      subst h;exact text4_parse n (fourV_lt hf)
  | false=>
    rw [nameV_name h0 h1 h2 h3] at h;simp only [Option.some.injEq] at h;subst h;have hall:=List.all_eq_true.1 (show m.all nameB=true from h1);rw [parseV_name (no_prefix m fun c hc=>(nameB_facts c (hall c hc)).2),unpct_plain m (fun e=>(nameB_facts _ (hall _ e)).1 rfl),hl];exact nameV_name h0 h1 h2 h3

theorem forb_hexD: ∀ n<16,forb (hexD n)=false:=by decide +kernel

theorem pct_forb (l:List UInt8) (h:l.any forb=false):(pct 1 l).any forb=false:=by
 rw [List.any_eq_false] at h ⊢;intro d hd;unfold pct at hd;rw [List.mem_flatMap] at hd;obtain ⟨c,hc,hd⟩:=hd
 unfold pct1 at hd;split at hd
 ·unfold esc at hd
  have h1:=forb_hexD (c.toNat / 16) (by have:=c.toNat_lt;omega)
  have h2:=forb_hexD (c.toNat % 16) (by omega)
  simp only [List.mem_cons,List.not_mem_nil,or_false] at hd
  rcases hd with rfl | rfl | rfl
  ·decide
  ·rw [h1];decide
  ·rw [h2];decide
 ·simp only [List.mem_cons,List.not_mem_nil,or_false] at hd
  subst hd;exact h d hc

theorem other_back (l a:List UInt8) (h:otherV l=some a):parseV a false=some a:=by
 unfold otherV at h;split at h
 ·simp at h
 ·rename_i hn
  simp only [Option.some.injEq] at h;subst h;have hn':(pct 1 l).any forb=false:=pct_forb l (by simpa using hn)
  have h91: ∀ c ∈ pct 1 l,c≠91:=by
   rintro c hc rfl;rw [List.any_eq_false] at hn';exact hn' _ hc (by decide)
  rw [parseV_other (no_prefix _ h91),otherV,if_neg (by rw [hn'];decide),pct_idem]

theorem parse_back (l a:List UInt8) (b:Bool) (h:parseV l b=some a):parseV a b=some a:=by
 cases hp:Lib.hasPrefix l [91] with
 | true=>
   rw [parseV_six hp] at h;unfold bracketV at h;split at h
   ·cases hs:sixV (Lib.trimSuffix (l.drop 1) [93]) with
    | none=>rw [hs] at h;simp at h
    | some x=>
      rw [hs] at h;simp only [Option.map_some,Option.some.injEq] at h
      subst h;exact bracket_back x (sixV_ok hs).1 (sixV_ok hs).2 b
   ·simp at h
 | false=>
   cases b with
   | true=>rw [parseV_name hp] at h;exact name_back _ a (low_low _) h
   | false=>rw [parseV_other hp] at h;exact other_back l a h

end Go.Proofs.YtolioccofbhliaaGreatDoor

namespace Go.Proofs.YtolioccofbhliaaGreatDoor
def decC (d:Nat):UInt8:=UInt8.ofNat (48+d)

theorem decC_val (d:Nat) (h:d<10):((decC d).toNat:Int) - 48=(d:Int)∧digP (decC d)=true:=by
 rcases (show d=0∨d=1∨d=2∨d=3∨d=4∨d=5∨d=6∨d=7∨d=8∨d=9 from by omega) with
  rfl | rfl | rfl | rfl | rfl | rfl | rfl | rfl | rfl | rfl<;>decide

end Go.Proofs.YtolioccofbhliaaGreatDoor

namespace Go.Proofs.YtolioccofbhliaaGreatDoor
open Go.RowKit

theorem cellsH_app (a b:List Hd):cellsH (a++b)=cellsH a++cellsH b:=by simp [cellsH]

end Go.Proofs.YtolioccofbhliaaGreatDoor

namespace Go.Proofs.YtolioccofbhliaaGreatDoor
open Go.RowKit

theorem infoHd:(Tryz.prog.info? 45).map (fun i=>(i.zero,i.size,i.bytes))=some (some (.agg #[.string ByteArray.empty,.string ByteArray.empty]),2,32):=by kernel_rfl

end Go.Proofs.YtolioccofbhliaaGreatDoor

namespace Go.Proofs.YtolioccofbhliaaGreatDoor
theorem w_drop_no (p:UInt8→Bool) (l:List UInt8) (h: ∀ c ∈ l,p c=false):l.dropWhile p=l:=by
 cases l with
 | nil=>rfl
 | cons c l=>rw [List.dropWhile_cons,h c (by simp)];rfl

theorem w_clean_id (l:List UInt8) (h: ∀ c ∈ l,33≤c.toNat):cleanV l=l:=by
 have hw: ∀ c ∈ l,wsC c=false:=fun c hc=>by unfold wsC;rw [decide_eq_false];have:=h c hc;omega
 unfold cleanV trimV;rw [w_drop_no wsC l hw,w_drop_no wsC l.reverse (fun c hc=>hw c (by simpa using hc)),List.reverse_reverse,List.filter_eq_self];intro c hc;have:=h c hc;unfold eyeC;simp only [Bool.not_eq_true',Bool.or_eq_false_iff,beq_eq_false_iff_ne]
 refine ⟨?_,?_,?_⟩<;>(intro e;subst e;revert this;decide)

theorem w_take_yes (p:UInt8→Bool) (l:List UInt8) (h: ∀ c ∈ l,p c=true):l.takeWhile p=l:=by
 induction l with
 | nil=>rfl
 | cons c l ih=>rw [List.takeWhile_cons,h c (by simp),if_pos rfl,ih fun d hd=>h d (by simp [hd])]

theorem w_drop_yes (p:UInt8→Bool) (l:List UInt8) (h: ∀ c ∈ l,p c=true):l.dropWhile p=[]:=by
 induction l with
 | nil=>rfl
 | cons c l ih=>rw [List.dropWhile_cons,h c (by simp),if_pos rfl,ih fun d hd=>h d (by simp [hd])]

theorem ahead_all (ends l:List UInt8) (h: ∀ c ∈ l,c ∉ ends):aheadV ends l=(l,[]):=by
 have key: ∀ c ∈ l,(!ends.contains c)=true:=fun c hc=>by simp [h c hc]
 unfold aheadV;rw [w_take_yes _ l key,w_drop_yes _ l key]

theorem ahead_at (ends a:List UInt8) (c:UInt8) (r:List UInt8) (h: ∀ c ∈ a,c ∉ ends) (hc:c ∈ ends):aheadV ends (a++c::r)=(a,c::r):=by
 have hk:(!ends.contains c)=false:=by simp [hc]
 have key: ∀ x ∈ a,(!ends.contains x)=true:=fun x hx=>by simp [h x hx]
 unfold aheadV
 congr 1
 ·rw [takeWhile_stop _ c hk,w_take_yes _ a key]
 ·induction a with
  | nil=>rw [List.nil_append,List.dropWhile_cons,hk];rfl
  | cons x a ih=>rw [List.cons_append,List.dropWhile_cons,key x (by simp),if_pos rfl];exact ih (fun d hd=>h d (by simp [hd])) (fun d hd=>key d (by simp [hd]))

theorem colN_plain: ∀ (l:List UInt8) (i k:Nat),(∀ c ∈ l,c≠58∧c≠91)→colN false i k l=k
 | [],i,k,h=>rfl
 | c::l,i,k,h=>by
   rw [colN,if_neg (h c (by simp)).1,if_neg (h c (by simp)).2]
   exact colN_plain l (i+1) k fun d hd=>h d (by simp [hd])

theorem colN_at11: ∀ (a t:List UInt8) (i k:Nat),(∀ c ∈ a,c≠58∧c≠91)→(∀ c ∈ t,c≠58∧c≠91)→colN false i k (a++58::t)=i+a.length
 | [],t,i,k,_,h=>by
   rw [List.nil_append,colN,if_pos rfl,colN_plain t _ _ h];rfl
 | c::a,t,i,k,h1,h2=>by
   rw [List.cons_append,colN,if_neg (h1 c (by simp)).1,if_neg (h1 c (by simp)).2,colN_at11 a t (i+1) k (fun d hd=>h1 d (by simp [hd])) h2]
   simp;omega

end Go.Proofs.YtolioccofbhliaaGreatDoor

namespace Go.Proofs.YtolioccofbhliaaGreatDoor
def prt (n:Nat):Int:=if (n:Int)=443 then -1 else n

end Go.Proofs.YtolioccofbhliaaGreatDoor

namespace Go.Proofs.YtolioccofbhliaaGreatDoor
theorem dots0:dotsV []=0∧pct 5 []=[]:=by decide +kernel

end Go.Proofs.YtolioccofbhliaaGreatDoor

namespace Go.Proofs.YtolioccofbhliaaGreatDoor
theorem drop_stop {α:Type} (p:α→Bool) (y:α) (hy:p y=false) (b:List α): ∀ a:List α,(a++y::b).dropWhile p=a.dropWhile p++y::b
 | []=>by simp [List.dropWhile_cons,hy]
 | c::a=>by
   rw [List.cons_append,List.dropWhile_cons,List.dropWhile_cons]
   cases p c with
   | true=>simp only [if_pos];exact drop_stop p y hy b a
   | false=>rfl

end Go.Proofs.YtolioccofbhliaaGreatDoor

namespace Go.Proofs.YtolioccofbhliaaGreatDoor
theorem seeC_B {c:UInt8} (h:seeC c=true):seeB c=true:=by
 unfold seeC at h;unfold seeB;rw [Bool.and_eq_true,decide_eq_true_iff,decide_eq_true_iff] at h ⊢
 omega

theorem pct_seeB (l:List UInt8): ∀ c ∈ pct 1 l,seeB c=true:=by
 apply pct_all;intro c;have:=pct1_see c;simp only [Bool.and_eq_true] at this;exact this.2.2.2.2.2

theorem digC_ho (n:Nat) (h:n<16):hoC (digC n)=true:=by
 have: ∀ n<16,hoC (digC n)=true:=by decide +kernel
 exact this n h

theorem digsN_ho: ∀ (f n:Nat) (acc:List UInt8),(∀ c ∈ acc,hoC c=true) → ∀ c ∈ digsN 16 f n acc,hoC c=true
 | 0,n,acc,h=>h
 | f+1,n,acc,h=>by
   rw [digsN];split
   ·intro c hc
    rcases List.mem_cons.1 hc with rfl | hc
    ·exact digC_ho n (by omega)
    ·exact h c hc
   ·exact digsN_ho f _ _ fun c hc=>by
     rcases List.mem_cons.1 hc with rfl | hc
     ·exact digC_ho _ (Nat.mod_lt _ (by omega))
     ·exact h c hc

theorem joined_ho: ∀ (x:List Nat),∀ c ∈ joined x,hoC c=true
 | []=>by rw [joined_nil];simp
 | [n]=>by rw [joined_one];exact digsN_ho 4 n [] (by simp)
 | a::b::l=>by
   rw [joined_cons];intro c hc;rcases List.mem_append.1 hc with hc | hc
   ·exact digsN_ho 4 a [] (by simp) c hc
   ·rcases List.mem_append.1 hc with hc | hc
    ·obtain rfl:=List.mem_singleton.1 hc;decide
    ·exact joined_ho (b::l) c hc

theorem text6_ho (x:List Nat): ∀ c ∈ text6 x,hoC c=true:=by
 unfold text6;split
 ·exact joined_ho x
 ·intro c hc
  rcases List.mem_append.1 hc with hc | hc
  ·exact joined_ho _ c hc
  ·rcases List.mem_append.1 hc with hc | hc
   ·rcases List.mem_cons.1 hc with rfl | hc
    ·decide
    ·obtain rfl:=List.mem_singleton.1 hc;decide
   ·exact joined_ho _ c hc

theorem dec8_ho (n:Nat) (h:n<256): ∀ c ∈ dec8 n,hoC c=true:=by
 have: ∀ n<256,∀ c ∈ dec8 n,hoC c=true:=by decide +kernel
 exact this n h

theorem text4_ho (n:Nat): ∀ c ∈ text4 n,hoC c=true:=by
 unfold text4;intro c hc;have hm: ∀ k:Nat,k % 256<256:=fun k=>Nat.mod_lt _ (by decide)
 rcases List.mem_append.1 hc with hc | hc
 ·exact dec8_ho _ (hm _) c hc
 ·rcases List.mem_cons.1 hc with rfl | hc
  ·decide
  ·rcases List.mem_append.1 hc with hc | hc
   ·exact dec8_ho _ (hm _) c hc
   ·rcases List.mem_cons.1 hc with rfl | hc
    ·decide
    ·rcases List.mem_append.1 hc with hc | hc
     ·exact dec8_ho _ (hm _) c hc
     ·rcases List.mem_cons.1 hc with rfl | hc
      ·decide
      ·exact dec8_ho _ (hm _) c hc

theorem nameB_ho (c:UInt8) (h:nameB c=true):hoC c=true:=by
 have:=u8_all (P:=fun c=> !nameB c||hoC c) (by decide +kernel) c
 simp only [Bool.or_eq_true,Bool.not_eq_true'] at this
 rcases this with h' | h'
 ·rw [h] at h';cases h'
 ·exact h'

theorem seeB_ho (c:UInt8) (h:seeB c=true) (hf:forb c=false):hoC c=true:=by
 have:=u8_all (P:=fun c=> !seeB c||(forb c||hoC c)) (by decide +kernel) c
 simp only [Bool.or_eq_true,Bool.not_eq_true'] at this
 rcases this with h' | h' | h'
 ·rw [h] at h';cases h'
 ·rw [hf] at h';cases h'
 ·exact h'

theorem host_ho {l a:List UInt8} {b:Bool} (h:parseV l b=some a): ∀ c ∈ a,hoC c=true:=by
 unfold parseV at h;split at h
 ·unfold bracketV at h
  split at h
  ·cases hs:sixV (Lib.trimSuffix (l.drop 1) [93]) with
   | none=>rw [hs] at h;cases h
   | some x=>
     rw [hs] at h;simp only [Option.map_some,Option.some.injEq] at h
     rw [← h];intro c hc;rcases List.mem_cons.1 hc with rfl | hc
     ·decide
     ·rcases List.mem_append.1 hc with hc | hc
      ·exact text6_ho x c hc
      ·obtain rfl:=List.mem_singleton.1 hc;decide
  ·cases h
 ·split at h
  ·unfold nameV at h
   split at h
   ·cases h
   ·rename_i hn
    split at h
    ·cases hf:fourV (low (unpct l)) with
     | none=>rw [hf] at h;cases h
     | some n=>
       rw [hf] at h;simp only [Option.map_some,Option.some.injEq] at h
       rw [← h];exact text4_ho n
    ·simp only [Option.some.injEq] at h
     rw [← h];intro c hc;have:allN (low (unpct l))=true:=by
      cases he:allN (low (unpct l)) with
      | true=>rfl
      | false=>exact absurd (.inr (.inl he)) hn
     exact nameB_ho c (List.all_eq_true.1 this c hc)
  ·unfold otherV at h
   split at h
   ·cases h
   ·rename_i hn
    simp only [Option.some.injEq] at h;have hf:=pct_forb l (by simpa using hn)
    rw [h] at hf;intro c hc;refine seeB_ho c ?_ ?_
    ·rw [← h] at hc;exact pct_seeB l c hc
    ·cases he:forb c with
     | false=>rfl
     | true=>rw [List.any_eq_true.2 ⟨c,hc,he⟩] at hf;cases hf

theorem hoC_see {c:UInt8} (h:hoC c=true):seeC c=true:=by
 unfold hoC at h;exact (Bool.and_eq_true _ _ ▸ h:_∧_).1

end Go.Proofs.YtolioccofbhliaaGreatDoor

namespace Go.Proofs.YtolioccofbhliaaGreatDoor
theorem allS_nil:AllS []:=fun c h=>by simp at h

theorem parseV_ne {l a:List UInt8} (h:parseV l true=some a):a≠[]:=by
 intro e;subst e;unfold parseV at h;split at h
 ·unfold bracketV at h
  split at h
  ·cases hs:sixV (Lib.trimSuffix (l.drop 1) [93]) with
   | none=>rw [hs] at h;cases h
   | some x=>rw [hs] at h;simp at h
  ·cases h
 ·simp only [if_true] at h
  unfold nameV at h;split at h
  ·cases h
  ·rename_i hn
   split at h
   ·cases hf:fourV (low (unpct l)) with
    | none=>rw [hf] at h;cases h
    | some n=>
      rw [hf] at h;simp only [Option.map_some,Option.some.injEq] at h
      unfold text4 at h;simp at h
   ·simp only [Option.some.injEq] at h
    exact hn (.inl h)

theorem port_own {own:Int} {t:List UInt8} {p:Int} (h:portV own t=some p):p = -1∨(0≤p∧p≤65535∧p≠own):=by
 rcases portV_ok h with h1 | h1
 ·exact .inl h1
 ·unfold portV at h
  split at h
  ·injection h with h;exact .inl h.symm
  ·split at h
   ·injection h with h
    split at h
    ·exact .inl h.symm
    ·rename_i hne
     exact .inr ⟨h1.1,h1.2,by rw [← h];exact hne⟩
   ·cases h

theorem auth_good {sc s a b h:List UInt8} {p:Int} (e:authV sc s = .ok (a,b,h,p)):AllS a∧AllS b∧(∀ c ∈ h,hoC c=true)∧(p = -1∨(0≤p∧p≤65535∧p≠ownV sc))∧(specV sc=true→h≠[]):=by
 unfold authV at e;split at e
 ·cases e
 ·rename_i po hpo
  split at e
  ·cases e
  ·rename_i hh hhe
   split at e
   ·cases e
   ·injection e with e
    injection e with e1 e
    injection e with e2 e
    injection e with e3 e4
    subst e1 e2 e3 e4;refine ⟨pct_see 6 (.inr (.inr (.inr (.inr rfl)))) _,pct_see 6 (.inr (.inr (.inr (.inr rfl)))) _,host_ho hhe,port_own hpo,fun hsp=> ?_⟩;rw [hsp] at hhe;exact parseV_ne hhe

theorem withAuth_good {u v:Adr} {r:List UInt8} (h:Pre3 u) (ho:u.opq=false) (e:withAuth u r = .ok v):Good3 v:=by
 unfold withAuth at e;split at e
 ·cases e
 ·rename_i a b hh p hau
  injection e with e
  rw [← e];obtain ⟨h1,h2,h3,h4,h5⟩:=auth_good hau
  refine Good3.path (u:={ u with user:=a,pass:=b,host:=hh,hasHost:=true,port:=p }) ⟨h.scheme,h1,h2,h3,?_,h.query,h.fragment,h.noQ,h.noF⟩ ho h5 [] (by simp) _
  rcases h4 with h4 | ⟨h4,h6,h7⟩
  ·exact .inl h4
  ·exact .inr ⟨h4,h6,h7,rfl⟩

theorem start_good {u v:Adr} {r:List UInt8} (h:Pre3 u) (ho:u.opq=false) (hh:u.hasHost=false) (e:startV u r = .ok v):Good3 v:=by
 unfold startV at e;split at e
 ·exact withAuth_good h ho e
 ·rename_i hsp
  split at e
  ·exact withAuth_good h ho e
  ·split at e
   ·injection e with e
    rw [← e];exact Good3.path h ho (fun e=>absurd e hsp) [] (by simp) _
   ·injection e with e
    rw [← e];refine Good3.query (u:={ u with opq:=true,path:=[pct 1 (aheadV [63] r).1] }) ⟨⟨h.scheme,h.user,h.pass,h.host,h.port,h.query,h.fragment,h.noQ,h.noF⟩,?_,?_,?_⟩ _
    ·intro e;cases e
    ·intro _
     exact ⟨hh,_,rfl⟩
    ·intro e;exact absurd e hsp

theorem part_false (c:UInt8): ∀ l:List UInt8,(part c l).2.2=false→(part c l).2.1=[]
 | []=>fun _=>rfl
 | x::l=>by
   rw [part];split
   ·intro h;cases h
   ·exact part_false c l

theorem sch_see {l:List UInt8} (h:schOk l=true):AllS (low l):=by
 intro c hc;obtain ⟨d,hd,rfl⟩:=List.mem_map.1 (show c ∈ l.map lowC from hc)
 unfold schOk at h;rw [Bool.and_eq_true] at h;have h1:=List.all_eq_true.1 h.2 d hd;have:=u8_all (P:=fun c=> !schC c||seeC (lowC c)) (by decide +kernel) d
 simp only [Bool.or_eq_true,Bool.not_eq_true'] at this
 rcases this with h' | h'
 ·rw [h1] at h';cases h'
 ·exact h'

theorem begin_good (s:List UInt8):Pre3 (beginU s).1∧(beginU s).1.opq=false∧(beginU s).1.hasHost=false:=by
 unfold beginU;refine ⟨⟨?_,allS_nil,allS_nil,fun c h=>by simp at h,.inl rfl,allS_nil,pct_see 2 (.inl rfl) _,fun _=>rfl,fun e=> ?_⟩,rfl,rfl⟩
 ·show AllS ((schemeV (part 35 (cleanV s)).1).getD ([],(part 35 (cleanV s)).1)).1
  unfold schemeV;split
  ·rename_i hc
   rw [Bool.and_eq_true] at hc;exact sch_see hc.2
  ·exact allS_nil
 ·have e':(part 35 (cleanV s)).2.2=false:=e
  show pct 2 (part 35 (cleanV s)).2.1=[];rw [part_false 35 _ e'];rfl

theorem read_good {s:List UInt8} {u:Adr} (e:readV s none = .ok u):Good3 u:=by
 obtain ⟨h1,h2,h3⟩:=begin_good s
 unfold readV at e;split at e
 ·cases e
 ·simp only at e
  split at e
  ·cases e
  ·exact start_good h1 h2 h3 e

theorem portT_see (p:Int):AllS (portT p):=by
 have key: ∀ (f n:Nat) (acc:List UInt8),AllS acc→AllS (deciN f n acc):=by
  intro f
  induction f with
  | zero=>intro n acc h;exact h
  | succ f ih=>
    intro n acc h;have hd: ∀ k<10,seeC (UInt8.ofNat (48+k))=true:=by decide +kernel
    rw [deciN];split
    ·intro c hc
     rcases List.mem_cons.1 hc with rfl | hc
     ·exact hd n (by omega)
     ·exact h c hc
    ·refine ih _ _ fun c hc=> ?_
     rcases List.mem_cons.1 hc with rfl | hc
     ·exact hd _ (Nat.mod_lt _ (by omega))
     ·exact h c hc
 exact key 6 p.toNat [] allS_nil

theorem allS_app {a b:List UInt8} (ha:AllS a) (hb:AllS b):AllS (a++b):=fun c hc=>(List.mem_append.1 hc).elim (ha c) (hb c)

theorem allS_cons {c:UInt8} {b:List UInt8} (hc:seeC c=true) (hb:AllS b):AllS (c::b):=allS_app (a:=[c]) (fun d hd=>by obtain rfl:=List.mem_singleton.1 hd;exact hc) hb

theorem authT_see {u:Adr} (h:Pre3 u):AllS (authT u):=by
 unfold authT;split
 ·refine allS_app (allS_app (allS_app (allS_app (allS_app ?_ h.user) ?_) ?_) (fun c hc=>hoC_see (h.host c hc))) ?_
  ·intro c hc;revert c;decide
  ·split
   ·exact allS_nil
   ·exact allS_cons (by decide) h.pass
  ·split
   ·exact allS_nil
   ·intro c hc;revert c;decide
  ·split
   ·exact allS_nil
   ·exact allS_cons (by decide) (portT_see _)
 ·exact allS_nil

theorem flat_see {L:List (List UInt8)} (h: ∀ p ∈ L,PartOk p):AllS (L.flatMap fun p=>47::p):=by
 intro c hc;obtain ⟨p,hp,hc⟩:=List.mem_flatMap.1 hc
 rcases List.mem_cons.1 hc with rfl | hc
 ·decide
 ·exact (h p hp).1 c hc

theorem text_see {u:Adr} (h:Good3 u): ∀ c ∈ textV u,seeB c=true∧(u.opq=false→seeC c=true):=by
 have hq:AllS (if u.hasQuery then 63::u.query else []):=by
  split
  ·exact allS_cons (by decide) h.pre.query
  ·exact allS_nil
 have hf:AllS (if u.hasFragment then 35::u.fragment else []):=by
  split
  ·exact allS_cons (by decide) h.pre.fragment
  ·exact allS_nil
 have both: ∀ l:List UInt8,AllS l → ∀ c ∈ l,seeB c=true∧(u.opq=false→seeC c=true):=fun l hl c hc=>⟨seeC_B (hl c hc),fun _=>hl c hc⟩
 have hp: ∀ c ∈ pathT u,seeB c=true∧(u.opq=false→seeC c=true):=by
  unfold pathT
  cases ho:u.opq with
  | true=>
    rw [if_pos rfl];obtain ⟨-,x,hx⟩:=h.opaque_ ho
    rw [hx];intro c hc;simp at hc;exact ⟨pct_seeB x c hc,fun e=>by cases e⟩
  | false=>
    rw [if_neg (by simp)];intro c hc;have hall:AllS ((if u.hasHost=false∧1<u.path.length∧u.path.head? = some [] then [47,46] else [])++u.path.flatMap (fun p=>47::p)):=by
     refine allS_app ?_ (flat_see (h.parts ho));split
     ·intro c hc;revert c;decide
     ·exact allS_nil
    exact ⟨seeC_B (hall c hc),fun _=>hall c hc⟩
 intro c hc;unfold textV bareV at hc;rcases List.mem_append.1 hc with hc | hc
 ·rcases List.mem_append.1 hc with hc | hc
  ·exact both _ h.pre.scheme c hc
  ·rcases List.mem_cons.1 hc with rfl | hc
   ·exact ⟨by decide,fun _=>by decide⟩
   ·rcases List.mem_append.1 hc with hc | hc
    ·exact both _ (authT_see h.pre) c hc
    ·rcases List.mem_append.1 hc with hc | hc
     ·exact hp c hc
     ·exact both _ hq c hc
 ·exact both _ hf c hc

end Go.Proofs.YtolioccofbhliaaGreatDoor

namespace Go.Proofs.YtolioccofbhliaaGreatDoor
theorem withQuery_opq (u:Adr) (q:List UInt8):(withQuery u q).opq=u.opq∧(withQuery u q).path=u.path:=by
 rcases withQuery_cases u q with e | e
 ·rw [e];exact ⟨rfl,rfl⟩
 ·rw [e];exact ⟨rfl,rfl⟩

theorem withAuth_opq {u v:Adr} {r:List UInt8} (e:withAuth u r = .ok v):v.opq=u.opq:=by
 unfold withAuth at e;split at e
 ·cases e
 ·injection e with e
  rw [← e];unfold withPath;exact (withQuery_opq _ _).1

theorem start_opq4 {u v:Adr} {rest:List UInt8} (h0:u.opq=false) (e:startV u rest = .ok v) (ho:v.opq=true):v.path=[pct 1 (aheadV [63] rest).1]:=by
 unfold startV at e;split at e
 ·rw [withAuth_opq e,h0] at ho;cases ho
 ·split at e
  ·rw [withAuth_opq e,h0] at ho;cases ho
  ·split at e
   ·injection e with e
    rw [← e] at ho;unfold withPath at ho;rw [(withQuery_opq _ _).1] at ho;rw [show ({ u with path:=pathV (specV u.scheme) [] (aheadV [63] rest).1 }:Adr).opq=u.opq from rfl,h0] at ho
    cases ho
   ·injection e with e
    rw [← e,(withQuery_opq _ _).2]

end Go.Proofs.YtolioccofbhliaaGreatDoor

namespace Go.Proofs.YtolioccofbhliaaGreatDoor
open Go.RowKit

theorem belowA {w w':World} (h:Below w.heap.size w w') (o:Obj):Below w.heap.size w (w'.alloc o):=h.alloc h.size o

end Go.Proofs.YtolioccofbhliaaGreatDoor

namespace Go.Proofs.YtolioccofbhliaaGreatDoor
open Go.RowKit

def HdPost (L:List Hd) (w:World) (e:Ending) (w':World):Prop:= ∃ v,e = .returned v∧w'.ownsRow w.heap.size 45 2 v L.length (cellsH L)∧Below w.heap.size w w'

end Go.Proofs.YtolioccofbhliaaGreatDoor

namespace Go.Proofs.YtolioccofbhliaaGreatDoor
open Go.RowKit

theorem xstep_append_own {P:Program} {ops:Array Oper} {o:Oper} {a:Act} {w:World} {K:Act→World→Prop} {Q:Exit→Act→World→Prop} {E:Prop} (hgd:o.guard=none) (s x:Operand) (t:TypeId)
 (ho:o.op = .call { callee:= .builtin .append,args:= #[s,x],argTypes:= #[t,t] })
 (base:Nat) (e:TypeId) (i:TypeInfo) (z:Value) (size bytes:Nat) (ht:P.underlying t=some (.slice e)) (hi:P.info? e=some i) (hz:i.zero=some z)
 (hsize:i.size=size) (hby:i.bytes=bytes) (hzs:z.cells.size=size) (hsz:0<size)
 (v:Value) (n:Nat) (xs:List Value) (hs:a.eval s=v) (hown:w.ownsRow base e size v n xs)
 (ad:Addr) (m c:Nat) (news:List Value) (hx:a.eval x = .slice (some ad) m c) (hl:news.length=m*size) (hnews: ∀ j u,news[j]? = some u→w.cell? (ad.add j)=some u) (h1: ∀ u ∈ news,u.oneCell'=true)
 (h63:n+m≤maxLen) (hbytes:(n+m)*bytes≤140737488355328) (hbase:base≤w.heap.size)
 (h: ∀ v' w',w'.ownsRow base e size v' (n+m) (xs++news)→w.grownBy w' v.ownBlock→(v' = .slice none 0 0 ↔ v = .slice none 0 0∧m=0)→K (a.put o.dst v') w'):
 if Region.wanted o (yielded ops a.tmps)=true then Oper.wp P o a w K Q else E:=by
 rw [if_pos (by simp [Region.wanted,hgd])];exact wp_append_own w s x t ho base e i z size bytes ht hi hz hsize hby hzs hsz v n xs hs hown ad m c news hx hl hnews h1 h63 hbytes hbase h

end Go.Proofs.YtolioccofbhliaaGreatDoor

namespace Go.Proofs.YtolioccofbhliaaGreatDoor
open Go.RowKit

set_option maxHeartbeats 400000 in
theorem xfew_any (s:ByteArray) (n:Nat) (w:World) (hn:n≤1000000) (hs:s.size≤9223372036854775807):
 Calls Tryz.prog 39 #[.string s,.int .i64 n] w fun e w'=>e = .returned (.string ⟨(s.data.toList.take n).toArray⟩)∧w=w':=by
 by_cases h:n<s.size
 ·have h':(n:Int)<(s.size:Int):=by omega
  have HE:=hid (show s.extract 0 n=⟨(s.data.toList.take n).toArray⟩ from xext (by rw [Lib.extract_data];simp))
  go_enter Tryz.func39,Tryz.ntmps39
  go_wp2
  go_ret
  rw [← HE.out];exact ⟨rfl,rfl⟩
 ·have h': ¬ ((n:Int)<(s.size:Int)):=by omega
  have HE:=hid (show s=⟨(s.data.toList.take n).toArray⟩ from xext (by rw [List.take_of_length_le (by simp;omega)]))
  go_enter Tryz.func39,Tryz.ntmps39
  go_wp2
  go_ret
  rw [← HE.out];exact ⟨rfl,rfl⟩

end Go.Proofs.YtolioccofbhliaaGreatDoor
