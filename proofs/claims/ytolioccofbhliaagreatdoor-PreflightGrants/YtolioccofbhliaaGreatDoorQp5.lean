/-
  Walks and plain facts that this claim leans on, put together out of 6 texts: Ta, Sc, Tb, Tc, Td, Te.
-/
import Derived.Test.YtolioccofbhliaaGreatDoorProg
import Derived.Test.YtolioccofbhliaaGreatDoorQp1
import Derived.Test.YtolioccofbhliaaGreatDoorQp2
import Derived.Test.YtolioccofbhliaaGreatDoorQp3
import Derived.Test.YtolioccofbhliaaGreatDoorQp4
import Derived.WalkKit
import Derived.Lib.Strings
import Derived.Lib.UnsafeStr
import Derived.Laws.IdiomStrings
import Derived.Laws.AppendOwn
import Derived.Laws.BitsAllLaws
import Derived.Lib.Bytealg
import Derived.Lib.BufferMore
import Derived.LoopN
import Derived.RegionTactic
import Derived.Deep.RegionWith
import Derived.Deep.QuietTactic
import Derived.BigQuiet
import Derived.Shelf.Strings.Builder1
import Derived.Shelf.Strings.Builder2
import Derived.Shelf.Strings.OnBuilder
import Derived.Shelf.Strings.Trim
import Derived.Shelf.Small.Utf8
import Derived.Shelf.Small.Bits
import Derived.Shelf.Small.Strs
import Derived.Shelf.Small.Wraps
import Derived.Shelf.Strings.BuilderF
import Derived.Shelf.Strings.BuilderK
import Derived.Shelf.Strings.Builder2Cap
import Derived.Shelf.Strconv.Itoa0
import Derived.Shelf.Strconv.Itoa1
import Derived.Shelf.LaysM
import Derived.Shelf.Strconv.Itoa2
import Derived.Shelf.Strconv.Itoa3
import Derived.Shelf.Strings.Search1
import Derived.Shelf.Strings.Search2
import Derived.Shelf.Strings.Cut
import Derived.Shelf.Strings.Shaped
import Derived.Shelf.Sort.Plain
import Derived.Shelf.Strings.Prefix
import Derived.Shelf.Strings.Runes
import Derived.Shelf.Strings.IndexAny
import Derived.Shelf.Strings.AsciiSet
import Derived.Shelf.Strings.IndexAnyAll
import Derived.Shelf.Unicode.DecodeSlow
import Derived.Shelf.Unicode.DecodeAny
import Derived.Shelf.Unicode.DecodeLast
import Derived.Shelf.Slices.CompactS
import Derived.Shelf.Slices.In.SortNone
import Derived.Ground.SlgnProg
import Derived.Shelf.SlicesE.Compact
import Derived.Ground.SlgfProg
import Derived.Shelf.SlicesE.IndexFunc
import Derived.Shelf.SlicesE.DeleteFunc
import Derived.WalkSpells
import Derived.WalkLawsBesides
import Derived.Lib.FrozenHead2
import Derived.Lib.OthersKept
import Derived.Lib.Builder
import Derived.Lib.IndexMore
import Derived.Lib.Join
import Derived.Lib.LastIndexByte
import Derived.Lib.AppendIntMem
import Derived.Lib.SmallJoins
import Derived.WalkSmall
import Derived.Scope
import Derived.ScopeJumps
import Derived.WalkMore
import Derived.Lib.IndexAny
import Derived.Lib.Replace
import Derived.Lib.TrimByte
import Derived.Lib.ItoaNum
import Derived.Laws.RangeAny
import Derived.Lib.DecodeN
import Derived.Deep.LoopGhost
import Derived.Laws.BytesString
import Derived.OwnWalk
import Derived.Laws.CopyOwn
import Derived.Laws.ResultCell
import Derived.Deep.MidRow
import Derived.Deep.RegionLaw
set_option linter.unusedSimpArgs false
set_option linter.unusedVariables false

namespace Go.Proofs.YtolioccofbhliaaGreatDoor
open Go.RowKit

theorem inSet_outer (c set:Int) (h: ¬ (1≤set∧set≤6)):inSetI c set=false:=by
 have: ¬ inSetP c set:=fun h'=>h h'.1
 simp [inSetI,this]

set_option maxHeartbeats 1000000 in
theorem rin_2 (c:Int) (w:World):
 Calls Tryz.prog 238 #[.int .u8 c,.int .i64 2] w fun e w'=>e = .returned (.bool (inSetI c 2))∧w=w':=by
 have HF:=hid (setL_in c 2 (by omega));have hc:c<32∨(32≤c∧126<c)∨(32≤c∧c≤126):=by omega
 rcases hc with hc | ⟨hc1,hc2⟩ | ⟨hc1,hc2⟩
 all_goals
  go_enter Tryz.func238,Tryz.ntmps238
  go_wp2
  generalize hT:ByteArray.mk #[32,34,60,62,96]=t
  have hts:t.size≤19:=by rw [← hT];decide
  have HA:Hid (inTo c t.data.toList t.size=inSetI c 2):=hid ((inTo_all c t).trans (by rw [← hT];exact HF.out));clear hT HF
  go_loop [5,7] (fun o j=> ∃ m:Nat,m≤t.size∧j = .int .i64 m∧o = .bool (inTo c t.data.toList m)) (fun _ j=>t.size - (intOf j).toNat)
  case atStart=>exact ⟨0,by omega,rfl,by rw [inTo_zero]<;>(try congr 1)<;>(try simp)<;>omega⟩
  case round=>
   obtain ⟨m,hm,rfl,rfl⟩:=hrel
   by_cases hlt:m<t.size
   ·have HS:=hid (inTo_succ c t m hlt)
    have hot:inTo c t.data.toList m=true∨inTo c t.data.toList m=false:=by cases inTo c t.data.toList m<;>simp
    rcases hot with hot | hot
    all_goals
     go_wp2
     go_round
     case rel=>exact ⟨m+1,by omega,by go_num,by rw [HS.out,hot];simp⟩
     case measure=>simp [intOf];omega
   ·obtain rfl:m=t.size:=by omega
    go_wp2
    go_ret
    exact ⟨ret_bool HA.out,rfl⟩

set_option maxHeartbeats 1000000 in
theorem rin_3 (c:Int) (w:World):
 Calls Tryz.prog 238 #[.int .u8 c,.int .i64 3] w fun e w'=>e = .returned (.bool (inSetI c 3))∧w=w':=by
 have HF:=hid (setL_in c 3 (by omega));have hc:c<32∨(32≤c∧126<c)∨(32≤c∧c≤126):=by omega
 rcases hc with hc | ⟨hc1,hc2⟩ | ⟨hc1,hc2⟩
 all_goals
  go_enter Tryz.func238,Tryz.ntmps238
  go_wp2
  generalize hT:ByteArray.mk #[32,34,35,60,62]=t
  have hts:t.size≤19:=by rw [← hT];decide
  have HA:Hid (inTo c t.data.toList t.size=inSetI c 3):=hid ((inTo_all c t).trans (by rw [← hT];exact HF.out));clear hT HF
  go_loop [5,7] (fun o j=> ∃ m:Nat,m≤t.size∧j = .int .i64 m∧o = .bool (inTo c t.data.toList m)) (fun _ j=>t.size - (intOf j).toNat)
  case atStart=>exact ⟨0,by omega,rfl,by rw [inTo_zero]<;>(try congr 1)<;>(try simp)<;>omega⟩
  case round=>
   obtain ⟨m,hm,rfl,rfl⟩:=hrel
   by_cases hlt:m<t.size
   ·have HS:=hid (inTo_succ c t m hlt)
    have hot:inTo c t.data.toList m=true∨inTo c t.data.toList m=false:=by cases inTo c t.data.toList m<;>simp
    rcases hot with hot | hot
    all_goals
     go_wp2
     go_round
     case rel=>exact ⟨m+1,by omega,by go_num,by rw [HS.out,hot];simp⟩
     case measure=>simp [intOf];omega
   ·obtain rfl:m=t.size:=by omega
    go_wp2
    go_ret
    exact ⟨ret_bool HA.out,rfl⟩

set_option maxHeartbeats 1000000 in
theorem rin_4 (c:Int) (w:World):
 Calls Tryz.prog 238 #[.int .u8 c,.int .i64 4] w fun e w'=>e = .returned (.bool (inSetI c 4))∧w=w':=by
 have HF:=hid (setL_in c 4 (by omega));have hc:c<32∨(32≤c∧126<c)∨(32≤c∧c≤126):=by omega
 rcases hc with hc | ⟨hc1,hc2⟩ | ⟨hc1,hc2⟩
 all_goals
  go_enter Tryz.func238,Tryz.ntmps238
  go_wp2
  generalize hT:ByteArray.mk #[32,34,35,60,62,39]=t
  have hts:t.size≤19:=by rw [← hT];decide
  have HA:Hid (inTo c t.data.toList t.size=inSetI c 4):=hid ((inTo_all c t).trans (by rw [← hT];exact HF.out));clear hT HF
  go_loop [5,7] (fun o j=> ∃ m:Nat,m≤t.size∧j = .int .i64 m∧o = .bool (inTo c t.data.toList m)) (fun _ j=>t.size - (intOf j).toNat)
  case atStart=>exact ⟨0,by omega,rfl,by rw [inTo_zero]<;>(try congr 1)<;>(try simp)<;>omega⟩
  case round=>
   obtain ⟨m,hm,rfl,rfl⟩:=hrel
   by_cases hlt:m<t.size
   ·have HS:=hid (inTo_succ c t m hlt)
    have hot:inTo c t.data.toList m=true∨inTo c t.data.toList m=false:=by cases inTo c t.data.toList m<;>simp
    rcases hot with hot | hot
    all_goals
     go_wp2
     go_round
     case rel=>exact ⟨m+1,by omega,by go_num,by rw [HS.out,hot];simp⟩
     case measure=>simp [intOf];omega
   ·obtain rfl:m=t.size:=by omega
    go_wp2
    go_ret
    exact ⟨ret_bool HA.out,rfl⟩

set_option maxHeartbeats 1000000 in
theorem rin_5 (c:Int) (w:World):
 Calls Tryz.prog 238 #[.int .u8 c,.int .i64 5] w fun e w'=>e = .returned (.bool (inSetI c 5))∧w=w':=by
 have HF:=hid (setL_in c 5 (by omega));have hc:c<32∨(32≤c∧126<c)∨(32≤c∧c≤126):=by omega
 rcases hc with hc | ⟨hc1,hc2⟩ | ⟨hc1,hc2⟩
 all_goals
  go_enter Tryz.func238,Tryz.ntmps238
  go_wp2
  generalize hT:ByteArray.mk #[32,34,35,60,62,63,94,96,123,125]=t
  have hts:t.size≤19:=by rw [← hT];decide
  have HA:Hid (inTo c t.data.toList t.size=inSetI c 5):=hid ((inTo_all c t).trans (by rw [← hT];exact HF.out));clear hT HF
  go_loop [5,7] (fun o j=> ∃ m:Nat,m≤t.size∧j = .int .i64 m∧o = .bool (inTo c t.data.toList m)) (fun _ j=>t.size - (intOf j).toNat)
  case atStart=>exact ⟨0,by omega,rfl,by rw [inTo_zero]<;>(try congr 1)<;>(try simp)<;>omega⟩
  case round=>
   obtain ⟨m,hm,rfl,rfl⟩:=hrel
   by_cases hlt:m<t.size
   ·have HS:=hid (inTo_succ c t m hlt)
    have hot:inTo c t.data.toList m=true∨inTo c t.data.toList m=false:=by cases inTo c t.data.toList m<;>simp
    rcases hot with hot | hot
    all_goals
     go_wp2
     go_round
     case rel=>exact ⟨m+1,by omega,by go_num,by rw [HS.out,hot];simp⟩
     case measure=>simp [intOf];omega
   ·obtain rfl:m=t.size:=by omega
    go_wp2
    go_ret
    exact ⟨ret_bool HA.out,rfl⟩

set_option maxHeartbeats 1000000 in
theorem rin_6 (c:Int) (w:World):
 Calls Tryz.prog 238 #[.int .u8 c,.int .i64 6] w fun e w'=>e = .returned (.bool (inSetI c 6))∧w=w':=by
 have HF:=hid (setL_in c 6 (by omega));have hc:c<32∨(32≤c∧126<c)∨(32≤c∧c≤126):=by omega
 rcases hc with hc | ⟨hc1,hc2⟩ | ⟨hc1,hc2⟩
 all_goals
  go_enter Tryz.func238,Tryz.ntmps238
  go_wp2
  generalize hT:ByteArray.mk #[32,34,35,60,62,63,94,96,123,125,47,58,59,61,64,91,92,93,124]=t
  have hts:t.size≤19:=by rw [← hT];decide
  have HA:Hid (inTo c t.data.toList t.size=inSetI c 6):=hid ((inTo_all c t).trans (by rw [← hT];exact HF.out));clear hT HF
  go_loop [5,7] (fun o j=> ∃ m:Nat,m≤t.size∧j = .int .i64 m∧o = .bool (inTo c t.data.toList m)) (fun _ j=>t.size - (intOf j).toNat)
  case atStart=>exact ⟨0,by omega,rfl,by rw [inTo_zero]<;>(try congr 1)<;>(try simp)<;>omega⟩
  case round=>
   obtain ⟨m,hm,rfl,rfl⟩:=hrel
   by_cases hlt:m<t.size
   ·have HS:=hid (inTo_succ c t m hlt)
    have hot:inTo c t.data.toList m=true∨inTo c t.data.toList m=false:=by cases inTo c t.data.toList m<;>simp
    rcases hot with hot | hot
    all_goals
     go_wp2
     go_round
     case rel=>exact ⟨m+1,by omega,by go_num,by rw [HS.out,hot];simp⟩
     case measure=>simp [intOf];omega
   ·obtain rfl:m=t.size:=by omega
    go_wp2
    go_ret
    exact ⟨ret_bool HA.out,rfl⟩

set_option maxHeartbeats 1000000 in
theorem rin_any (c set:Int) (w:World):
 Calls Tryz.prog 238 #[.int .u8 c,.int .i64 set] w fun e w'=>e = .returned (.bool (inSetI c set))∧w=w':=by
 by_cases hset:1≤set∧set≤6
 ·have h':set=1∨set=2∨set=3∨set=4∨set=5∨set=6:=by omega
  rcases h' with rfl | rfl | rfl | rfl | rfl | rfl
  ·exact rin_1 c w
  ·exact rin_2 c w
  ·exact rin_3 c w
  ·exact rin_4 c w
  ·exact rin_5 c w
  ·exact rin_6 c w
 ·have HN:=hid (inSet_outer c set hset)
  have h1:(set==1)=false:=by simp;omega
  have h2:(set==2)=false:=by simp;omega
  have h3:(set==3)=false:=by simp;omega
  have h4:(set==4)=false:=by simp;omega
  have h5:(set==5)=false:=by simp;omega
  have h6:(set==6)=false:=by simp;omega
  clear hset;have hc:c<32∨(32≤c∧126<c)∨(32≤c∧c≤126):=by omega
  rcases hc with hc | ⟨hc1,hc2⟩ | ⟨hc1,hc2⟩
  all_goals
   go_enter Tryz.func238,Tryz.ntmps238
   go_wp2
   go_ret
   exact ⟨ret_bool HN.out.symm,rfl⟩

set_option maxHeartbeats 1000000 in
theorem rpctS_any (s:ByteArray) (set:Int) (w:World) (hs:s.size≤1000000):
 Calls Tryz.prog 211 #[.string s,.int .i64 set] w fun e w'=>e = .returned (.string ⟨(pct set s.data.toList).toArray⟩)∧Below w.heap.size w w':=by
 go_enter Tryz.func211,Tryz.ntmps211
 go_wp2
 go_loopw [5,6] (fun o i wr=> ∃ (k:Nat) (t:ByteArray),k≤s.size∧i = .int .i64 k∧o = .string t∧t.data.toList=pct set (s.data.toList.take k)∧Below w.heap.size w wr) (fun _ i _=>s.size - (intOf i).toNat)
 case atStart=>exact ⟨0,_,Nat.zero_le _,rfl,rfl,rfl,Below.refl _ w⟩
 case round=>
  obtain ⟨k,t,hk,rfl,rfl,ht,hbw⟩:=hrel
  have htl:t.size≤3*k:=by
   rw [Lib.size_eq,ht]
   have:=pct_le set (s.data.toList.take k);simp at this;omega
  have HT:=hid ht;clear ht;by_cases hlt:k<s.size
  ·have HS:=hid (take_snoc s k hlt)
   have HP:=hid (pct_snoc set (s.data.toList.take k) s[k]);by_cases hin:inSetI (s[k].toNat:Int) set=true
   ·go_wp2_with (first | (go_at_call 238;refine (rin_any _ _ _).mono ?_;rintro e w' ⟨rfl,rfl⟩))
    refine (rescape_any s[k] wr).mono ?_;rintro e w1 ⟨rfl,hb1⟩
    have hes:(ByteArray.mk (esc s[k]).toArray).size=3:=rfl
    go_wp2
    go_roundw
    case rel=>
     refine ⟨k+1,_,by omega,by go_num,rfl,?_,hbw.trans (hb1.mono hbw.size)⟩;rw [ByteArray.data_append,Array.toList_append,HT.out,HS.out,HP.out,pct1,if_pos hin]
    case measure=>simp [intOf];omega
   ·have hin':inSetI (s[k].toNat:Int) set=false:=by simpa using hin
    clear hin
    go_wp2_with (first | (go_at_call 238;refine (rin_any _ _ _).mono ?_;rintro e w' ⟨rfl,rfl⟩))
    go_roundw
    case rel=>
     refine ⟨k+1,_,by omega,by go_num,rfl,?_,hbw⟩;rw [ByteArray.data_append,Array.toList_append,HT.out,HS.out,HP.out,pct1,hin',extract_at s k hlt]
     rfl
    case measure=>simp [intOf];omega
  ·have ht:=HT.out
   rw [take_all s k hlt] at ht;have HT2:=hid ht;clear ht HT
   go_wp2
   go_ret
   exact ⟨ret_str HT2.out,hbw⟩

set_option maxHeartbeats 400000 in
theorem rletter_any (c:Int) (w:World):
 Calls Tryz.prog 210 #[.int .u8 c] w fun e w'=>e = .returned (.bool (letterI c))∧w=w':=by
 go_enter Tryz.func210,Tryz.ntmps210
 go_wp2
 all_goals
  go_ret
  exact ⟨ret_bool (by rw [Bool.eq_iff_iff];simp [letterI];omega),rfl⟩

set_option maxHeartbeats 1000000 in
theorem rint_any (s:ByteArray) (w:World) (hs:s.size≤140737488351232):
 Calls Tryz.prog 115 #[.string s] w fun e w'=>e = .returned (.tuple #[.int .i64 (intV s.data.toList),.bool (intOk s.data.toList)])∧w=w':=by
 go_enter Tryz.func115,Tryz.ntmps115
 go_wp2
 go_loop [4,5] (fun n i=> ∃ k:Nat,k≤s.size∧i = .int .i64 k∧(s.data.toList.take k).all digP=true∧n = .int .i64 (numI (s.data.toList.take k))) (fun _ i=>s.size - (intOf i).toNat)
 case atStart=>exact ⟨0,Nat.zero_le _,rfl,rfl,rfl⟩
 case round=>
  obtain ⟨k,hk,rfl,hall,rfl⟩:=hrel
  have hr:=numI_range _ hall;have HA:=hid hall;clear hall;by_cases hlt:k<s.size
  ·have HT:=hid (take_snoc s k hlt)
   have HN:=hid (numI_snoc (s.data.toList.take k) s[k]);generalize numI (s.data.toList.take k)=n at *
   obtain ⟨hr1,hr2⟩:=hr
   by_cases hd:digitI (s[k].toNat:Int)=true
   ·have hd2:48≤(s[k].toNat:Int)∧(s[k].toNat:Int)≤57:=by simp [digitI] at hd;omega
    obtain ⟨hd3,hd4⟩:=hd2
    by_cases hbig:(9223372036854775807 - ((s[k].toNat:Int) - 48)) / 10<n
    ·have HT2:=hid (show ten n ((s[k].toNat:Int) - 48)=9223372036854775807 by unfold ten;rw [if_pos hbig])
     go_wp2_with (go_at_call 159;refine (rdigit_any _ _).mono ?_;rintro e w' ⟨rfl,rfl⟩)
     go_round
     case rel=>exact ⟨k+1,by omega,by go_num,by rw [HT.out,List.all_append,HA.out];simp [digP,hd],by rw [HT.out,HN.out,HT2.out]⟩
     case measure=>simp [intOf];omega
    ·have HT2:=hid (show ten n ((s[k].toNat:Int) - 48)=n*10+((s[k].toNat:Int) - 48) by unfold ten;rw [if_neg hbig])
     have hbig':n≤(9223372036854775807 - ((s[k].toNat:Int) - 48)) / 10:=by omega
     clear hbig
     go_wp2_with (go_at_call 159;refine (rdigit_any _ _).mono ?_;rintro e w' ⟨rfl,rfl⟩)
     go_round
     case rel=>exact ⟨k+1,by omega,by go_num,by rw [HT.out,List.all_append,HA.out];simp [digP,hd],by rw [HT.out,HN.out,HT2.out]⟩
     case measure=>simp [intOf];omega
   ·have hd':digitI (s[k].toNat:Int)=false:=by simpa using hd
    clear hd
    go_wp2_with (go_at_call 159;refine (rdigit_any _ _).mono ?_;rintro e w' ⟨rfl,rfl⟩)
    go_ret2
    have:s.data.toList.all digP=false:=by
     rw [List.all_eq_false];refine ⟨s[k],?_,by simp [digP,hd']⟩
     have:s[k]=s.data.toList[k]'(by simpa using hlt):=rfl
     rw [this];exact List.getElem_mem _
    exact ⟨ret_ib (by simp [intV,this]) (by simp [intOk,this]),rfl⟩
  ·have ha:=HA.out
   rw [take_all s k hlt] at ha ⊢;have ha':=hid ha;clear ha;by_cases h0:s.size=0
   ·have hl:s.data.toList=[]:=List.eq_nil_of_length_eq_zero (by simpa using h0)
    have HL:=hid hl;clear hl
    go_wp2
    go_ret2
    exact ⟨ret_ib (by rw [HL.out];rfl) (by rw [HL.out];simp [intOk]),rfl⟩
   ·have hl:s.data.toList.isEmpty=false:=by
     rw [List.isEmpty_eq_false_iff];intro h;apply h0;have:=congrArg List.length h;simpa using this
    have HL:=hid hl;clear hl;have h0':(0:Int)<(s.size:Int):=by omega
    go_wp2
    go_ret2
    exact ⟨ret_ib (by simp [intV,ha'.out,HL.out]) (by simp [intOk,ha'.out,HL.out];try omega),rfl⟩

end Go.Proofs.YtolioccofbhliaaGreatDoor

namespace Go.Proofs.YtolioccofbhliaaGreatDoor
open Go.RowKit

theorem begins_eq (s t:ByteArray) (h:t.size≤s.size):((s.extract 0 t.size).toList==t.toList)=Lib.hasPrefix s.data.toList t.data.toList:=by
 rw [Lib.toList_data,Lib.toList_data,Lib.extract_data,Bool.eq_iff_iff]
 unfold Lib.hasPrefix;rw [List.isPrefixOf_iff_prefix,List.prefix_iff_eq_take,beq_iff_eq]
 simp;exact eq_comm

theorem begins_no (s t:ByteArray) (h: ¬ t.size≤s.size):Lib.hasPrefix s.data.toList t.data.toList=false:=by
 rw [← Bool.not_eq_true];unfold Lib.hasPrefix;rw [List.isPrefixOf_iff_prefix];intro hp;have:=hp.length_le;simp at this;exact h this

set_option maxHeartbeats 400000 in
theorem begins_any (s t:ByteArray) (w:World) (hs:s.size≤4000000000) (ht:t.size≤4000000000):
 Calls Tryz.prog 215 #[.string s,.string t] w fun e w'=>e = .returned (.bool (Lib.hasPrefix s.data.toList t.data.toList))∧w=w':=by
 by_cases h:t.size≤s.size
 ·have HE:=hid (begins_eq s t h)
  have h':(t.size:Int)≤(s.size:Int):=by omega
  have hd:=decide_eq_true h'
  go_enter Tryz.func215,Tryz.ntmps215
  go_wp2
  go_ret
  exact ⟨ret_bool (by simpa using HE.out),rfl⟩
 ·have HE:=hid (begins_no s t h)
  have h': ¬ (t.size:Int)≤(s.size:Int):=by omega
  have hd:=decide_eq_false h'
  go_enter Tryz.func215,Tryz.ntmps215
  go_wp2
  go_ret
  exact ⟨ret_bool HE.out.symm,rfl⟩

theorem ends_eq (s t:ByteArray) (h:t.size≤s.size):((s.extract (s.size - t.size) s.size).toList==t.toList)=Lib.hasSuffix s.data.toList t.data.toList:=by
 rw [Lib.toList_data,Lib.toList_data,Lib.extract_data,Bool.eq_iff_iff]
 unfold Lib.hasSuffix;rw [List.isSuffixOf_iff_suffix,List.suffix_iff_eq_drop,beq_iff_eq]
 have e:s.size - (s.size - t.size)=t.size:=by omega
 rw [e,List.take_of_length_le (by simp;omega)]
 simp;exact eq_comm

theorem ends_no (s t:ByteArray) (h: ¬ t.size≤s.size):Lib.hasSuffix s.data.toList t.data.toList=false:=by
 rw [← Bool.not_eq_true];unfold Lib.hasSuffix;rw [List.isSuffixOf_iff_suffix];intro hp;have:=hp.length_le;simp at this;exact h this

set_option maxHeartbeats 400000 in
theorem ends_any (s t:ByteArray) (w:World) (hs:s.size≤4000000000) (ht:t.size≤4000000000):
 Calls Tryz.prog 261 #[.string s,.string t] w fun e w'=>e = .returned (.bool (Lib.hasSuffix s.data.toList t.data.toList))∧w=w':=by
 by_cases h:t.size≤s.size
 ·have HE:=hid (ends_eq s t h)
  have h':(t.size:Int)≤(s.size:Int):=by omega
  have hd:=decide_eq_true h';have ht:((s.size:Int) - (t.size:Int)).toNat=s.size - t.size:=by omega
  have h0:(0:Int)≤(s.size:Int) - (t.size:Int):=by omega
  have h1:(s.size:Int) - (t.size:Int)≤(s.size:Int):=by omega
  go_enter Tryz.func261,Tryz.ntmps261
  go_wp2
  go_ret
  exact ⟨ret_bool (by simpa [ht] using HE.out),rfl⟩
 ·have HE:=hid (ends_no s t h)
  have h': ¬ (t.size:Int)≤(s.size:Int):=by omega
  have hd:=decide_eq_false h'
  go_enter Tryz.func261,Tryz.ntmps261
  go_wp2
  go_ret
  exact ⟨ret_bool HE.out.symm,rfl⟩

def forbB:ByteArray:=⟨#[0,9,10,13,32,35,47,58,60,62,63,64,91,92,93,94,124]⟩

theorem forb_mem (c:UInt8):forb c=true ↔ ∃ k,∃ h:k<forbB.size,forbB[k]=c:=by
 have key: ∀ n<256,(forb (UInt8.ofNat n)=true ↔ ∃ k,∃ h:k<17,forbL[k]'h=UInt8.ofNat n):=by
  have k2: ∀ n<256,forb (UInt8.ofNat n)=forbL.any (fun x=>x==UInt8.ofNat n):=by decide +kernel
  intro n hn;rw [k2 n hn,List.any_eq_true];constructor
  ·rintro ⟨x,hx,he⟩
   obtain ⟨k,hk,rfl⟩:=List.getElem_of_mem hx
   exact ⟨k,hk,by simpa using he⟩
  ·rintro ⟨k,hk,he⟩
   exact ⟨_,List.getElem_mem hk,by simpa using he⟩
 have:=key c.toNat c.toNat_lt;have e:UInt8.ofNat c.toNat=c:=by simp
 rw [e] at this;exact this

set_option maxHeartbeats 1000000 in
theorem rbad_any (c:UInt8) (w:World):
 Calls Tryz.prog 264 #[.int .u8 (c.toNat:Int)] w fun e w'=>e = .returned (.bool (forb c))∧w=w':=by
 have hc8:=c.toNat_lt;have HS:=hid (show forbB.size=17 from rfl)
 go_enter Tryz.func264,Tryz.ntmps264
 go_wp2
 go_loop [3] (fun i=> ∃ k:Nat,k≤17∧i = .int .i64 k ∧ ∀ j,∀ h:j<forbB.size,j<k→forbB[j]≠c) (fun i=>17 - (intOf i).toNat)
 case atStart=>exact ⟨0,by omega,rfl,fun j _ h=>absurd h (by omega)⟩
 case round=>
  obtain ⟨k,hk,rfl,hno⟩:=hrel
  have HN:=hid hno;clear hno;by_cases hlt:k<17
  ·have hb:k<forbB.size:=hlt
   have hlt':(k:Int)<17:=by omega
   have hx:(ByteArray.mk #[0,9,10,13,32,35,47,58,60,62,63,64,91,92,93,94,124]).size=17:=rfl;have hxk:k<(ByteArray.mk #[0,9,10,13,32,35,47,58,60,62,63,64,91,92,93,94,124]).size:=by rw [hx];exact hlt
   have hb8:(ByteArray.mk #[0,9,10,13,32,35,47,58,60,62,63,64,91,92,93,94,124])[k].toNat<256:=(ByteArray.mk #[0,9,10,13,32,35,47,58,60,62,63,64,91,92,93,94,124])[k].toNat_lt;by_cases he:(ByteArray.mk #[0,9,10,13,32,35,47,58,60,62,63,64,91,92,93,94,124])[k]=c
   ·have HF:=hid ((forb_mem c).2 ⟨k,hb,he⟩)
    have he':((ByteArray.mk #[0,9,10,13,32,35,47,58,60,62,63,64,91,92,93,94,124])[k].toNat:Int)=(c.toNat:Int):=by rw [he]
    go_wp2
    go_ret
    exact ⟨ret_bool HF.out.symm,rfl⟩
   ·have he':(((ByteArray.mk #[0,9,10,13,32,35,47,58,60,62,63,64,91,92,93,94,124])[k].toNat:Int)==(c.toNat:Int))=false:=by
     rw [beq_eq_false_iff_ne];intro e;exact he (UInt8.toNat_inj.1 (by omega))
    have HE:=hid he;clear he
    go_wp2
    go_round
    case rel=>
     refine ⟨k+1,by omega,by go_num,fun j hj hjk=> ?_⟩;by_cases h1:j=k
     ·subst h1;exact HE.out
     ·exact HN.out j hj (by omega)
    case measure=>simp [intOf];omega
  ·have hk17:k=17:=by omega
   subst hk17;have HF:Hid (forb c=false):=by
    refine hid ?_;rw [← Bool.not_eq_true,forb_mem];rintro ⟨k,h,e⟩
    exact HN.out k h h e
   go_wp2
   go_ret
   exact ⟨ret_bool HF.out.symm,rfl⟩

end Go.Proofs.YtolioccofbhliaaGreatDoor

namespace Go.Proofs.YtolioccofbhliaaGreatDoor
open Go.RowKit

set_option maxHeartbeats 400000 in
theorem rown_any (s:ByteArray) (w:World):
 Calls Tryz.prog 175 #[.string s] w fun e w'=>e = .returned (.int .i64 (ownV s.data.toList))∧w=w':=by
 by_cases h1:s.data.toList=sHttp
 ·have HN:=hid (show ownV s.data.toList=80 by rw [h1];rfl)
  have e1:=beq_yes s [104,116,116,112] h1
  clear h1
  go_enter Tryz.func175,Tryz.ntmps175
  go_wp2
  go_ret
  rw [HN.out];exact ⟨rfl,rfl⟩
 ·have e1:=beq_no s [104,116,116,112] h1
  by_cases h2:s.data.toList=sWs
  ·have HN:=hid (show ownV s.data.toList=80 by rw [h2];rfl)
   have e2:=beq_yes s [119,115] h2
   clear h1 h2
   go_enter Tryz.func175,Tryz.ntmps175
   go_wp2
   go_ret
   rw [HN.out];exact ⟨rfl,rfl⟩
  ·have e2:=beq_no s [119,115] h2
   by_cases h3:s.data.toList=sHttps
   ·have HN:=hid (show ownV s.data.toList=443 by rw [h3];rfl)
    have e3:=beq_yes s [104,116,116,112,115] h3
    clear h1 h2 h3
    go_enter Tryz.func175,Tryz.ntmps175
    go_wp2
    go_ret
    rw [HN.out];exact ⟨rfl,rfl⟩
   ·have e3:=beq_no s [104,116,116,112,115] h3
    by_cases h4:s.data.toList=sWss
    ·have HN:=hid (show ownV s.data.toList=443 by rw [h4];rfl)
     have e4:=beq_yes s [119,115,115] h4
     clear h1 h2 h3 h4
     go_enter Tryz.func175,Tryz.ntmps175
     go_wp2
     go_ret
     rw [HN.out];exact ⟨rfl,rfl⟩
    ·have e4:=beq_no s [119,115,115] h4
     by_cases h5:s.data.toList=sFtp
     ·have HN:=hid (show ownV s.data.toList=21 by rw [h5];rfl)
      have e5:=beq_yes s [102,116,112] h5
      clear h1 h2 h3 h4 h5
      go_enter Tryz.func175,Tryz.ntmps175
      go_wp2
      go_ret
      rw [HN.out];exact ⟨rfl,rfl⟩
     ·have e5:=beq_no s [102,116,112] h5
      have HN:=hid (show ownV s.data.toList = -1 by rw [ownV,if_neg (by rintro (h | h);exact h1 h;exact h2 h),if_neg (by rintro (h | h);exact h3 h;exact h4 h),if_neg h5]);clear h1 h2 h3 h4 h5
      go_enter Tryz.func175,Tryz.ntmps175
      go_wp2
      go_ret
      rw [HN.out];exact ⟨rfl,rfl⟩

set_option maxHeartbeats 400000 in
theorem rspecial_any (s:ByteArray) (w:World):
 Calls Tryz.prog 129 #[.string s] w fun e w'=>e = .returned (.bool (specV s.data.toList))∧w=w':=by
 have HS:=hid (show specV s.data.toList=decide (0≤ownV s.data.toList) from rfl)
 go_enter Tryz.func129,Tryz.ntmps129
 go_wp2_with (go_at_call 175;refine (rown_any _ _).mono ?_;rintro e w' ⟨rfl,rfl⟩)
 go_ret
 rw [HS.out];exact ⟨rfl,rfl⟩

end Go.Proofs.YtolioccofbhliaaGreatDoor

namespace Go.Proofs.YtolioccofbhliaaGreatDoor
open Go.RowKit

theorem skip_cons (l:List UInt8):skip47 (47::l)=skip47 l:=rfl

theorem skip_stop {c:UInt8} {l:List UInt8} (h:c≠47):skip47 (c::l)=c::l:=by
 have:(c==47)=false:=by rw [beq_eq_false_iff_ne];exact h
 unfold skip47;rw [List.dropWhile_cons,this];rfl

set_option maxHeartbeats 400000 in
theorem rover_any (s:ByteArray) (w:World) (hs:s.size≤4000000000):
 Calls Tryz.prog 213 #[.string s] w fun e w'=>e = .returned (.string ⟨(skip47 s.data.toList).toArray⟩)∧w=w':=by
 go_enter Tryz.func213,Tryz.ntmps213
 go_wp2
 go_loop [0] (fun v=> ∃ T:ByteArray,v = .string T∧T.size≤s.size∧skip47 T.data.toList=skip47 s.data.toList) (fun v=>match v with | .string T=>T.size | _=>0)
 case atStart=>exact ⟨s,rfl,Nat.le_refl _,rfl⟩
 case round=>
  obtain ⟨T,rfl,hTs,hsk⟩:=hrel
  have HS:=hid hsk;clear hsk;by_cases h0:0<T.size
  ·have h0':(0:Int)<(T.size:Int):=by omega
   obtain ⟨r,hr⟩:=list_one T h0
   by_cases hc:T[0]=47
   ·have e47:((T[0].toNat:Int)==47)=true:=byte_is hc
    have h1:(1:Int)≤(T.size:Int):=by omega
    have HN:=hid (show skip47 (T.extract 1 T.size).data.toList=skip47 s.data.toList by
     rw [extract_drop,← HS.out,hr,hc,skip_cons];rfl)
    clear hc hr
    go_wp2
    go_round
    case rel=>exact ⟨T.extract 1 T.size,rfl,by simp;omega,HN.out⟩
    case measure=>simp;omega
   ·have e47:((T[0].toNat:Int)==47)=false:=byte_not hc
    have HN:=hid (show T=⟨(skip47 s.data.toList).toArray⟩ by
     rw [← HS.out,hr,skip_stop hc,← hr,Lib.mk_data])
    clear hc hr
    go_wp2
    go_ret
    rw [← HN.out];exact ⟨rfl,rfl⟩
  ·have h0': ¬ (0:Int)<(T.size:Int):=by omega
   have HN:=hid (show T=⟨(skip47 s.data.toList).toArray⟩ by
    have:T.data.toList=[]:=List.eq_nil_of_length_eq_zero (by rw [← Lib.size_eq];omega)
    rw [← HS.out,this];exact ba_ext this)
   go_wp2
   go_ret
   rw [← HN.out];exact ⟨rfl,rfl⟩

set_option maxHeartbeats 1000000 in
theorem rahead_any (s:ByteArray) (a b:UInt8) (w:World) (hs:s.size≤4000000000):
 Calls Tryz.prog 217 #[.string s,.int .u8 (a.toNat:Int),.int .u8 (b.toNat:Int)] w fun e w'=>e = .returned (.tuple #[.string ⟨(aheadV [a,b] s.data.toList).1.toArray⟩,.string ⟨(aheadV [a,b] s.data.toList).2.toArray⟩])∧Below w.heap.size w w':=by
 go_enter Tryz.func217,Tryz.ntmps217
 go_wp2
 go_loop [8] (fun i=> ∃ k:Nat,k≤s.size∧i = .int .i64 k∧Lib.NoAny s.data.toList [a,b] k) (fun i=>s.size - (intOf i).toNat)
 case atStart=>exact ⟨0,Nat.zero_le _,rfl,Lib.NoAny.zero _ _⟩
 case round=>
  obtain ⟨k,hk,rfl,hno⟩:=hrel
  have HN:=hid hno;clear hno;have ha8:=a.toNat_lt;have hb8:=b.toNat_lt;by_cases hlt:k<s.size
  ·have hxl:s.data.toList[k]? = some s[k]:=Lib.data_getElem? s k hlt
   have hk':(k:Int)≤(s.size:Int):=by omega
   by_cases hin:[a,b].contains s[k]=true
   ·have hidx:=Lib.indexAny_hit HN.out hxl hin
    have HV:=hid (show aheadV [a,b] s.data.toList=(s.data.toList.take k,s.data.toList.drop k) by
     rcases ahead_index [a,b] s.data.toList with ⟨h1,_⟩ | ⟨i,hi,h1,h2⟩
     ·rw [h1] at hidx;omega
     ·have:i=k:=by rw [h1] at hidx;omega
      rw [h2,this])
    have hcase:((s[k].toNat:Int)==(a.toNat:Int))=true∨(((s[k].toNat:Int)==(a.toNat:Int))=false∧((s[k].toNat:Int)==(b.toNat:Int))=true):=by
     by_cases h1:s[k]=a
     ·exact .inl (byte_is h1)
     ·refine .inr ⟨byte_not h1,byte_is ?_⟩
      simp at hin;rcases hin with h | h
      ·exact absurd h h1
      ·exact h
    clear hin hidx hxl;rcases hcase with e1 | ⟨e1,e2⟩
    all_goals
     go_wp2
     go_region
     go_wp2
     go_ret2
     refine ⟨?_,(Below.refl _ w).drew⟩
     rw [HV.out];refine ret_ss ?_ ?_
     ·exact ba_ext (by rw [Lib.extract_data];simp)
     ·exact ba_ext (by rw [extract_drop])
   ·have hin':[a,b].contains s[k]=false:=by simpa using hin
    have HN2:=hid (HN.out.succ hxl hin');have e1:((s[k].toNat:Int)==(a.toNat:Int))=false:=byte_not (fun e=>hin (by simp [e]));have e2:((s[k].toNat:Int)==(b.toNat:Int))=false:=byte_not (fun e=>hin (by simp [e]));clear hin hin' hxl
    go_wp2
    go_round
    case rel=>exact ⟨k+1,by omega,by go_num,HN2.out⟩
    case measure=>simp [intOf];omega
  ·have hke:k=s.data.toList.length:=by simp;omega
   have hidx:=Lib.indexAny_none (by rw [← hke];exact HN.out)
   have HV:=hid (show aheadV [a,b] s.data.toList=(s.data.toList,[]) by
    rcases ahead_index [a,b] s.data.toList with ⟨_,h2⟩ | ⟨i,hi,h1,h2⟩
    ·exact h2
    ·rw [h1] at hidx;omega)
   clear hidx
   go_wp2
   go_ret2
   rw [HV.out];exact ⟨ret_ss (Lib.mk_data s).symm rfl,Below.refl _ _⟩

theorem ret_ssb {a b c d:ByteArray} {x y:Bool} (h:a=b) (g:c=d) (k:x=y):Ending.returned (.tuple #[.string a,.string c,.bool x]) = .returned (.tuple #[.string b,.string d,.bool y]):=by rw [h,g,k]

set_option maxHeartbeats 1000000 in
theorem rpart_any (s:ByteArray) (c:UInt8) (w:World) (hs:s.size≤4000000000):
 Calls Tryz.prog 113 #[.string s,.int .u8 (c.toNat:Int)] w fun e w'=>e = .returned (.tuple #[.string ⟨(part c s.data.toList).1.toArray⟩,.string ⟨(part c s.data.toList).2.1.toArray⟩,.bool (part c s.data.toList).2.2])∧Below w.heap.size w w':=by
 go_enter Tryz.func113,Tryz.ntmps113
 go_wp2
 go_loop [7] (fun i=> ∃ k:Nat,k≤s.size∧i = .int .i64 k∧c ∉ s.data.toList.take k) (fun i=>s.size - (intOf i).toNat)
 case atStart=>exact ⟨0,Nat.zero_le _,rfl,by simp⟩
 case round=>
  obtain ⟨k,hk,rfl,hno⟩:=hrel
  have HN:=hid hno;clear hno;have hc8:=c.toNat_lt;by_cases hlt:k<s.size
  ·have hk':(k:Int)≤(s.size:Int):=by omega
   have hk2:(k:Int)+1≤(s.size:Int):=by omega
   by_cases he:s[k]=c
   ·have HV:=hid (show part c s.data.toList=(s.data.toList.take k,s.data.toList.drop (k+1),true) by
     have e:s.data.toList=s.data.toList.take k++c::s.data.toList.drop (k+1):=by
      have:=(List.take_append_drop k s.data.toList).symm;rw [drop_cons s k hlt,he] at this;exact this
     have h2:=part_some c (s.data.toList.take k) (s.data.toList.drop (k+1)) HN.out;rw [← e] at h2;exact h2)
    have e1:((s[k].toNat:Int)==(c.toNat:Int))=true:=byte_is he;clear he
    go_wp2
    go_region
    go_wp2
    go_ret3
    refine ⟨?_,(Below.refl _ w).drew⟩
    rw [HV.out];refine ret_ssb ?_ ?_ rfl
    ·exact ba_ext (by rw [Lib.extract_data];simp)
    ·first | exact ba_ext (by rw [extract_drop]) | exact ba_ext (by rw [show ((k:Int)+1).toNat=k+1 by omega,extract_drop])
   ·have HT:=hid (take_snoc s k hlt)
    have e1:((s[k].toNat:Int)==(c.toNat:Int))=false:=byte_not he;have HN2:=hid (show c ∉ s.data.toList.take (k+1) by
     rw [HT.out,List.mem_append]
     rintro (h | h)
     ·exact HN.out h
     ·simp at h;exact he h.symm)
    clear he
    go_wp2
    go_round
    case rel=>exact ⟨k+1,by omega,by go_num,HN2.out⟩
    case measure=>simp [intOf];omega
  ·have hno:=HN.out
   rw [take_all s k hlt] at hno;have HV:=hid (part_none c _ hno);clear hno
   go_wp2
   go_ret3
   rw [HV.out];exact ⟨ret_ssb (Lib.mk_data s).symm rfl rfl,Below.refl _ _⟩

end Go.Proofs.YtolioccofbhliaaGreatDoor

namespace Go.Proofs.YtolioccofbhliaaGreatDoor
open Go.RowKit

def slTo (l:List UInt8) (k:Nat):List UInt8:=(l.take k).map slC++l.drop k

theorem slTo_len (l:List UInt8) (k:Nat):(slTo l k).length=l.length:=by simp [slTo];omega

theorem slTo_zero (l:List UInt8):slTo l 0=l:=by simp [slTo]

theorem slTo_at (l:List UInt8) (k:Nat) (h:k<l.length) (h':k<(slTo l k).length):(slTo l k)[k]=l[k]:=by
 have e:(slTo l k)[k]? = some l[k]:=by
  unfold slTo;have e1:((l.take k).map slC).length=k:=by simp;omega
  rw [List.getElem?_append_right (by omega),e1,Nat.sub_self,List.getElem?_drop,Nat.add_zero,List.getElem?_eq_getElem h]
 exact (List.getElem?_eq_some_iff.1 e).2

theorem slTo_succ (l:List UInt8) (k:Nat) (h:k<l.length):slTo l (k+1)=(slTo l k).set k (slC l[k]):=by
 unfold slTo;rw [List.set_append_right _ _ (by simp;omega)];have e:k - ((l.take k).map slC).length=0:=by simp;omega
 rw [e,List.drop_eq_getElem_cons h,List.set_cons_zero,List.take_add_one,List.getElem?_eq_getElem h,List.map_append]
 simp

theorem slash_at (l:List UInt8) (k:Nat) (hno: ∀ c ∈ l.take k,c≠63) (hk:l.length≤k∨l[k]? = some 63):slashV l=slTo l k:=by
 have e:l=l.take k++l.drop k:=(List.take_append_drop k l).symm;have hp: ∀ c ∈ l.take k,(fun c:UInt8=> !([63]:List UInt8).contains c) c=true:=fun c hc=>by
  have:=hno c hc;simp [this]
 have h1:(aheadV [63] l).1=l.take k∧(aheadV [63] l).2=l.drop k:=by
  have h3:(l.drop k).takeWhile (fun c:UInt8=> !([63]:List UInt8).contains c)=[]∧(l.drop k).dropWhile (fun c:UInt8=> !([63]:List UInt8).contains c)=l.drop k:=by
   rcases hk with h | h
   ·rw [List.drop_of_length_le h];exact ⟨rfl,rfl⟩
   ·obtain ⟨hlt,hc⟩:=List.getElem?_eq_some_iff.1 h
    rw [List.drop_eq_getElem_cons hlt,hc];simp
  unfold aheadV;constructor
  ·show l.takeWhile _=_
   conv=>lhs;rw [e]
   rw [List.takeWhile_append_of_pos hp,h3.1,List.append_nil]
  ·show l.dropWhile _=_
   conv=>lhs;rw [e]
   rw [List.dropWhile_append_of_pos hp,h3.2]
 rw [slashV,h1.1,h1.2];rfl

set_option maxHeartbeats 1000000 in
theorem rslashes_any (s:ByteArray) (w:World) (hs:s.size≤4000000000):
 Calls Tryz.prog 214 #[.string s] w fun e w'=>e = .returned (.string ⟨(slashV s.data.toList).toArray⟩)∧Below w.heap.size w w':=by
 have hcv:=run_bytes_of_string (P:=Tryz.prog) w 9 28 5 s Tryz.underlying9 Tryz.underlying28 Tryz.underlying5;have hcap:=grownCap_ge w s.size 0 5;have hr0:=rowIs_bytes w 5 s (grownCap w s.size 0 5) hcap;have hb0:Below w.heap.size w (w.drew.alloc (.cells (bytesRow s (grownCap w s.size 0 5)) 5 ((bytesRow s (grownCap w s.size 0 5)).size,(bytesRow s (grownCap w s.size 0 5)).size+1))):=(Below.refl _ w).drew.alloc (Nat.le_refl _) _
 generalize (w.drew.alloc (.cells (bytesRow s (grownCap w s.size 0 5)) 5 ((bytesRow s (grownCap w s.size 0 5)).size,(bytesRow s (grownCap w s.size 0 5)).size+1)))=w0 at hcv hr0 hb0;generalize grownCap w s.size 0 5=cap at hcv hcap
 go_enter Tryz.func214,Tryz.ntmps214
 go_wp2
 clear hcv
 go_loopw [4] (fun i wr=> ∃ k:Nat,k≤s.size∧i = .int .i64 k∧rowIs wr w.heap.size 5 (slTo s.data.toList k)∧Below w.heap.size w wr ∧ ∀ c ∈ s.data.toList.take k,c≠63)
  (fun i _=>s.size - (intOf i).toNat)
 case atStart=>exact ⟨0,Nat.zero_le _,rfl,by rw [slTo_zero];exact hr0,hb0,by simp⟩
 case round=>
  obtain ⟨k,hk,rfl,hr,hbw,hno⟩:=hrel
  have HNo:=hid hno;clear hno;have hgo:(∃ h:k<s.size,s[k]≠63)∨(∃ h:k<s.size,s[k]=63) ∨ ¬ k<s.size:=by
   by_cases h:k<s.size
   ·by_cases h2:s[k]=63
    ·exact .inr (.inl ⟨h,h2⟩)
    ·exact .inl ⟨h,h2⟩
   ·exact .inr (.inr h)
  rcases hgo with ⟨hlt,h63⟩ | hgo
  ·have hl:k<s.data.toList.length:=by simpa using hlt
   have hl':k<(slTo s.data.toList k).length:=by rw [slTo_len];exact hl
   have hc:=hr.cell k hl';rw [slTo_at _ _ hl] at hc;have hf:=hr.frozen k hl';have hsucc:=slTo_succ s.data.toList k hl;have hat:=slTo_at s.data.toList k hl hl';have hsk:s.data.toList[k]=s[k]:=rfl;rw [hsk] at hc hsucc hat;have HS:=hid hsucc;have HAt:=hid hat;have HR:=hid hr;have HNo2:=hid (show ∀ c ∈ s.data.toList.take (k+1),c≠63 by
    rw [take_snoc s k hlt];intro c hc;rcases List.mem_append.1 hc with h | h
    ·exact HNo.out c h
    ·simp at h;rw [h];exact h63)
   have hc8:s[k].toNat<256:=s[k].toNat_lt;have e63:((s[k].toNat:Int) != 63)=true:=by
    have:((s[k].toNat:Int)==63)=false:=byte_not h63;simp at this ⊢;exact this
   clear hsucc hat hsk hr h63;by_cases h92:s[k]=92
   ·have e92:((s[k].toNat:Int)==92)=true:=byte_is h92
    have HC:=hid (show slC s[k]=47 by rw [h92];rfl);clear h92
    go_wp2
    go_roundw
    case rel=>
     refine ⟨k+1,by omega,by go_num,?_,hbw.setCell (p:=⟨w.heap.size,k,none⟩) (Nat.le_refl _) _,HNo2.out⟩;rw [HS.out,HC.out]
     exact HR.out.set k 47
    case measure=>simp [intOf];omega
   ·have e92:((s[k].toNat:Int)==92)=false:=byte_not h92
    have HC:=hid (show slC s[k]=s[k] by rw [slC,if_neg h92]);clear h92
    go_wp2
    go_roundw
    case rel=>
     refine ⟨k+1,by omega,by go_num,?_,hbw,HNo2.out⟩;have e:slC s[k]=(slTo s.data.toList k)[k]:=by rw [HC.out,HAt.out]
     rw [HS.out,e,List.set_getElem_self]
     exact HR.out
    case measure=>simp [intOf];omega
  ·have hfin:slashV s.data.toList=slTo s.data.toList k:=slash_at _ k HNo.out (by
    rcases hgo with ⟨h,h2⟩ | h
    ·exact .inr (by rw [Lib.data_getElem? s k h,h2])
    ·exact .inl (by simp;omega))
   have hr':rowIs wr w.heap.size 5 (slashV s.data.toList):=by rw [hfin];exact hr
   have hcv:=hr'.string (P:=Tryz.prog) (src:=28) (dst:=9) (cap:=cap) Tryz.underlying28 Tryz.underlying5 Tryz.underlying9;rw [show (slashV s.data.toList).length=s.size by rw [slash_len];simp] at hcv;rcases hgo with ⟨hlt,h2⟩ | hlt
   ·have hl:k<s.data.toList.length:=by simpa using hlt
    have hl':k<(slTo s.data.toList k).length:=by rw [slTo_len];exact hl
    have hc:=hr.cell k hl';rw [slTo_at _ _ hl,show s.data.toList[k]=s[k] from rfl,h2] at hc;clear hr hr' hfin h2
    go_wp2
    go_ret
    exact ⟨rfl,hbw⟩
   ·clear hr hr' hfin
    go_wp2
    go_ret
    exact ⟨rfl,hbw⟩

end Go.Proofs.YtolioccofbhliaaGreatDoor

namespace Go.Proofs.YtolioccofbhliaaGreatDoor
open Go.RowKit

theorem schR_yes {c:UInt8} (h:schC c=true):letterI c.toNat=true∨(letterI c.toNat=false∧digitI c.toNat=true)∨(letterI c.toNat=false∧digitI c.toNat=false∧(((c.toNat:Int) != 43)=false∨(((c.toNat:Int) != 43)=true∧((c.toNat:Int) != 45)=false)∨(((c.toNat:Int) != 43)=true∧((c.toNat:Int) != 45)=true∧((c.toNat:Int) != 46)=false))):=by
 have key: ∀ n<256,schC (UInt8.ofNat n)=true→letterI (UInt8.ofNat n).toNat=true∨(letterI (UInt8.ofNat n).toNat=false∧digitI (UInt8.ofNat n).toNat=true)∨(letterI (UInt8.ofNat n).toNat=false∧digitI (UInt8.ofNat n).toNat=false∧((((UInt8.ofNat n).toNat:Int) != 43)=false∨((((UInt8.ofNat n).toNat:Int) != 43)=true∧(((UInt8.ofNat n).toNat:Int) != 45)=false)∨((((UInt8.ofNat n).toNat:Int) != 43)=true∧(((UInt8.ofNat n).toNat:Int) != 45)=true∧(((UInt8.ofNat n).toNat:Int) != 46)=false))):=by decide +kernel
 have:=key c.toNat c.toNat_lt;have e:UInt8.ofNat c.toNat=c:=by simp
 rw [e] at this;exact this h

theorem schR_no {c:UInt8} (h:schC c=false):letterI c.toNat=false∧digitI c.toNat=false∧((c.toNat:Int) != 43)=true∧((c.toNat:Int) != 45)=true∧((c.toNat:Int) != 46)=true:=by
 have key: ∀ n<256,schC (UInt8.ofNat n)=false→letterI (UInt8.ofNat n).toNat=false∧digitI (UInt8.ofNat n).toNat=false∧(((UInt8.ofNat n).toNat:Int) != 43)=true∧(((UInt8.ofNat n).toNat:Int) != 45)=true∧(((UInt8.ofNat n).toNat:Int) != 46)=true:=by decide +kernel
 have:=key c.toNat c.toNat_lt;have e:UInt8.ofNat c.toNat=c:=by simp
 rw [e] at this;exact this h

theorem letter_sch {c:UInt8} (h:letterI c.toNat=true):schC c=true:=by unfold schC;rw [h];rfl

theorem part_at (c:UInt8) (l:List UInt8) (k:Nat) (hk:k<l.length) (hno:c ∉ l.take k) (hne:l[k]≠c):(part c l).1.take (k+1)=l.take (k+1):=by
 rcases first_split c l with h | ⟨a,r,h,rfl⟩
 ·rw [part_none c l h]
 ·rw [part_some c a r h]
  have hka:k<a.length:=by
   rcases Nat.lt_or_ge k a.length with h1 | h1
   ·exact h1
   ·exfalso
    rcases Nat.eq_or_lt_of_le h1 with h2 | h2
    ·apply hne
     simp [← h2]
    ·apply hno
     rw [List.take_append];refine List.mem_append.2 (.inr ?_);rw [show k - a.length=(k - a.length - 1)+1 by omega,List.take_succ_cons];simp
  rw [List.take_append_of_le_length (by omega)]

theorem scheme_bad (l:List UInt8) (k:Nat) (hk:k<l.length) (hno:58 ∉ l.take k) (hne:l[k]≠58) (hb:schC l[k]=false):schemeV l=none:=by
 unfold schemeV;have h1:=part_at 58 l k hk hno hne;have hm:l[k] ∈ (part 58 l).1:=by
  have e0:l.take (k+1)=l.take k++[l[k]]:=by rw [List.take_add_one,List.getElem?_eq_getElem hk];rfl
  have:l[k] ∈ l.take (k+1):=by rw [e0];exact List.mem_append.2 (.inr (List.mem_singleton.2 rfl))
  rw [← h1] at this;exact List.mem_of_mem_take this
 have h2:schOk (part 58 l).1=false:=by
  unfold schOk;have:(part 58 l).1.all schC=false:=by rw [List.all_eq_false];exact ⟨_,hm,by simp [hb]⟩
  rw [this,Bool.and_false]
 rw [h2,Bool.and_false];rfl

theorem scheme_first (c:UInt8) (r:List UInt8) (h:letterI c.toNat=false):schemeV (c::r)=none:=by
 unfold schemeV;have h2:schOk (part 58 (c::r)).1=false:=by
  rw [part];split
  ·rfl
  ·show (letterI c.toNat&&_)=false
   rw [h];rfl
 rw [h2,Bool.and_false];rfl

theorem scheme_end (l:List UInt8) (h:58 ∉ l):schemeV l=none:=by
 unfold schemeV;rw [part_none 58 l h];rfl

theorem scheme_hit (s:ByteArray) (k:Nat) (hk:k<s.size) (h0:0<k) (hno:58 ∉ s.data.toList.take k) (hc:s[k]=58) (hall:(s.data.toList.take k).all schC=true) (hl:letterI (s[0]'(by omega)).toNat=true):schemeV s.data.toList=some (low (s.data.toList.take k),s.data.toList.drop (k+1)):=by
 have e:s.data.toList=s.data.toList.take k++58::s.data.toList.drop (k+1):=by
  have:=(List.take_append_drop k s.data.toList).symm;rw [drop_cons s k hk,hc] at this;exact this
 have h2:=part_some 58 (s.data.toList.take k) (s.data.toList.drop (k+1)) hno;rw [← e] at h2;unfold schemeV;rw [h2];have h3:schOk (s.data.toList.take k)=true:=by
  obtain ⟨r,er⟩:=list_one s (by omega)
  have e4:s.data.toList.take k=s[0]'(by omega)::r.take (k - 1):=by
   rw [er]
   cases k with
   | zero=>omega
   | succ m=>rfl
  unfold schOk;rw [hall,Bool.and_true,e4]
  exact hl
 simp only [h3,Bool.and_self,if_true]

def schP (o:Option (List UInt8×List UInt8)):Value:= .tuple #[.string ⟨(o.getD ([],[])).1.toArray⟩,.string ⟨(o.getD ([],[])).2.toArray⟩,.bool o.isSome]

set_option maxHeartbeats 2000000 in
set_option maxRecDepth 100000 in
theorem rscheme_any (s:ByteArray) (w:World) (hs:s.size≤4000000000):
 Calls Tryz.prog 173 #[.string s] w fun e w'=>e = .returned (schP (schemeV s.data.toList))∧Below w.heap.size w w':=by
 go_enter Tryz.func173,Tryz.ntmps173
 go_wp2
 go_loop [5] (fun i=> ∃ k:Nat,k≤s.size∧i = .int .i64 k∧58 ∉ s.data.toList.take k∧(s.data.toList.take k).all schC=true∧(0<k → ∃ h:0<s.size,letterI (s[0]'h).toNat=true)) (fun i=>s.size - (intOf i).toNat)
 case atStart=>exact ⟨0,Nat.zero_le _,rfl,by simp,rfl,fun h=>absurd h (by omega)⟩
 case round=>
  obtain ⟨k,hk,rfl,hno,hall,hlet⟩:=hrel
  have HNo:=hid hno;have HAl:=hid hall;have HLe:=hid hlet;clear hno hall hlet;by_cases hlt:k<s.size
  ·have hl:k<s.data.toList.length:=by simpa using hlt
   have HT:=hid (take_snoc s k hlt);by_cases h58:s[k]=58
   ·have e58:((s[k].toNat:Int)==58)=true:=byte_is h58
    by_cases hk0:0<k
    ·obtain ⟨hz,hlz⟩:=HLe.out hk0
     have HN:=hid (scheme_hit s k hlt hk0 HNo.out h58 HAl.out hlz);have hk0':(0:Int)<(k:Int):=by omega
     have hk1:(k:Int)≤(s.size:Int):=by omega
     have hk2:(k:Int)+1≤(s.size:Int):=by omega
     have hk3:(0:Int)≤(k:Int)+1:=by omega
     have hk4:(0:Int)≤(k:Int)+1∧(k:Int)+1≤(s.size:Int):=by omega
     have hk5:IntKind.i64.wrap ((k:Int)+1)=(k:Int)+1:=by rw [IntKind.wrap_i64];omega
     obtain ⟨A,hA⟩: ∃ A:ByteArray,A=s.extract 0 k:=⟨_,rfl⟩
     have hAl:A.data.toList=s.data.toList.take k:=by rw [hA,Lib.extract_data];simp
     have hAs:A.size≤4000000000:=by rw [hA];simp<;>omega
     have HLo:Hid (∀ w:World,Calls Tryz.prog 75 #[.string (s.extract 0 k)] w fun e w'=>e = .returned (.string ⟨(low (s.data.toList.take k)).toArray⟩)∧Below w.heap.size w w'):=fun w=>by
      have:=rlower_any A w (by omega)
      rw [hAl] at this;rw [← hA];exact this
     clear h58 hlz hA hAl
     go_wp2
     go_region_with (go_at_call 75;refine (HLo.out _).mono ?_;rintro e w2 ⟨rfl,hb2⟩)
     all_goals
      have hb02:Below w.heap.size w w2:=by first | exact hb2 | exact (Below.refl _ w).drew.trans hb2
      have HB2:=hid hb02;clear hb2 hb02
      go_wp2
      go_ret3
      refine ⟨?_,HB2.out⟩
      rw [HN.out];refine ret_ssb rfl ?_ rfl
      first | exact ba_ext (by rw [extract_drop];rfl) | exact ba_ext (by rw [show ((k:Int)+1).toNat=k+1 by omega,extract_drop];rfl)
    ·obtain rfl:k=0:=by omega
     have hL:letterI (s[0].toNat:Int)=false:=by rw [h58];rfl
     have HN:=hid (show schemeV s.data.toList=none by
      obtain ⟨r,er⟩:=list_one s hlt
      rw [er];exact scheme_first _ _ hL)
     clear h58 hk0
     go_wp2_with (go_at_call 210;refine (rletter_any _ _).mono ?_;rintro e w' ⟨rfl,rfl⟩;rw [hL])
     go_ret3
     rw [HN.out];exact ⟨rfl,Below.refl _ _⟩
   ·have e58:((s[k].toNat:Int)==58)=false:=byte_not h58
    have HNo2:=hid (show 58 ∉ s.data.toList.take (k+1) by
     rw [HT.out,List.mem_append]
     rintro (h | h)
     ·exact HNo.out h
     ·exact h58 (List.mem_singleton.1 h).symm)
    by_cases hk0:0<k
    ·have hkz:((k:Int)==0)=false:=by rw [beq_eq_false_iff_ne];omega
     by_cases hb:schC s[k]=true
     ·have HA2:=hid (all_snoc s k hlt HAl.out hb)
      have HL2:=hid (HLe.out hk0);rcases schR_yes hb with hL | ⟨hL,hD⟩ | ⟨hL,hD,hd⟩
      ·clear hb h58
       go_wp2_with (go_at_call 210;refine (rletter_any _ _).mono ?_;rintro e w' ⟨rfl,rfl⟩;rw [hL])
       go_round
       case rel=>exact ⟨k+1,by omega,by go_num,HNo2.out,HA2.out,fun _=>HL2.out⟩
       case measure=>simp [intOf];omega
      ·clear hb h58
       go_wp2_with (first | (go_at_call 210;refine (rletter_any _ _).mono ?_;rintro e w' ⟨rfl,rfl⟩;rw [hL]) | (go_at_call 159;refine (rdigit_any _ _).mono ?_;rintro e w' ⟨rfl,rfl⟩;rw [hD]))
       go_round
       case rel=>exact ⟨k+1,by omega,by go_num,HNo2.out,HA2.out,fun _=>HL2.out⟩
       case measure=>simp [intOf];omega
      ·clear hb h58
       rcases hd with hd | ⟨hd,hd2⟩ | ⟨hd,hd2,hd3⟩
       all_goals
        go_wp2_with (first | (go_at_call 210;refine (rletter_any _ _).mono ?_;rintro e w' ⟨rfl,rfl⟩;rw [hL]) | (go_at_call 159;refine (rdigit_any _ _).mono ?_;rintro e w' ⟨rfl,rfl⟩;rw [hD]))
        go_round
        case rel=>exact ⟨k+1,by omega,by go_num,HNo2.out,HA2.out,fun _=>HL2.out⟩
        case measure=>simp [intOf];omega
     ·have hb':schC s[k]=false:=by simpa using hb
      have HN:=hid (scheme_bad s.data.toList k hl HNo.out h58 hb');obtain ⟨hL,hD,h43,h45,h46⟩:=schR_no hb'
      clear hb hb' h58
      go_wp2_with (first | (go_at_call 210;refine (rletter_any _ _).mono ?_;rintro e w' ⟨rfl,rfl⟩;rw [hL]) | (go_at_call 159;refine (rdigit_any _ _).mono ?_;rintro e w' ⟨rfl,rfl⟩;rw [hD]))
      go_ret3
      rw [HN.out];exact ⟨rfl,Below.refl _ _⟩
    ·obtain rfl:k=0:=by omega
     by_cases hL:letterI (s[0].toNat:Int)=true
     ·have HA2:=hid (all_snoc s 0 hlt HAl.out (letter_sch hL))
      have HL2:=hid (show ∃ h:0<s.size,letterI (s[0]'h).toNat=true from ⟨hlt,hL⟩);clear h58 hk0
      go_wp2_with (go_at_call 210;refine (rletter_any _ _).mono ?_;rintro e w' ⟨rfl,rfl⟩;rw [hL])
      go_round
      case rel=>exact ⟨1,by omega,by go_num,HNo2.out,HA2.out,fun _=>HL2.out⟩
      case measure=>simp [intOf];omega
     ·have hL':letterI (s[0].toNat:Int)=false:=by simpa using hL
      have HN:=hid (show schemeV s.data.toList=none by
       obtain ⟨r,er⟩:=list_one s hlt
       rw [er];exact scheme_first _ _ hL')
      clear h58 hk0 hL
      go_wp2_with (go_at_call 210;refine (rletter_any _ _).mono ?_;rintro e w' ⟨rfl,rfl⟩;rw [hL'])
      go_ret3
      rw [HN.out];exact ⟨rfl,Below.refl _ _⟩
  ·have hno:=HNo.out
   rw [take_all s k hlt] at hno;have HN:=hid (scheme_end _ hno);clear hno
   go_wp2
   go_ret3
   rw [HN.out];exact ⟨rfl,Below.refl _ _⟩

end Go.Proofs.YtolioccofbhliaaGreatDoor
