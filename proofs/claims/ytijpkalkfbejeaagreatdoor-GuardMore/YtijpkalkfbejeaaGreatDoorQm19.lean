/- Walks and plain facts. -/
import Derived.Test.YtijpkalkfbejeaaGreatDoorQm14
set_option linter.unusedSimpArgs false
set_option linter.unusedVariables false
set_option maxHeartbeats 16000000
set_option maxRecDepth 100000

namespace Go.Proofs.YtijpkalkfbejeaaGreatDoor
open Go.RowKit
theorem inSet_outer (c set:Int) (h: ¬ (1<=set/\set<=6)):inSetI c set=false:=by
 have: ¬ inSetP c set:=fun h'=>h h'.1
 simp [inSetI,this]
theorem rin_2 (c:Int) (w:World):
 Calls Tryz.prog 63 #[.int .u8 c,.int .i64 2] w fun e w'=>e = .returned (.bool (inSetI c 2))/\w=w':=by
 have HF:=hid (setL_in c 2 (by omega));have hc:c<32∨(32<=c/\126<c)∨(32<=c/\c<=126):=by omega
 rcases hc with hc | ⟨hc1,hc2⟩ | ⟨hc1,hc2⟩
 all_goals
  go_enter Tryz.func63,Tryz.ntmps63
  go_wp2
  generalize hT:ByteArray.mk #[32,34,60,62,96]=t
  have hts:t.size<=19:=by rw [<- hT];decide
  have HA:Hid (inTo c t.data.toList t.size=inSetI c 2):=hid ((inTo_all c t).trans (by rw [<- hT];exact HF.out));clear hT HF
  go_loop [5,7] (fun o j=> ∃ m:Nat,m<=t.size/\j = .int .i64 m/\o = .bool (inTo c t.data.toList m)) (fun _ j=>t.size - (intOf j).toNat)
  case atStart=>exact ⟨0,by omega,rfl,by rw [inTo_zero]<;>(try congr 1)<;>(try simp)<;>omega⟩
  case round=>
   obtain ⟨m,hm,rfl,rfl⟩:=hrel
   by_cases hlt:m<t.size
   ·have HS:=hid (inTo_succ c t m hlt)
    have hot:inTo c t.data.toList m=true∨inTo c t.data.toList m=false:=by cases inTo c t.data.toList m<;>simp
    rcases hot with hot | hot
    all_goals
     go_wp2
     go_round
     case rel=>exact ⟨m+1,by omega,by go_num,by rw [HS.out,hot];simp⟩
     case measure=>simp [intOf];omega
   ·obtain rfl:m=t.size:=by omega
    go_wp2
    go_ret
    exact ⟨ret_bool HA.out,rfl⟩
theorem rin_3 (c:Int) (w:World):
 Calls Tryz.prog 63 #[.int .u8 c,.int .i64 3] w fun e w'=>e = .returned (.bool (inSetI c 3))/\w=w':=by
 have HF:=hid (setL_in c 3 (by omega));have hc:c<32∨(32<=c/\126<c)∨(32<=c/\c<=126):=by omega
 rcases hc with hc | ⟨hc1,hc2⟩ | ⟨hc1,hc2⟩
 all_goals
  go_enter Tryz.func63,Tryz.ntmps63
  go_wp2
  generalize hT:ByteArray.mk #[32,34,35,60,62]=t
  have hts:t.size<=19:=by rw [<- hT];decide
  have HA:Hid (inTo c t.data.toList t.size=inSetI c 3):=hid ((inTo_all c t).trans (by rw [<- hT];exact HF.out));clear hT HF
  go_loop [5,7] (fun o j=> ∃ m:Nat,m<=t.size/\j = .int .i64 m/\o = .bool (inTo c t.data.toList m)) (fun _ j=>t.size - (intOf j).toNat)
  case atStart=>exact ⟨0,by omega,rfl,by rw [inTo_zero]<;>(try congr 1)<;>(try simp)<;>omega⟩
  case round=>
   obtain ⟨m,hm,rfl,rfl⟩:=hrel
   by_cases hlt:m<t.size
   ·have HS:=hid (inTo_succ c t m hlt)
    have hot:inTo c t.data.toList m=true∨inTo c t.data.toList m=false:=by cases inTo c t.data.toList m<;>simp
    rcases hot with hot | hot
    all_goals
     go_wp2
     go_round
     case rel=>exact ⟨m+1,by omega,by go_num,by rw [HS.out,hot];simp⟩
     case measure=>simp [intOf];omega
   ·obtain rfl:m=t.size:=by omega
    go_wp2
    go_ret
    exact ⟨ret_bool HA.out,rfl⟩
theorem rin_4 (c:Int) (w:World):
 Calls Tryz.prog 63 #[.int .u8 c,.int .i64 4] w fun e w'=>e = .returned (.bool (inSetI c 4))/\w=w':=by
 have HF:=hid (setL_in c 4 (by omega));have hc:c<32∨(32<=c/\126<c)∨(32<=c/\c<=126):=by omega
 rcases hc with hc | ⟨hc1,hc2⟩ | ⟨hc1,hc2⟩
 all_goals
  go_enter Tryz.func63,Tryz.ntmps63
  go_wp2
  generalize hT:ByteArray.mk #[32,34,35,60,62,39]=t
  have hts:t.size<=19:=by rw [<- hT];decide
  have HA:Hid (inTo c t.data.toList t.size=inSetI c 4):=hid ((inTo_all c t).trans (by rw [<- hT];exact HF.out));clear hT HF
  go_loop [5,7] (fun o j=> ∃ m:Nat,m<=t.size/\j = .int .i64 m/\o = .bool (inTo c t.data.toList m)) (fun _ j=>t.size - (intOf j).toNat)
  case atStart=>exact ⟨0,by omega,rfl,by rw [inTo_zero]<;>(try congr 1)<;>(try simp)<;>omega⟩
  case round=>
   obtain ⟨m,hm,rfl,rfl⟩:=hrel
   by_cases hlt:m<t.size
   ·have HS:=hid (inTo_succ c t m hlt)
    have hot:inTo c t.data.toList m=true∨inTo c t.data.toList m=false:=by cases inTo c t.data.toList m<;>simp
    rcases hot with hot | hot
    all_goals
     go_wp2
     go_round
     case rel=>exact ⟨m+1,by omega,by go_num,by rw [HS.out,hot];simp⟩
     case measure=>simp [intOf];omega
   ·obtain rfl:m=t.size:=by omega
    go_wp2
    go_ret
    exact ⟨ret_bool HA.out,rfl⟩
theorem rin_5 (c:Int) (w:World):
 Calls Tryz.prog 63 #[.int .u8 c,.int .i64 5] w fun e w'=>e = .returned (.bool (inSetI c 5))/\w=w':=by
 have HF:=hid (setL_in c 5 (by omega));have hc:c<32∨(32<=c/\126<c)∨(32<=c/\c<=126):=by omega
 rcases hc with hc | ⟨hc1,hc2⟩ | ⟨hc1,hc2⟩
 all_goals
  go_enter Tryz.func63,Tryz.ntmps63
  go_wp2
  generalize hT:ByteArray.mk #[32,34,35,60,62,63,94,96,123,125]=t
  have hts:t.size<=19:=by rw [<- hT];decide
  have HA:Hid (inTo c t.data.toList t.size=inSetI c 5):=hid ((inTo_all c t).trans (by rw [<- hT];exact HF.out));clear hT HF
  go_loop [5,7] (fun o j=> ∃ m:Nat,m<=t.size/\j = .int .i64 m/\o = .bool (inTo c t.data.toList m)) (fun _ j=>t.size - (intOf j).toNat)
  case atStart=>exact ⟨0,by omega,rfl,by rw [inTo_zero]<;>(try congr 1)<;>(try simp)<;>omega⟩
  case round=>
   obtain ⟨m,hm,rfl,rfl⟩:=hrel
   by_cases hlt:m<t.size
   ·have HS:=hid (inTo_succ c t m hlt)
    have hot:inTo c t.data.toList m=true∨inTo c t.data.toList m=false:=by cases inTo c t.data.toList m<;>simp
    rcases hot with hot | hot
    all_goals
     go_wp2
     go_round
     case rel=>exact ⟨m+1,by omega,by go_num,by rw [HS.out,hot];simp⟩
     case measure=>simp [intOf];omega
   ·obtain rfl:m=t.size:=by omega
    go_wp2
    go_ret
    exact ⟨ret_bool HA.out,rfl⟩
theorem rin_6 (c:Int) (w:World):
 Calls Tryz.prog 63 #[.int .u8 c,.int .i64 6] w fun e w'=>e = .returned (.bool (inSetI c 6))/\w=w':=by
 have HF:=hid (setL_in c 6 (by omega));have hc:c<32∨(32<=c/\126<c)∨(32<=c/\c<=126):=by omega
 rcases hc with hc | ⟨hc1,hc2⟩ | ⟨hc1,hc2⟩
 all_goals
  go_enter Tryz.func63,Tryz.ntmps63
  go_wp2
  generalize hT:ByteArray.mk #[32,34,35,60,62,63,94,96,123,125,47,58,59,61,64,91,92,93,124]=t
  have hts:t.size<=19:=by rw [<- hT];decide
  have HA:Hid (inTo c t.data.toList t.size=inSetI c 6):=hid ((inTo_all c t).trans (by rw [<- hT];exact HF.out));clear hT HF
  go_loop [5,7] (fun o j=> ∃ m:Nat,m<=t.size/\j = .int .i64 m/\o = .bool (inTo c t.data.toList m)) (fun _ j=>t.size - (intOf j).toNat)
  case atStart=>exact ⟨0,by omega,rfl,by rw [inTo_zero]<;>(try congr 1)<;>(try simp)<;>omega⟩
  case round=>
   obtain ⟨m,hm,rfl,rfl⟩:=hrel
   by_cases hlt:m<t.size
   ·have HS:=hid (inTo_succ c t m hlt)
    have hot:inTo c t.data.toList m=true∨inTo c t.data.toList m=false:=by cases inTo c t.data.toList m<;>simp
    rcases hot with hot | hot
    all_goals
     go_wp2
     go_round
     case rel=>exact ⟨m+1,by omega,by go_num,by rw [HS.out,hot];simp⟩
     case measure=>simp [intOf];omega
   ·obtain rfl:m=t.size:=by omega
    go_wp2
    go_ret
    exact ⟨ret_bool HA.out,rfl⟩
theorem rin_any (c set:Int) (w:World):
 Calls Tryz.prog 63 #[.int .u8 c,.int .i64 set] w fun e w'=>e = .returned (.bool (inSetI c set))/\w=w':=by
 by_cases hset:1<=set/\set<=6
 ·have h':set=1∨set=2∨set=3∨set=4∨set=5∨set=6:=by omega
  rcases h' with rfl | rfl | rfl | rfl | rfl | rfl
  ·exact rin_1 c w
  ·exact rin_2 c w
  ·exact rin_3 c w
  ·exact rin_4 c w
  ·exact rin_5 c w
  ·exact rin_6 c w
 ·have HN:=hid (inSet_outer c set hset)
  have h1:(set==1)=false:=by simp;omega
  have h2:(set==2)=false:=by simp;omega
  have h3:(set==3)=false:=by simp;omega
  have h4:(set==4)=false:=by simp;omega
  have h5:(set==5)=false:=by simp;omega
  have h6:(set==6)=false:=by simp;omega
  clear hset;have hc:c<32∨(32<=c/\126<c)∨(32<=c/\c<=126):=by omega
  rcases hc with hc | ⟨hc1,hc2⟩ | ⟨hc1,hc2⟩
  all_goals
   go_enter Tryz.func63,Tryz.ntmps63
   go_wp2
   go_ret
   exact ⟨ret_bool HN.out.symm,rfl⟩
theorem rpctS_any (s:ByteArray) (set:Int) (w:World) (hs:s.size<=1000000):
 Calls Tryz.prog 42 #[.string s,.int .i64 set] w fun e w'=>e = .returned (.string ⟨(pct set s.data.toList).toArray⟩)/\Below w.heap.size w w':=by
 go_enter Tryz.func42,Tryz.ntmps42
 go_wp2
 go_loopw [5,6] (fun o i wr=> ∃ (k:Nat) (t:ByteArray),k<=s.size/\i = .int .i64 k/\o = .string t/\t.data.toList=pct set (s.data.toList.take k)/\Below w.heap.size w wr) (fun _ i _=>s.size - (intOf i).toNat)
 case atStart=>exact ⟨0,_,Nat.zero_le _,rfl,rfl,rfl,Below.refl _ w⟩
 case round=>
  obtain ⟨k,t,hk,rfl,rfl,ht,hbw⟩:=hrel
  have htl:t.size<=3*k:=by
   rw [Lib.size_eq,ht]
   have:=pct_le set (s.data.toList.take k);simp at this;omega
  have HT:=hid ht;clear ht;by_cases hlt:k<s.size
  ·have HS:=hid (take_snoc s k hlt)
   have HP:=hid (pct_snoc set (s.data.toList.take k) s[k]);by_cases hin:inSetI (s[k].toNat:Int) set=true
   ·go_wp2_with (first | (go_at_call 63;refine (rin_any _ _ _).mono ?_;rintro e w' ⟨rfl,rfl⟩))
    refine (rescape_any s[k] wr).mono ?_;rintro e w1 ⟨rfl,hb1⟩
    have hes:(ByteArray.mk (esc s[k]).toArray).size=3:=rfl
    go_wp2
    go_roundw
    case rel=>
     refine ⟨k+1,_,by omega,by go_num,rfl,?_,hbw.trans (hb1.mono hbw.size)⟩;rw [ByteArray.data_append,Array.toList_append,HT.out,HS.out,HP.out,pct1,if_pos hin]
    case measure=>simp [intOf];omega
   ·have hin':inSetI (s[k].toNat:Int) set=false:=by simpa using hin
    clear hin
    go_wp2_with (first | (go_at_call 63;refine (rin_any _ _ _).mono ?_;rintro e w' ⟨rfl,rfl⟩))
    go_roundw
    case rel=>
     refine ⟨k+1,_,by omega,by go_num,rfl,?_,hbw⟩;rw [ByteArray.data_append,Array.toList_append,HT.out,HS.out,HP.out,pct1,hin',extract_at s k hlt]
     rfl
    case measure=>simp [intOf];omega
  ·have ht:=HT.out
   rw [take_all s k hlt] at ht;have HT2:=hid ht;clear ht HT
   go_wp2
   go_ret
   exact ⟨ret_str HT2.out,hbw⟩
theorem rletter_any (c:Int) (w:World):
 Calls Tryz.prog 43 #[.int .u8 c] w fun e w'=>e = .returned (.bool (letterI c))/\w=w':=by
 go_enter Tryz.func43,Tryz.ntmps43
 go_wp2
 all_goals
  go_ret
  exact ⟨ret_bool (by rw [Bool.eq_iff_iff];simp [letterI];omega),rfl⟩
theorem rint_any (s:ByteArray) (w:World) (hs:s.size<=140737488351232):
 Calls Tryz.prog 84 #[.string s] w fun e w'=>e = .returned (.tuple #[.int .i64 (intV s.data.toList),.bool (intOk s.data.toList)])/\w=w':=by
 go_enter Tryz.func84,Tryz.ntmps84
 go_wp2
 go_loop [4,5] (fun n i=> ∃ k:Nat,k<=s.size/\i = .int .i64 k/\(s.data.toList.take k).all digP=true/\n = .int .i64 (numI (s.data.toList.take k))) (fun _ i=>s.size - (intOf i).toNat)
 case atStart=>exact ⟨0,Nat.zero_le _,rfl,rfl,rfl⟩
 case round=>
  obtain ⟨k,hk,rfl,hall,rfl⟩:=hrel
  have hr:=numI_range _ hall;have HA:=hid hall;clear hall;by_cases hlt:k<s.size
  ·have HT:=hid (take_snoc s k hlt)
   have HN:=hid (numI_snoc (s.data.toList.take k) s[k]);generalize numI (s.data.toList.take k)=n at *
   obtain ⟨hr1,hr2⟩:=hr
   by_cases hd:digitI (s[k].toNat:Int)=true
   ·have hd2:48<=(s[k].toNat:Int)/\(s[k].toNat:Int)<=57:=by simp [digitI] at hd;omega
    obtain ⟨hd3,hd4⟩:=hd2
    by_cases hbig:(9223372036854775807 - ((s[k].toNat:Int) - 48)) / 10<n
    ·have HT2:=hid (show ten n ((s[k].toNat:Int) - 48)=9223372036854775807 by unfold ten;rw [if_pos hbig])
     go_wp2_with (go_at_call 44;refine (rdigit_any _ _).mono ?_;rintro e w' ⟨rfl,rfl⟩)
     go_round
     case rel=>exact ⟨k+1,by omega,by go_num,by rw [HT.out,List.all_append,HA.out];simp [digP,hd],by rw [HT.out,HN.out,HT2.out]⟩
     case measure=>simp [intOf];omega
    ·have HT2:=hid (show ten n ((s[k].toNat:Int) - 48)=n*10+((s[k].toNat:Int) - 48) by unfold ten;rw [if_neg hbig])
     have hbig':n<=(9223372036854775807 - ((s[k].toNat:Int) - 48)) / 10:=by omega
     clear hbig
     go_wp2_with (go_at_call 44;refine (rdigit_any _ _).mono ?_;rintro e w' ⟨rfl,rfl⟩)
     go_round
     case rel=>exact ⟨k+1,by omega,by go_num,by rw [HT.out,List.all_append,HA.out];simp [digP,hd],by rw [HT.out,HN.out,HT2.out]⟩
     case measure=>simp [intOf];omega
   ·have hd':digitI (s[k].toNat:Int)=false:=by simpa using hd
    clear hd
    go_wp2_with (go_at_call 44;refine (rdigit_any _ _).mono ?_;rintro e w' ⟨rfl,rfl⟩)
    go_ret2
    have:s.data.toList.all digP=false:=by
     rw [List.all_eq_false];refine ⟨s[k],?_,by simp [digP,hd']⟩
     have:s[k]=s.data.toList[k]'(by simpa using hlt):=rfl
     rw [this];exact List.getElem_mem _
    exact ⟨ret_ib (by simp [intV,this]) (by simp [intOk,this]),rfl⟩
  ·have ha:=HA.out
   rw [take_all s k hlt] at ha ⊢;have ha':=hid ha;clear ha;by_cases h0:s.size=0
   ·have hl:s.data.toList=[]:=List.eq_nil_of_length_eq_zero (by simpa using h0)
    have HL:=hid hl;clear hl
    go_wp2
    go_ret2
    exact ⟨ret_ib (by rw [HL.out];rfl) (by rw [HL.out];simp [intOk]),rfl⟩
   ·have hl:s.data.toList.isEmpty=false:=by
     rw [List.isEmpty_eq_false_iff];intro h;apply h0;have:=congrArg List.length h;simpa using this
    have HL:=hid hl;clear hl;have h0':(0:Int)<(s.size:Int):=by omega
    go_wp2
    go_ret2
    exact ⟨ret_ib (by simp [intV,ha'.out,HL.out]) (by simp [intOk,ha'.out,HL.out];try omega),rfl⟩
theorem begins_eq (s t:ByteArray) (h:t.size<=s.size):((s.extract 0 t.size).toList==t.toList)=Lib.hasPrefix s.data.toList t.data.toList:=by
 rw [Lib.toList_data,Lib.toList_data,Lib.extract_data,Bool.eq_iff_iff]
 unfold Lib.hasPrefix;rw [List.isPrefixOf_iff_prefix,List.prefix_iff_eq_take,beq_iff_eq]
 simp;exact eq_comm
theorem begins_no (s t:ByteArray) (h: ¬ t.size<=s.size):Lib.hasPrefix s.data.toList t.data.toList=false:=by
 rw [<- Bool.not_eq_true];unfold Lib.hasPrefix;rw [List.isPrefixOf_iff_prefix];intro hp;have:=hp.length_le;simp at this;exact h this
theorem begins_any (s t:ByteArray) (w:World) (hs:s.size<=4000000000) (ht:t.size<=4000000000):
 Calls Tryz.prog 49 #[.string s,.string t] w fun e w'=>e = .returned (.bool (Lib.hasPrefix s.data.toList t.data.toList))/\w=w':=by
 by_cases h:t.size<=s.size
 ·have HE:=hid (begins_eq s t h)
  have h':(t.size:Int)<=(s.size:Int):=by omega
  have hd:=decide_eq_true h'
  go_enter Tryz.func49,Tryz.ntmps49
  go_wp2
  go_ret
  exact ⟨ret_bool (by simpa using HE.out),rfl⟩
 ·have HE:=hid (begins_no s t h)
  have h': ¬ (t.size:Int)<=(s.size:Int):=by omega
  have hd:=decide_eq_false h'
  go_enter Tryz.func49,Tryz.ntmps49
  go_wp2
  go_ret
  exact ⟨ret_bool HE.out.symm,rfl⟩
theorem ends_eq (s t:ByteArray) (h:t.size<=s.size):((s.extract (s.size - t.size) s.size).toList==t.toList)=Lib.hasSuffix s.data.toList t.data.toList:=by
 rw [Lib.toList_data,Lib.toList_data,Lib.extract_data,Bool.eq_iff_iff]
 unfold Lib.hasSuffix;rw [List.isSuffixOf_iff_suffix,List.suffix_iff_eq_drop,beq_iff_eq]
 have e:s.size - (s.size - t.size)=t.size:=by omega
 rw [e,List.take_of_length_le (by simp;omega)]
 simp;exact eq_comm
theorem ends_no (s t:ByteArray) (h: ¬ t.size<=s.size):Lib.hasSuffix s.data.toList t.data.toList=false:=by
 rw [<- Bool.not_eq_true];unfold Lib.hasSuffix;rw [List.isSuffixOf_iff_suffix];intro hp;have:=hp.length_le;simp at this;exact h this
theorem ends_any (s t:ByteArray) (w:World) (hs:s.size<=4000000000) (ht:t.size<=4000000000):
 Calls Tryz.prog 107 #[.string s,.string t] w fun e w'=>e = .returned (.bool (Lib.hasSuffix s.data.toList t.data.toList))/\w=w':=by
 by_cases h:t.size<=s.size
 ·have HE:=hid (ends_eq s t h)
  have h':(t.size:Int)<=(s.size:Int):=by omega
  have hd:=decide_eq_true h';have ht:((s.size:Int) - (t.size:Int)).toNat=s.size - t.size:=by omega
  have h0:(0:Int)<=(s.size:Int) - (t.size:Int):=by omega
  have h1:(s.size:Int) - (t.size:Int)<=(s.size:Int):=by omega
  go_enter Tryz.func107,Tryz.ntmps107
  go_wp2
  go_ret
  exact ⟨ret_bool (by simpa [ht] using HE.out),rfl⟩
 ·have HE:=hid (ends_no s t h)
  have h': ¬ (t.size:Int)<=(s.size:Int):=by omega
  have hd:=decide_eq_false h'
  go_enter Tryz.func107,Tryz.ntmps107
  go_wp2
  go_ret
  exact ⟨ret_bool HE.out.symm,rfl⟩
def forbB:ByteArray:=⟨#[0,9,10,13,32,35,47,58,60,62,63,64,91,92,93,94,124]⟩
theorem forb_mem (c:UInt8):forb c=true ↔ ∃ k,∃ h:k<forbB.size,forbB[k]=c:=by
 have key: ∀ n<256,(forb (UInt8.ofNat n)=true ↔ ∃ k,∃ h:k<17,forbL[k]'h=UInt8.ofNat n):=by
  have k2: ∀ n<256,forb (UInt8.ofNat n)=forbL.any (fun x=>x==UInt8.ofNat n):=by decide +kernel
  intro n hn;rw [k2 n hn,List.any_eq_true];constructor
  ·rintro ⟨x,hx,he⟩
   obtain ⟨k,hk,rfl⟩:=List.getElem_of_mem hx
   exact ⟨k,hk,by simpa using he⟩
  ·rintro ⟨k,hk,he⟩
   exact ⟨_,List.getElem_mem hk,by simpa using he⟩
 have:=key c.toNat c.toNat_lt;have e:UInt8.ofNat c.toNat=c:=by simp
 rw [e] at this;exact this
theorem rbad_any (c:UInt8) (w:World):
 Calls Tryz.prog 110 #[.int .u8 (c.toNat:Int)] w fun e w'=>e = .returned (.bool (forb c))/\w=w':=by
 have hc8:=c.toNat_lt;have HS:=hid (show forbB.size=17 from rfl)
 go_enter Tryz.func110,Tryz.ntmps110
 go_wp2
 go_loop [3] (fun i=> ∃ k:Nat,k<=17/\i = .int .i64 k /\ ∀ j,∀ h:j<forbB.size,j<k->forbB[j]≠c) (fun i=>17 - (intOf i).toNat)
 case atStart=>exact ⟨0,by omega,rfl,fun j _ h=>absurd h (by omega)⟩
 case round=>
  obtain ⟨k,hk,rfl,hno⟩:=hrel
  have HN:=hid hno;clear hno;by_cases hlt:k<17
  ·have hb:k<forbB.size:=hlt
   have hlt':(k:Int)<17:=by omega
   have hx:(ByteArray.mk #[0,9,10,13,32,35,47,58,60,62,63,64,91,92,93,94,124]).size=17:=rfl;have hxk:k<(ByteArray.mk #[0,9,10,13,32,35,47,58,60,62,63,64,91,92,93,94,124]).size:=by rw [hx];exact hlt
   have hb8:(ByteArray.mk #[0,9,10,13,32,35,47,58,60,62,63,64,91,92,93,94,124])[k].toNat<256:=(ByteArray.mk #[0,9,10,13,32,35,47,58,60,62,63,64,91,92,93,94,124])[k].toNat_lt;by_cases he:(ByteArray.mk #[0,9,10,13,32,35,47,58,60,62,63,64,91,92,93,94,124])[k]=c
   ·have HF:=hid ((forb_mem c).2 ⟨k,hb,he⟩)
    have he':((ByteArray.mk #[0,9,10,13,32,35,47,58,60,62,63,64,91,92,93,94,124])[k].toNat:Int)=(c.toNat:Int):=by rw [he]
    go_wp2
    go_ret
    exact ⟨ret_bool HF.out.symm,rfl⟩
   ·have he':(((ByteArray.mk #[0,9,10,13,32,35,47,58,60,62,63,64,91,92,93,94,124])[k].toNat:Int)==(c.toNat:Int))=false:=by
     rw [beq_eq_false_iff_ne];intro e;exact he (UInt8.toNat_inj.1 (by omega))
    have HE:=hid he;clear he
    go_wp2
    go_round
    case rel=>
     refine ⟨k+1,by omega,by go_num,fun j hj hjk=> ?_⟩;by_cases h1:j=k
     ·subst h1;exact HE.out
     ·exact HN.out j hj (by omega)
    case measure=>simp [intOf];omega
  ·have hk17:k=17:=by omega
   subst hk17;have HF:Hid (forb c=false):=by
    refine hid ?_;rw [<- Bool.not_eq_true,forb_mem];rintro ⟨k,h,e⟩
    exact HN.out k h h e
   go_wp2
   go_ret
   exact ⟨ret_bool HF.out.symm,rfl⟩
theorem rown_any (s:ByteArray) (w:World):
 Calls Tryz.prog 65 #[.string s] w fun e w'=>e = .returned (.int .i64 (ownV s.data.toList))/\w=w':=by
 by_cases h1:s.data.toList=sHttp
 ·have HN:=hid (show ownV s.data.toList=80 by rw [h1];rfl)
  have e1:=beq_yes s [104,116,116,112] h1
  clear h1
  go_enter Tryz.func65,Tryz.ntmps65
  go_wp2
  go_ret
  rw [HN.out];exact ⟨rfl,rfl⟩
 ·have e1:=beq_no s [104,116,116,112] h1
  by_cases h2:s.data.toList=sWs
  ·have HN:=hid (show ownV s.data.toList=80 by rw [h2];rfl)
   have e2:=beq_yes s [119,115] h2
   clear h1 h2
   go_enter Tryz.func65,Tryz.ntmps65
   go_wp2
   go_ret
   rw [HN.out];exact ⟨rfl,rfl⟩
  ·have e2:=beq_no s [119,115] h2
   by_cases h3:s.data.toList=sHttps
   ·have HN:=hid (show ownV s.data.toList=443 by rw [h3];rfl)
    have e3:=beq_yes s [104,116,116,112,115] h3
    clear h1 h2 h3
    go_enter Tryz.func65,Tryz.ntmps65
    go_wp2
    go_ret
    rw [HN.out];exact ⟨rfl,rfl⟩
   ·have e3:=beq_no s [104,116,116,112,115] h3
    by_cases h4:s.data.toList=sWss
    ·have HN:=hid (show ownV s.data.toList=443 by rw [h4];rfl)
     have e4:=beq_yes s [119,115,115] h4
     clear h1 h2 h3 h4
     go_enter Tryz.func65,Tryz.ntmps65
     go_wp2
     go_ret
     rw [HN.out];exact ⟨rfl,rfl⟩
    ·have e4:=beq_no s [119,115,115] h4
     by_cases h5:s.data.toList=sFtp
     ·have HN:=hid (show ownV s.data.toList=21 by rw [h5];rfl)
      have e5:=beq_yes s [102,116,112] h5
      clear h1 h2 h3 h4 h5
      go_enter Tryz.func65,Tryz.ntmps65
      go_wp2
      go_ret
      rw [HN.out];exact ⟨rfl,rfl⟩
     ·have e5:=beq_no s [102,116,112] h5
      have HN:=hid (show ownV s.data.toList = -1 by rw [ownV,if_neg (by rintro (h | h);exact h1 h;exact h2 h),if_neg (by rintro (h | h);exact h3 h;exact h4 h),if_neg h5]);clear h1 h2 h3 h4 h5
      go_enter Tryz.func65,Tryz.ntmps65
      go_wp2
      go_ret
      rw [HN.out];exact ⟨rfl,rfl⟩
theorem rspecial_any (s:ByteArray) (w:World):
 Calls Tryz.prog 45 #[.string s] w fun e w'=>e = .returned (.bool (specV s.data.toList))/\w=w':=by
 have HS:=hid (show specV s.data.toList=decide (0<=ownV s.data.toList) from rfl)
 go_enter Tryz.func45,Tryz.ntmps45
 go_wp2_with (go_at_call 65;refine (rown_any _ _).mono ?_;rintro e w' ⟨rfl,rfl⟩)
 go_ret
 rw [HS.out];exact ⟨rfl,rfl⟩
theorem skip_cons (l:List UInt8):skip47 (47::l)=skip47 l:=rfl
theorem skip_stop {c:UInt8} {l:List UInt8} (h:c≠47):skip47 (c::l)=c::l:=by
 have:(c==47)=false:=by rw [beq_eq_false_iff_ne];exact h
 unfold skip47;rw [List.dropWhile_cons,this];rfl
theorem rover_any (s:ByteArray) (w:World) (hs:s.size<=4000000000):
 Calls Tryz.prog 47 #[.string s] w fun e w'=>e = .returned (.string ⟨(skip47 s.data.toList).toArray⟩)/\w=w':=by
 go_enter Tryz.func47,Tryz.ntmps47
 go_wp2
 go_loop [0] (fun v=> ∃ T:ByteArray,v = .string T/\T.size<=s.size/\skip47 T.data.toList=skip47 s.data.toList) (fun v=>match v with | .string T=>T.size | _=>0)
 case atStart=>exact ⟨s,rfl,Nat.le_refl _,rfl⟩
 case round=>
  obtain ⟨T,rfl,hTs,hsk⟩:=hrel
  have HS:=hid hsk;clear hsk;by_cases h0:0<T.size
  ·have h0':(0:Int)<(T.size:Int):=by omega
   obtain ⟨r,hr⟩:=list_one T h0
   by_cases hc:T[0]=47
   ·have e47:((T[0].toNat:Int)==47)=true:=byte_is hc
    have h1:(1:Int)<=(T.size:Int):=by omega
    have HN:=hid (show skip47 (T.extract 1 T.size).data.toList=skip47 s.data.toList by
     rw [extract_drop,<- HS.out,hr,hc,skip_cons];rfl)
    clear hc hr
    go_wp2
    go_round
    case rel=>exact ⟨T.extract 1 T.size,rfl,by simp;omega,HN.out⟩
    case measure=>simp;omega
   ·have e47:((T[0].toNat:Int)==47)=false:=byte_not hc
    have HN:=hid (show T=⟨(skip47 s.data.toList).toArray⟩ by
     rw [<- HS.out,hr,skip_stop hc,<- hr,Lib.mk_data])
    clear hc hr
    go_wp2
    go_ret
    rw [<- HN.out];exact ⟨rfl,rfl⟩
  ·have h0': ¬ (0:Int)<(T.size:Int):=by omega
   have HN:=hid (show T=⟨(skip47 s.data.toList).toArray⟩ by
    have:T.data.toList=[]:=List.eq_nil_of_length_eq_zero (by rw [<- Lib.size_eq];omega)
    rw [<- HS.out,this];exact ba_ext this)
   go_wp2
   go_ret
   rw [<- HN.out];exact ⟨rfl,rfl⟩
theorem rahead_any (s:ByteArray) (a b:UInt8) (w:World) (hs:s.size<=4000000000):
 Calls Tryz.prog 51 #[.string s,.int .u8 (a.toNat:Int),.int .u8 (b.toNat:Int)] w fun e w'=>e = .returned (.tuple #[.string ⟨(aheadV [a,b] s.data.toList).1.toArray⟩,.string ⟨(aheadV [a,b] s.data.toList).2.toArray⟩])/\Below w.heap.size w w':=by
 go_enter Tryz.func51,Tryz.ntmps51
 go_wp2
 go_loop [8] (fun i=> ∃ k:Nat,k<=s.size/\i = .int .i64 k/\Lib.NoAny s.data.toList [a,b] k) (fun i=>s.size - (intOf i).toNat)
 case atStart=>exact ⟨0,Nat.zero_le _,rfl,Lib.NoAny.zero _ _⟩
 case round=>
  obtain ⟨k,hk,rfl,hno⟩:=hrel
  have HN:=hid hno;clear hno;have ha8:=a.toNat_lt;have hb8:=b.toNat_lt;by_cases hlt:k<s.size
  ·have hxl:s.data.toList[k]? = some s[k]:=Lib.data_getElem? s k hlt
   have hk':(k:Int)<=(s.size:Int):=by omega
   by_cases hin:[a,b].contains s[k]=true
   ·have hidx:=Lib.indexAny_hit HN.out hxl hin
    have HV:=hid (show aheadV [a,b] s.data.toList=(s.data.toList.take k,s.data.toList.drop k) by
     rcases ahead_index [a,b] s.data.toList with ⟨h1,_⟩ | ⟨i,hi,h1,h2⟩
     ·rw [h1] at hidx;omega
     ·have:i=k:=by rw [h1] at hidx;omega
      rw [h2,this])
    have hcase:((s[k].toNat:Int)==(a.toNat:Int))=true∨(((s[k].toNat:Int)==(a.toNat:Int))=false/\((s[k].toNat:Int)==(b.toNat:Int))=true):=by
     by_cases h1:s[k]=a
     ·exact .inl (byte_is h1)
     ·refine .inr ⟨byte_not h1,byte_is ?_⟩
      simp at hin;rcases hin with h | h
      ·exact absurd h h1
      ·exact h
    clear hin hidx hxl;rcases hcase with e1 | ⟨e1,e2⟩
    all_goals
     go_wp2
     go_region
     go_wp2
     go_ret2
     refine ⟨?_,(Below.refl _ w).drew⟩
     rw [HV.out];refine ret_ss ?_ ?_
     ·exact ba_ext (by rw [Lib.extract_data];simp)
     ·exact ba_ext (by rw [extract_drop])
   ·have hin':[a,b].contains s[k]=false:=by simpa using hin
    have HN2:=hid (HN.out.succ hxl hin');have e1:((s[k].toNat:Int)==(a.toNat:Int))=false:=byte_not (fun e=>hin (by simp [e]));have e2:((s[k].toNat:Int)==(b.toNat:Int))=false:=byte_not (fun e=>hin (by simp [e]));clear hin hin' hxl
    go_wp2
    go_round
    case rel=>exact ⟨k+1,by omega,by go_num,HN2.out⟩
    case measure=>simp [intOf];omega
  ·have hke:k=s.data.toList.length:=by simp;omega
   have hidx:=Lib.indexAny_none (by rw [<- hke];exact HN.out)
   have HV:=hid (show aheadV [a,b] s.data.toList=(s.data.toList,[]) by
    rcases ahead_index [a,b] s.data.toList with ⟨_,h2⟩ | ⟨i,hi,h1,h2⟩
    ·exact h2
    ·rw [h1] at hidx;omega)
   clear hidx
   go_wp2
   go_ret2
   rw [HV.out];exact ⟨ret_ss (Lib.mk_data s).symm rfl,Below.refl _ _⟩
theorem ret_ssb {a b c d:ByteArray} {x y:Bool} (h:a=b) (g:c=d) (k:x=y):Ending.returned (.tuple #[.string a,.string c,.bool x]) = .returned (.tuple #[.string b,.string d,.bool y]):=by rw [h,g,k]
theorem rpart_any (s:ByteArray) (c:UInt8) (w:World) (hs:s.size<=4000000000):
 Calls Tryz.prog 41 #[.string s,.int .u8 (c.toNat:Int)] w fun e w'=>e = .returned (.tuple #[.string ⟨(part c s.data.toList).1.toArray⟩,.string ⟨(part c s.data.toList).2.1.toArray⟩,.bool (part c s.data.toList).2.2])/\Below w.heap.size w w':=by
 go_enter Tryz.func41,Tryz.ntmps41
 go_wp2
 go_loop [7] (fun i=> ∃ k:Nat,k<=s.size/\i = .int .i64 k/\c ∉ s.data.toList.take k) (fun i=>s.size - (intOf i).toNat)
 case atStart=>exact ⟨0,Nat.zero_le _,rfl,by simp⟩
 case round=>
  obtain ⟨k,hk,rfl,hno⟩:=hrel
  have HN:=hid hno;clear hno;have hc8:=c.toNat_lt;by_cases hlt:k<s.size
  ·have hk':(k:Int)<=(s.size:Int):=by omega
   have hk2:(k:Int)+1<=(s.size:Int):=by omega
   by_cases he:s[k]=c
   ·have HV:=hid (show part c s.data.toList=(s.data.toList.take k,s.data.toList.drop (k+1),true) by
     have e:s.data.toList=s.data.toList.take k++c::s.data.toList.drop (k+1):=by
      have:=(List.take_append_drop k s.data.toList).symm;rw [drop_cons s k hlt,he] at this;exact this
     have h2:=part_some c (s.data.toList.take k) (s.data.toList.drop (k+1)) HN.out;rw [<- e] at h2;exact h2)
    have e1:((s[k].toNat:Int)==(c.toNat:Int))=true:=byte_is he;clear he
    go_wp2
    go_region
    go_wp2
    go_ret3
    refine ⟨?_,(Below.refl _ w).drew⟩
    rw [HV.out];refine ret_ssb ?_ ?_ rfl
    ·exact ba_ext (by rw [Lib.extract_data];simp)
    ·first | exact ba_ext (by rw [extract_drop]) | exact ba_ext (by rw [show ((k:Int)+1).toNat=k+1 by omega,extract_drop])
   ·have HT:=hid (take_snoc s k hlt)
    have e1:((s[k].toNat:Int)==(c.toNat:Int))=false:=byte_not he;have HN2:=hid (show c ∉ s.data.toList.take (k+1) by
     rw [HT.out,List.mem_append]
     rintro (h | h)
     ·exact HN.out h
     ·simp at h;exact he h.symm)
    clear he
    go_wp2
    go_round
    case rel=>exact ⟨k+1,by omega,by go_num,HN2.out⟩
    case measure=>simp [intOf];omega
  ·have hno:=HN.out
   rw [take_all s k hlt] at hno;have HV:=hid (part_none c _ hno);clear hno
   go_wp2
   go_ret3
   rw [HV.out];exact ⟨ret_ssb (Lib.mk_data s).symm rfl rfl,Below.refl _ _⟩
def slTo (l:List UInt8) (k:Nat):List UInt8:=(l.take k).map slC++l.drop k
theorem slTo_len (l:List UInt8) (k:Nat):(slTo l k).length=l.length:=by simp [slTo];omega
theorem slTo_zero (l:List UInt8):slTo l 0=l:=by simp [slTo]
theorem slTo_at (l:List UInt8) (k:Nat) (h:k<l.length) (h':k<(slTo l k).length):(slTo l k)[k]=l[k]:=by
 have e:(slTo l k)[k]? = some l[k]:=by
  unfold slTo;have e1:((l.take k).map slC).length=k:=by simp;omega
  rw [List.getElem?_append_right (by omega),e1,Nat.sub_self,List.getElem?_drop,Nat.add_zero,List.getElem?_eq_getElem h]
 exact (List.getElem?_eq_some_iff.1 e).2
theorem slTo_succ (l:List UInt8) (k:Nat) (h:k<l.length):slTo l (k+1)=(slTo l k).set k (slC l[k]):=by
 unfold slTo;rw [List.set_append_right _ _ (by simp;omega)];have e:k - ((l.take k).map slC).length=0:=by simp;omega
 rw [e,List.drop_eq_getElem_cons h,List.set_cons_zero,List.take_add_one,List.getElem?_eq_getElem h,List.map_append]
 simp
theorem slash_at (l:List UInt8) (k:Nat) (hno: ∀ c ∈ l.take k,c≠63) (hk:l.length<=k∨l[k]? = some 63):slashV l=slTo l k:=by
 have e:l=l.take k++l.drop k:=(List.take_append_drop k l).symm;have hp: ∀ c ∈ l.take k,(fun c:UInt8=> !([63]:List UInt8).contains c) c=true:=fun c hc=>by
  have:=hno c hc;simp [this]
 have h1:(aheadV [63] l).1=l.take k/\(aheadV [63] l).2=l.drop k:=by
  have h3:(l.drop k).takeWhile (fun c:UInt8=> !([63]:List UInt8).contains c)=[]/\(l.drop k).dropWhile (fun c:UInt8=> !([63]:List UInt8).contains c)=l.drop k:=by
   rcases hk with h | h
   ·rw [List.drop_of_length_le h];exact ⟨rfl,rfl⟩
   ·obtain ⟨hlt,hc⟩:=List.getElem?_eq_some_iff.1 h
    rw [List.drop_eq_getElem_cons hlt,hc];simp
  unfold aheadV;constructor
  ·show l.takeWhile _=_
   conv=>lhs;rw [e]
   rw [List.takeWhile_append_of_pos hp,h3.1,List.append_nil]
  ·show l.dropWhile _=_
   conv=>lhs;rw [e]
   rw [List.dropWhile_append_of_pos hp,h3.2]
 rw [slashV,h1.1,h1.2];rfl
theorem rslashes_any (s:ByteArray) (w:World) (hs:s.size<=4000000000):
 Calls Tryz.prog 48 #[.string s] w fun e w'=>e = .returned (.string ⟨(slashV s.data.toList).toArray⟩)/\Below w.heap.size w w':=by
 have hcv:=run_bytes_of_string (P:=Tryz.prog) w 9 92 5 s Tryz.underlying9 Tryz.underlying92 Tryz.underlying5;have hcap:=grownCap_ge w s.size 0 5;have hr0:=rowIs_bytes w 5 s (grownCap w s.size 0 5) hcap;have hb0:Below w.heap.size w (w.drew.alloc (.cells (bytesRow s (grownCap w s.size 0 5)) 5 ((bytesRow s (grownCap w s.size 0 5)).size,(bytesRow s (grownCap w s.size 0 5)).size+1))):=(Below.refl _ w).drew.alloc (Nat.le_refl _) _
 generalize (w.drew.alloc (.cells (bytesRow s (grownCap w s.size 0 5)) 5 ((bytesRow s (grownCap w s.size 0 5)).size,(bytesRow s (grownCap w s.size 0 5)).size+1)))=w0 at hcv hr0 hb0;generalize grownCap w s.size 0 5=cap at hcv hcap
 go_enter Tryz.func48,Tryz.ntmps48
 go_wp2
 clear hcv
 go_loopw [4] (fun i wr=> ∃ k:Nat,k<=s.size/\i = .int .i64 k/\rowIs wr w.heap.size 5 (slTo s.data.toList k)/\Below w.heap.size w wr /\ ∀ c ∈ s.data.toList.take k,c≠63)
  (fun i _=>s.size - (intOf i).toNat)
 case atStart=>exact ⟨0,Nat.zero_le _,rfl,by rw [slTo_zero];exact hr0,hb0,by simp⟩
 case round=>
  obtain ⟨k,hk,rfl,hr,hbw,hno⟩:=hrel
  have HNo:=hid hno;clear hno;have hgo:(∃ h:k<s.size,s[k]≠63)∨(∃ h:k<s.size,s[k]=63) ∨ ¬ k<s.size:=by
   by_cases h:k<s.size
   ·by_cases h2:s[k]=63
    ·exact .inr (.inl ⟨h,h2⟩)
    ·exact .inl ⟨h,h2⟩
   ·exact .inr (.inr h)
  rcases hgo with ⟨hlt,h63⟩ | hgo
  ·have hl:k<s.data.toList.length:=by simpa using hlt
   have hl':k<(slTo s.data.toList k).length:=by rw [slTo_len];exact hl
   have hc:=hr.cell k hl';rw [slTo_at _ _ hl] at hc;have hf:=hr.frozen k hl';have hsucc:=slTo_succ s.data.toList k hl;have hat:=slTo_at s.data.toList k hl hl';have hsk:s.data.toList[k]=s[k]:=rfl;rw [hsk] at hc hsucc hat;have HS:=hid hsucc;have HAt:=hid hat;have HR:=hid hr;have HNo2:=hid (show ∀ c ∈ s.data.toList.take (k+1),c≠63 by
    rw [take_snoc s k hlt];intro c hc;rcases List.mem_append.1 hc with h | h
    ·exact HNo.out c h
    ·simp at h;rw [h];exact h63)
   have hc8:s[k].toNat<256:=s[k].toNat_lt;have e63:((s[k].toNat:Int) != 63)=true:=by
    have:((s[k].toNat:Int)==63)=false:=byte_not h63;simp at this ⊢;exact this
   clear hsucc hat hsk hr h63;by_cases h92:s[k]=92
   ·have e92:((s[k].toNat:Int)==92)=true:=byte_is h92
    have HC:=hid (show slC s[k]=47 by rw [h92];rfl);clear h92
    go_wp2
    go_roundw
    case rel=>
     refine ⟨k+1,by omega,by go_num,?_,hbw.setCell (p:=⟨w.heap.size,k,none⟩) (Nat.le_refl _) _,HNo2.out⟩;rw [HS.out,HC.out]
     exact HR.out.set k 47
    case measure=>simp [intOf];omega
   ·have e92:((s[k].toNat:Int)==92)=false:=byte_not h92
    have HC:=hid (show slC s[k]=s[k] by rw [slC,if_neg h92]);clear h92
    go_wp2
    go_roundw
    case rel=>
     refine ⟨k+1,by omega,by go_num,?_,hbw,HNo2.out⟩;have e:slC s[k]=(slTo s.data.toList k)[k]:=by rw [HC.out,HAt.out]
     rw [HS.out,e,List.set_getElem_self]
     exact HR.out
    case measure=>simp [intOf];omega
  ·have hfin:slashV s.data.toList=slTo s.data.toList k:=slash_at _ k HNo.out (by
    rcases hgo with ⟨h,h2⟩ | h
    ·exact .inr (by rw [Lib.data_getElem? s k h,h2])
    ·exact .inl (by simp;omega))
   have hr':rowIs wr w.heap.size 5 (slashV s.data.toList):=by rw [hfin];exact hr
   have hcv:=hr'.string (P:=Tryz.prog) (src:=92) (dst:=9) (cap:=cap) Tryz.underlying92 Tryz.underlying5 Tryz.underlying9;rw [show (slashV s.data.toList).length=s.size by rw [slash_len];simp] at hcv;rcases hgo with ⟨hlt,h2⟩ | hlt
   ·have hl:k<s.data.toList.length:=by simpa using hlt
    have hl':k<(slTo s.data.toList k).length:=by rw [slTo_len];exact hl
    have hc:=hr.cell k hl';rw [slTo_at _ _ hl,show s.data.toList[k]=s[k] from rfl,h2] at hc;clear hr hr' hfin h2
    go_wp2
    go_ret
    exact ⟨rfl,hbw⟩
   ·clear hr hr' hfin
    go_wp2
    go_ret
    exact ⟨rfl,hbw⟩
end Go.Proofs.YtijpkalkfbejeaaGreatDoor
