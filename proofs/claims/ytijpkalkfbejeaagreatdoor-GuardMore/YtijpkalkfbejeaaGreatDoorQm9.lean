/- Walks and plain facts. -/
import Derived.Test.YtijpkalkfbejeaaGreatDoorQm8
set_option linter.unusedSimpArgs false
set_option linter.unusedVariables false
set_option maxHeartbeats 16000000
set_option maxRecDepth 100000

namespace Go.Proofs.YtijpkalkfbejeaaGreatDoor
open Go.RowKit
theorem decDigits_dec8 (n:Nat) (h:n<256):Lib.decDigits n=dec8 n:=by
 unfold dec8;rw [Lib.decDigits];split
 ·rfl
 ·rw [Lib.decDigits]
  split
  ·rw [if_pos (by omega)];rfl
  ·rw [Lib.decDigits,dif_pos (by omega),if_neg (by omega)]
   have e:n / 10 / 10=n / 100:=by omega
   rw [e];rfl
theorem itoa_dec8 (n:Nat) (h:n<256):Lib.itoa (n:Int)=dec8 n:=by
 unfold Lib.itoa;rw [if_neg (by omega)];exact decDigits_dec8 n h
theorem itoa_any (n:Nat) (w:World) (hg:Gd w) (h:n<256):
 Calls Tryz.prog 73 #[.int .i64 n] w fun e w'=>e = .returned (.string ⟨(dec8 n).toArray⟩)/\Below w.heap.size w w':=by
 refine (Tryz.strconv_Itoa n (by omega) (by omega) w hg.2.1).mono ?_;rintro e w' ⟨rfl,k,os,rfl⟩
 exact ⟨by rw [itoa_dec8 n h],Lib.below_grow _ _ (Nat.le_refl _) _ _⟩
theorem and255 (n:Nat) (h:n<4294967296):bits .and .u32 (n:Int) 255=((n % 256:Nat):Int):=by
 have:=u32_and_nat n 255 h (by omega)
 rw [nat_mask8] at this;simpa using this
theorem decimal_any (n:Nat) (w:World) (hg:Gd w) (h:n<4294967296):
 Calls Tryz.prog 255 #[.int .u32 n] w fun e w'=>e = .returned (.string ⟨(dec8 (n % 256)).toArray⟩)/\Below w.heap.size w w':=by
 have ha:=and255 n h;obtain ⟨m,hm⟩: ∃ m:Nat,m=n % 256:=⟨_,rfl⟩
 rw [<- hm] at ha ⊢;have hm2:m<256:=by omega
 clear hm
 go_enter Tryz.func255,Tryz.ntmps255
 go_wp2_with (go_at_call 73;refine (itoa_any _ _ hg (by omega)).mono ?_;rintro e w' ⟨rfl,hb1⟩)
 go_ret
 exact ⟨rfl,hb1⟩
def txt4 (n:Nat):Nat->List UInt8
 | 0=>text4 n
 | 1=>dec8 (n / 16777216 % 256)++([46]++dec8 (n / 65536 % 256))++([46]++dec8 (n / 256 % 256))
 | 2=>dec8 (n / 16777216 % 256)++([46]++dec8 (n / 65536 % 256))
 | _=>dec8 (n / 16777216 % 256)
theorem dec8_le (n:Nat):(dec8 n).length<=3:=by
 unfold dec8;split
 ·simp
 ·split<;>simp
theorem text4_le (n:Nat):(text4 n).length<=15:=by
 unfold text4;have h1:=dec8_le (n / 16777216 % 256);have h2:=dec8_le (n / 65536 % 256);have h3:=dec8_le (n / 256 % 256);have h4:=dec8_le (n % 256)
 simp;omega
theorem txt4_le (n g:Nat):(txt4 n g).length<=15:=by
 have h1:=dec8_le (n / 16777216 % 256);have h2:=dec8_le (n / 65536 % 256);have h3:=dec8_le (n / 256 % 256);unfold txt4;split
 ·exact text4_le n
 ·simp;omega
 ·simp;omega
 ·omega
theorem ba_app (a b:List UInt8):(⟨a.toArray⟩:ByteArray)++⟨b.toArray⟩=⟨(a++b).toArray⟩:=by
 refine ba_ext ?_;simp
theorem text4_any (n:Nat) (w:World) (hg:Gd w) (h:n<4294967296):
 Calls Tryz.prog 243 #[.int .u32 n] w fun e w'=>e = .returned (.string ⟨(text4 n).toArray⟩)/\Below w.heap.size w w':=by
 have i0: ∀ (a b c:Int) w,(Instr.index 262 (.agg #[.int .u32 a,.int .u32 b,.int .u32 c]) (.int .i64 0)).run Tryz.prog w = .ok (.int .u32 a) w:=fun _ _ _ _=>by kernel_rfl
 have i1: ∀ (a b c:Int) w,(Instr.index 262 (.agg #[.int .u32 a,.int .u32 b,.int .u32 c]) (.int .i64 1)).run Tryz.prog w = .ok (.int .u32 b) w:=fun _ _ _ _=>by kernel_rfl
 have i2: ∀ (a b c:Int) w,(Instr.index 262 (.agg #[.int .u32 a,.int .u32 b,.int .u32 c]) (.int .i64 2)).run Tryz.prog w = .ok (.int .u32 c) w:=fun _ _ _ _=>by kernel_rfl
 have HG:=hid hg;clear hg
 go_enter Tryz.func243,Tryz.ntmps243
 go_wp2_with (go_at_call 255;go_must (refine (decimal_any (n / 16777216) _ HG.out (by omega)).mono ?_;rintro e w1 ⟨rfl,hb1⟩))
 go_loopg [3,15] 3 (fun g s3 s15 wr=>g<=3/\s15 = .int .i64 (3 - g)/\s3 = .string ⟨(txt4 n g).toArray⟩/\Below w.heap.size w wr)
 case atStart=>exact ⟨by omega,rfl,rfl,hb1⟩
 case round=>
  obtain ⟨hk,rfl,rfl,hbw⟩:=hrel
  have HR:=hid (HG.out.kept hbw);obtain rfl | rfl | rfl | rfl:gk=0∨gk=1∨gk=2∨gk=3:=by omega
  ·go_wp2
   go_ret
   exact ⟨rfl,hbw⟩
  ·have hl1:=txt4_le n 1
   have hl2:=dec8_le (n % 256);have HT:=hid (show (⟨(txt4 n 1).toArray⟩:ByteArray)++(⟨#[46]⟩++⟨(dec8 (n % 256)).toArray⟩)=⟨(txt4 n 0).toArray⟩ by rw [show (⟨#[46]⟩:ByteArray)=⟨[46].toArray⟩ from rfl,ba_app,ba_app];simp [txt4,text4])
   go_wp2_with (go_at_call 255;go_must (refine (decimal_any n _ HR.out (by omega)).mono ?_;rintro e w2 ⟨rfl,hb2⟩))
   go_roundg 0
   case measure=>omega
   case rel=>exact ⟨by omega,by go_num,by rw [HT.out],below2 hbw hb2⟩
  ·have hl1:=txt4_le n 2
   have hl2:=dec8_le (n / 256 % 256);have HT:=hid (show (⟨(txt4 n 2).toArray⟩:ByteArray)++(⟨#[46]⟩++⟨(dec8 (n / 256 % 256)).toArray⟩)=⟨(txt4 n 1).toArray⟩ by rw [show (⟨#[46]⟩:ByteArray)=⟨[46].toArray⟩ from rfl,ba_app,ba_app];simp [txt4,text4])
   go_wp2_with (go_at_call 255;go_must (refine (decimal_any (n / 256) _ HR.out (by omega)).mono ?_;rintro e w2 ⟨rfl,hb2⟩))
   go_roundg 1
   case measure=>omega
   case rel=>exact ⟨by omega,by go_num,by rw [HT.out],below2 hbw hb2⟩
  ·have hl1:=txt4_le n 3
   have hl2:=dec8_le (n / 65536 % 256);have HT:=hid (show (⟨(txt4 n 3).toArray⟩:ByteArray)++(⟨#[46]⟩++⟨(dec8 (n / 65536 % 256)).toArray⟩)=⟨(txt4 n 2).toArray⟩ by rw [show (⟨#[46]⟩:ByteArray)=⟨[46].toArray⟩ from rfl,ba_app,ba_app];simp [txt4,text4])
   go_wp2_with (go_at_call 255;go_must (refine (decimal_any (n / 65536) _ HR.out (by omega)).mono ?_;rintro e w2 ⟨rfl,hb2⟩))
   go_roundg 2
   case measure=>omega
   case rel=>exact ⟨by omega,by go_num,by rw [HT.out],below2 hbw hb2⟩
theorem indexA (c:Int) (w:World):Calls Tryz.prog 105 #[.string ⟨#[47,58,59,61,64,91,92,93,124]⟩,.int .u8 c] w fun e w'=>e = .returned (.int .i64 (idxA c))/\w=w':=by
 refine (Tryz.strings_IndexByte _ _ _).mono ?_;rintro e w' ⟨rfl,rfl⟩
 exact ⟨rfl,rfl⟩
theorem indexB (c:Int) (w:World):Calls Tryz.prog 105 #[.string ⟨#[63,94,96,123,125]⟩,.int .u8 c] w fun e w'=>e = .returned (.int .i64 (idxB c))/\w=w':=by
 refine (Tryz.strings_IndexByte _ _ _).mono ?_;rintro e w' ⟨rfl,rfl⟩
 exact ⟨rfl,rfl⟩
theorem indexC (c:Int) (w:World):Calls Tryz.prog 105 #[.string ⟨#[32,34,60,62]⟩,.int .u8 c] w fun e w'=>e = .returned (.int .i64 (idxC c))/\w=w':=by
 refine (Tryz.strings_IndexByte _ _ _).mono ?_;rintro e w' ⟨rfl,rfl⟩
 exact ⟨rfl,rfl⟩
theorem inSet_1 (c:Int) (w:World) (h0:0<=c) (h1:c<=255):
 Calls Tryz.prog 185 #[.int .u8 c,.int .i64 1] w fun e w'=>e = .returned (.bool (inSetI c 1))/\w=w':=by
 have HA:=hid (idxA_nonneg c h0 h1);have HB:=hid (idxB_nonneg c h0 h1);have HC:=hid (idxC_nonneg c h0 h1)
 go_enter Tryz.func185,Tryz.ntmps185
 go_wp2_with (first | (go_at_call_of 105 (Value.string ⟨#[47,58,59,61,64,91,92,93,124]⟩);refine (indexA _ _).mono ?_;rintro e w1 ⟨rfl,rfl⟩) | (go_at_call_of 105 (Value.string ⟨#[63,94,96,123,125]⟩);refine (indexB _ _).mono ?_;rintro e w1 ⟨rfl,rfl⟩) | (go_at_call_of 105 (Value.string ⟨#[32,34,60,62]⟩);refine (indexC _ _).mono ?_;rintro e w1 ⟨rfl,rfl⟩))
 all_goals
  go_ret
  refine ⟨ret_bool ?_,rfl⟩;have ha:=HA.out;have hb:=HB.out;have hc:=HC.out
  try simp only [Bool.or_eq_true,Bool.and_eq_true,beq_iff_eq,decide_eq_true_eq,Bool.not_eq_true',decide_eq_false_iff_not,Bool.or_eq_false_iff,Bool.and_eq_false_iff,beq_eq_false_iff_ne,ne_eq] at *
  rw [Bool.eq_iff_iff,inSetI_iff]
  simp only [inSetP,Bool.or_eq_true,Bool.and_eq_true,beq_iff_eq,decide_eq_true_eq,Bool.false_eq_true,true_iff,false_iff,true_and,false_and,or_false,false_or]
  omega
theorem inSet_2 (c:Int) (w:World) (h0:0<=c) (h1:c<=255):
 Calls Tryz.prog 185 #[.int .u8 c,.int .i64 2] w fun e w'=>e = .returned (.bool (inSetI c 2))/\w=w':=by
 have HA:=hid (idxA_nonneg c h0 h1);have HB:=hid (idxB_nonneg c h0 h1);have HC:=hid (idxC_nonneg c h0 h1)
 go_enter Tryz.func185,Tryz.ntmps185
 go_wp2_with (first | (go_at_call_of 105 (Value.string ⟨#[47,58,59,61,64,91,92,93,124]⟩);refine (indexA _ _).mono ?_;rintro e w1 ⟨rfl,rfl⟩) | (go_at_call_of 105 (Value.string ⟨#[63,94,96,123,125]⟩);refine (indexB _ _).mono ?_;rintro e w1 ⟨rfl,rfl⟩) | (go_at_call_of 105 (Value.string ⟨#[32,34,60,62]⟩);refine (indexC _ _).mono ?_;rintro e w1 ⟨rfl,rfl⟩))
 all_goals
  go_ret
  refine ⟨ret_bool ?_,rfl⟩;have ha:=HA.out;have hb:=HB.out;have hc:=HC.out
  try simp only [Bool.or_eq_true,Bool.and_eq_true,beq_iff_eq,decide_eq_true_eq,Bool.not_eq_true',decide_eq_false_iff_not,Bool.or_eq_false_iff,Bool.and_eq_false_iff,beq_eq_false_iff_ne,ne_eq] at *
  rw [Bool.eq_iff_iff,inSetI_iff]
  simp only [inSetP,Bool.or_eq_true,Bool.and_eq_true,beq_iff_eq,decide_eq_true_eq,Bool.false_eq_true,true_iff,false_iff,true_and,false_and,or_false,false_or]
  omega
theorem inSet_3 (c:Int) (w:World) (h0:0<=c) (h1:c<=255):
 Calls Tryz.prog 185 #[.int .u8 c,.int .i64 3] w fun e w'=>e = .returned (.bool (inSetI c 3))/\w=w':=by
 have HA:=hid (idxA_nonneg c h0 h1);have HB:=hid (idxB_nonneg c h0 h1);have HC:=hid (idxC_nonneg c h0 h1)
 go_enter Tryz.func185,Tryz.ntmps185
 go_wp2_with (first | (go_at_call_of 105 (Value.string ⟨#[47,58,59,61,64,91,92,93,124]⟩);refine (indexA _ _).mono ?_;rintro e w1 ⟨rfl,rfl⟩) | (go_at_call_of 105 (Value.string ⟨#[63,94,96,123,125]⟩);refine (indexB _ _).mono ?_;rintro e w1 ⟨rfl,rfl⟩) | (go_at_call_of 105 (Value.string ⟨#[32,34,60,62]⟩);refine (indexC _ _).mono ?_;rintro e w1 ⟨rfl,rfl⟩))
 all_goals
  go_ret
  refine ⟨ret_bool ?_,rfl⟩;have ha:=HA.out;have hb:=HB.out;have hc:=HC.out
  try simp only [Bool.or_eq_true,Bool.and_eq_true,beq_iff_eq,decide_eq_true_eq,Bool.not_eq_true',decide_eq_false_iff_not,Bool.or_eq_false_iff,Bool.and_eq_false_iff,beq_eq_false_iff_ne,ne_eq] at *
  rw [Bool.eq_iff_iff,inSetI_iff]
  simp only [inSetP,Bool.or_eq_true,Bool.and_eq_true,beq_iff_eq,decide_eq_true_eq,Bool.false_eq_true,true_iff,false_iff,true_and,false_and,or_false,false_or]
  omega
theorem inSet_4 (c:Int) (w:World) (h0:0<=c) (h1:c<=255):
 Calls Tryz.prog 185 #[.int .u8 c,.int .i64 4] w fun e w'=>e = .returned (.bool (inSetI c 4))/\w=w':=by
 have HA:=hid (idxA_nonneg c h0 h1);have HB:=hid (idxB_nonneg c h0 h1);have HC:=hid (idxC_nonneg c h0 h1)
 go_enter Tryz.func185,Tryz.ntmps185
 go_wp2_with (first | (go_at_call_of 105 (Value.string ⟨#[47,58,59,61,64,91,92,93,124]⟩);refine (indexA _ _).mono ?_;rintro e w1 ⟨rfl,rfl⟩) | (go_at_call_of 105 (Value.string ⟨#[63,94,96,123,125]⟩);refine (indexB _ _).mono ?_;rintro e w1 ⟨rfl,rfl⟩) | (go_at_call_of 105 (Value.string ⟨#[32,34,60,62]⟩);refine (indexC _ _).mono ?_;rintro e w1 ⟨rfl,rfl⟩))
 all_goals
  go_ret
  refine ⟨ret_bool ?_,rfl⟩;have ha:=HA.out;have hb:=HB.out;have hc:=HC.out
  try simp only [Bool.or_eq_true,Bool.and_eq_true,beq_iff_eq,decide_eq_true_eq,Bool.not_eq_true',decide_eq_false_iff_not,Bool.or_eq_false_iff,Bool.and_eq_false_iff,beq_eq_false_iff_ne,ne_eq] at *
  rw [Bool.eq_iff_iff,inSetI_iff]
  simp only [inSetP,Bool.or_eq_true,Bool.and_eq_true,beq_iff_eq,decide_eq_true_eq,Bool.false_eq_true,true_iff,false_iff,true_and,false_and,or_false,false_or]
  omega
theorem inSet_5 (c:Int) (w:World) (h0:0<=c) (h1:c<=255):
 Calls Tryz.prog 185 #[.int .u8 c,.int .i64 5] w fun e w'=>e = .returned (.bool (inSetI c 5))/\w=w':=by
 have HA:=hid (idxA_nonneg c h0 h1);have HB:=hid (idxB_nonneg c h0 h1);have HC:=hid (idxC_nonneg c h0 h1)
 go_enter Tryz.func185,Tryz.ntmps185
 go_wp2_with (first | (go_at_call_of 105 (Value.string ⟨#[47,58,59,61,64,91,92,93,124]⟩);refine (indexA _ _).mono ?_;rintro e w1 ⟨rfl,rfl⟩) | (go_at_call_of 105 (Value.string ⟨#[63,94,96,123,125]⟩);refine (indexB _ _).mono ?_;rintro e w1 ⟨rfl,rfl⟩) | (go_at_call_of 105 (Value.string ⟨#[32,34,60,62]⟩);refine (indexC _ _).mono ?_;rintro e w1 ⟨rfl,rfl⟩))
 all_goals
  go_ret
  refine ⟨ret_bool ?_,rfl⟩;have ha:=HA.out;have hb:=HB.out;have hc:=HC.out
  try simp only [Bool.or_eq_true,Bool.and_eq_true,beq_iff_eq,decide_eq_true_eq,Bool.not_eq_true',decide_eq_false_iff_not,Bool.or_eq_false_iff,Bool.and_eq_false_iff,beq_eq_false_iff_ne,ne_eq] at *
  rw [Bool.eq_iff_iff,inSetI_iff]
  simp only [inSetP,Bool.or_eq_true,Bool.and_eq_true,beq_iff_eq,decide_eq_true_eq,Bool.false_eq_true,true_iff,false_iff,true_and,false_and,or_false,false_or]
  omega
theorem inSet_6 (c:Int) (w:World) (h0:0<=c) (h1:c<=255):
 Calls Tryz.prog 185 #[.int .u8 c,.int .i64 6] w fun e w'=>e = .returned (.bool (inSetI c 6))/\w=w':=by
 have HA:=hid (idxA_nonneg c h0 h1);have HB:=hid (idxB_nonneg c h0 h1);have HC:=hid (idxC_nonneg c h0 h1)
 go_enter Tryz.func185,Tryz.ntmps185
 go_wp2_with (first | (go_at_call_of 105 (Value.string ⟨#[47,58,59,61,64,91,92,93,124]⟩);refine (indexA _ _).mono ?_;rintro e w1 ⟨rfl,rfl⟩) | (go_at_call_of 105 (Value.string ⟨#[63,94,96,123,125]⟩);refine (indexB _ _).mono ?_;rintro e w1 ⟨rfl,rfl⟩) | (go_at_call_of 105 (Value.string ⟨#[32,34,60,62]⟩);refine (indexC _ _).mono ?_;rintro e w1 ⟨rfl,rfl⟩))
 all_goals
  go_ret
  refine ⟨ret_bool ?_,rfl⟩;have ha:=HA.out;have hb:=HB.out;have hc:=HC.out
  try simp only [Bool.or_eq_true,Bool.and_eq_true,beq_iff_eq,decide_eq_true_eq,Bool.not_eq_true',decide_eq_false_iff_not,Bool.or_eq_false_iff,Bool.and_eq_false_iff,beq_eq_false_iff_ne,ne_eq] at *
  rw [Bool.eq_iff_iff,inSetI_iff]
  simp only [inSetP,Bool.or_eq_true,Bool.and_eq_true,beq_iff_eq,decide_eq_true_eq,Bool.false_eq_true,true_iff,false_iff,true_and,false_and,or_false,false_or]
  omega
theorem inSet_none (c set:Int) (w:World) (hs: ¬ (1<=set/\set<=6)):
 Calls Tryz.prog 185 #[.int .u8 c,.int .i64 set] w fun e w'=>e = .returned (.bool (inSetI c set))/\w=w':=by
 have h1:(set==1)=false:=by simp;omega
 have h2:(set==2)=false:=by simp;omega
 have h3:(set==3)=false:=by simp;omega
 have h4:(set==4)=false:=by simp;omega
 have h5:(set==5)=false:=by simp;omega
 have h6:(set==6)=false:=by simp;omega
 have HS:=hid hs;clear hs
 go_enter Tryz.func185,Tryz.ntmps185
 go_wp2
 go_ret
 refine ⟨ret_bool ?_,rfl⟩;rw [Bool.eq_iff_iff,inSetI_iff]
 have:=HS.out;simp only [inSetP,Bool.false_eq_true,false_iff]
 omega
theorem inSet_any (c set:Int) (w:World) (h0:0<=c) (h1:c<=255):
 Calls Tryz.prog 185 #[.int .u8 c,.int .i64 set] w fun e w'=>e = .returned (.bool (inSetI c set))/\w=w':=by
 by_cases hs:1<=set/\set<=6
 ·rcases (show set=1∨set=2∨set=3∨set=4∨set=5∨set=6 from by omega) with rfl | rfl | rfl | rfl | rfl | rfl
  ·exact inSet_1 c w h0 h1
  ·exact inSet_2 c w h0 h1
  ·exact inSet_3 c w h0 h1
  ·exact inSet_4 c w h0 h1
  ·exact inSet_5 c w h0 h1
  ·exact inSet_6 c w h0 h1
 ·exact inSet_none c set w hs
theorem percent_any (s:ByteArray) (set:Int) (w:World) (hs:s.size<=35184372088832):
 Calls Tryz.prog 153 #[.string s,.int .i64 set] w fun e w'=>e = .returned (.string ⟨(pct set s.data.toList).toArray⟩)/\Below w.heap.size w w':=by
 go_enter Tryz.func153,Tryz.ntmps153
 go_wp2
 go_loopw [10] (fun i wr=> ∃ k:Nat,k<=s.size/\i = .int .i64 k/\Lib.IsBuilderF 131 5 w.heap.size w.heap.size (Lib.byteCells (pct set (s.data.toList.take k))) wr/\Below w.heap.size w wr)
  (fun i _=>s.size - (intOf i).toNat)
 case atStart=>
  exact ⟨0,Nat.zero_le _,rfl,Lib.IsBuilderF.of (Lib.fresh_isBuilder 131 5 w),(Below.refl _ w).alloc (Nat.le_refl _) _⟩
 case round=>
  obtain ⟨k,hk,rfl,hI,hbw⟩:=hrel
  have hle:=pct_le set (s.data.toList.take k);have htl:(s.data.toList.take k).length<=k:=List.length_take_le _ _;by_cases hlt:k<s.size
  ·have HT:=hid (take_snoc s k hlt)
   have HP:=hid (pct_snoc set (s.data.toList.take k) s[k]);generalize pct set (s.data.toList.take k)=acc at *
   have hc8:s[k].toNat<256:=s[k].toNat_lt;by_cases hin:inSetI (s[k].toNat:Int) set=true
   ·go_wp2_with (first | (go_at_call 185;refine (inSet_any _ _ _ (by omega) (by omega)).mono ?_;rintro e w' ⟨rfl,rfl⟩))
    refine (writeByte_k w.heap.size w.heap.size _ 37 _ hI (by rw [Lib.byteCells_length];omega) hbw.size).mono ?_;rintro e w1 ⟨rfl,h1,b1,_⟩
    go_wp2_with fail
    rw [hexD_at];refine (writeByte_k w.heap.size w.heap.size _ _ _ (.inr h1) (by rw [List.length_append,Lib.byteCells_length];simp;omega) (by have:=hbw.size;have:=b1.size;omega)).mono ?_;rintro e w2 ⟨rfl,h2,b2,_⟩
    have ha:=and15 s[k].toNat hc8
    go_wp2_with fail
    rw [hexD_at];refine (writeByte_k w.heap.size w.heap.size _ _ _ (.inr h2) (by rw [List.length_append,List.length_append,Lib.byteCells_length];simp;omega) (by have:=hbw.size;have:=b1.size;have:=b2.size;omega)).mono ?_;rintro e w3 ⟨rfl,h3,b3,_⟩
    go_wp2
    go_roundw
    case rel=>
     refine ⟨k+1,by omega,by go_num,?_,((hbw.trans b1).trans b2).trans b3⟩;rw [HT.out,HP.out,pct1,hin,Lib.byteCells_append]
     refine .inr ?_;have e3:Lib.byteCells (esc s[k])=[.int .u8 37]++[.int .u8 (hexD (s[k].toNat / 16)).toNat]++[.int .u8 (hexD (s[k].toNat % 16)).toNat]:=rfl;rw [if_pos rfl,e3];simpa using h3
    case measure=>simp [intOf];omega
   ·have hin':inSetI (s[k].toNat:Int) set=false:=by simpa using hin
    clear hin
    go_wp2_with (first | (go_at_call 185;refine (inSet_any _ _ _ (by omega) (by omega)).mono ?_;rintro e w' ⟨rfl,rfl⟩))
    refine (writeByte_k w.heap.size w.heap.size _ _ _ hI (by rw [Lib.byteCells_length];omega) hbw.size).mono ?_;rintro e w1 ⟨rfl,h1,b1,_⟩
    go_wp2
    go_roundw
    case rel=>
     refine ⟨k+1,by omega,by go_num,?_,hbw.trans b1⟩;rw [HT.out,HP.out,pct1,hin',Lib.byteCells_append]
     exact .inr h1
    case measure=>simp [intOf];omega
  ·rw [take_all s k hlt] at hI
   go_wp2_with (go_at_call 90;refine (Tryz.Builder_String_any_k w.heap.size w.heap.size _ _ hI hbw.size).mono ?_)
   rintro e w1 ⟨rfl,_,b1,_⟩
   go_wp2
   go_ret
   exact ⟨rfl,hbw.trans b1⟩
theorem isForbidden_any (c:UInt8) (w:World):
 Calls Tryz.prog 244 #[.int .u8 c.toNat] w fun e w'=>e = .returned (.bool (forb c))/\w=w':=by
 have e1:((c.toNat:Int)).toNat.toUInt8=c:=by simp
 have HE:=hid e1;clear e1;have HF:=hid (show forb c=decide (0<=Lib.indexByte forbL c) from rfl)
 go_enter Tryz.func244,Tryz.ntmps244
 go_wp2_with (go_at_call 105;refine (Tryz.strings_IndexByte _ _ _).mono ?_;rintro e w' ⟨rfl,rfl⟩;rw [HE.out,show (⟨#[0,9,10,13,32,35,47,58,60,62,63,64,91,92,93,94,124]⟩:ByteArray).data.toList=forbL from rfl])
 go_ret
 rw [HF.out];exact ⟨rfl,rfl⟩
theorem all_at {p:UInt8->Bool} (s:ByteArray) (k:Nat) (h:k<s.size) (hp:p s[k]=false):s.data.toList.all p=false:=by
 rw [List.all_eq_false];refine ⟨s[k],?_,by simp [hp]⟩
 have:s[k]=s.data.toList[k]'(by simpa using h):=rfl
 rw [this];exact List.getElem_mem _
theorem any_at {p:UInt8->Bool} (s:ByteArray) (k:Nat) (h:k<s.size) (hp:p s[k]=true):s.data.toList.any p=true:=by
 rw [List.any_eq_true];refine ⟨s[k],?_,hp⟩
 have:s[k]=s.data.toList[k]'(by simpa using h):=rfl
 rw [this];exact List.getElem_mem _
theorem nameBytes_any (s:ByteArray) (w:World) (hs:s.size<=4000000000):
 Calls Tryz.prog 239 #[.string s] w fun e w'=>e = .returned (.bool (allN s.data.toList))/\w=w':=by
 go_enter Tryz.func239,Tryz.ntmps239
 go_wp2
 go_loop [7] (fun i=> ∃ k:Nat,k<=s.size/\i = .int .i64 k/\allN (s.data.toList.take k)=true) (fun i=>s.size - (intOf i).toNat)
 case atStart=>exact ⟨0,Nat.zero_le _,rfl,rfl⟩
 case round=>
  obtain ⟨k,hk,rfl,hall⟩:=hrel
  have HA:=hid hall;clear hall;by_cases hlt:k<s.size
  ·have HT:=hid (take_snoc s k hlt)
   have hc8:s[k].toNat<256:=s[k].toNat_lt;by_cases hb:nameB s[k]=true
   ·have hb2:=hb
    simp only [nameB,Bool.not_eq_true',Bool.or_eq_false_iff,decide_eq_false_iff_not,beq_eq_false_iff_ne] at hb2
    obtain ⟨h1,h2,h3,h4⟩:=hb2
    have h1':(33:Int)<=(s[k].toNat:Int):=by omega
    have h2':(s[k].toNat:Int)<=126:=by omega
    have h3':((s[k].toNat:Int)==37)=false:=by
     rw [beq_eq_false_iff_ne];intro e;apply h3;exact UInt8.toNat_inj.1 (by have:(37:UInt8).toNat=37:=rfl;omega)
    have HB:=hid hb;clear hb h1 h2 h3
    go_wp2_with (go_at_call 244;refine (isForbidden_any _ _).mono ?_;rintro e w' ⟨rfl,rfl⟩;rw [h4])
    go_round
    case rel=>exact ⟨k+1,by omega,by go_num,by rw [HT.out,allN,List.all_append,show List.all _ nameB=true from HA.out];simp [HB.out]⟩
    case measure=>simp [intOf];omega
   ·have hb':nameB s[k]=false:=by simpa using hb
    have HN:=hid (show allN s.data.toList=false from all_at s k hlt hb');have hb2:=hb';simp only [nameB,Bool.not_eq_false',Bool.or_eq_true,decide_eq_true_eq,beq_iff_eq] at hb2
    clear hb hb';by_cases h1:s[k].toNat<33
    ·have h1':(s[k].toNat:Int)<33:=by omega
     clear hb2
     go_wp2_with (go_at_call 244;refine (isForbidden_any _ _).mono ?_;rintro e w' ⟨rfl,rfl⟩)
     go_ret
     rw [HN.out];exact ⟨rfl,rfl⟩
    ·have h1':(33:Int)<=(s[k].toNat:Int):=by omega
     by_cases h2:126<s[k].toNat
     ·have h2':(126:Int)<(s[k].toNat:Int):=by omega
      clear hb2
      go_wp2_with (go_at_call 244;refine (isForbidden_any _ _).mono ?_;rintro e w' ⟨rfl,rfl⟩)
      go_ret
      rw [HN.out];exact ⟨rfl,rfl⟩
     ·have h2':(s[k].toNat:Int)<=126:=by omega
      by_cases h3:s[k]=37
      ·have h3':(s[k].toNat:Int)=37:=by rw [h3];rfl
       clear hb2 h3
       go_wp2_with (go_at_call 244;refine (isForbidden_any _ _).mono ?_;rintro e w' ⟨rfl,rfl⟩)
       go_ret
       rw [HN.out];exact ⟨rfl,rfl⟩
      ·have h4:forb s[k]=true:=by
        rcases hb2 with h | h | h | h
        ·exact absurd h h1
        ·exact absurd h h2
        ·exact absurd h h3
        ·exact h
       have h3':((s[k].toNat:Int)==37)=false:=by
        rw [beq_eq_false_iff_ne];intro e;apply h3;exact UInt8.toNat_inj.1 (by have:(37:UInt8).toNat=37:=rfl;omega)
       clear hb2 h3
       go_wp2_with (go_at_call 244;refine (isForbidden_any _ _).mono ?_;rintro e w' ⟨rfl,rfl⟩;rw [h4])
       go_ret
       rw [HN.out];exact ⟨rfl,rfl⟩
  ·have ha:=HA.out
   rw [take_all s k hlt] at ha;have HN:=hid ha;clear ha
   go_wp2
   go_ret
   rw [HN.out];exact ⟨rfl,rfl⟩
theorem coded_any (s:ByteArray) (w:World) (hg:Gd w) (hs:s.size<=4000000000):
 Calls Tryz.prog 240 #[.string s] w fun e w'=>e = .returned (.bool (coded s.data.toList))/\w=w':=by
 have HC:=hid (show coded s.data.toList=(Lib.hasPrefix s.data.toList [120,110,45,45]||Lib.contains s.data.toList [46,120,110,45,45]) from rfl);have HG:=hid hg;clear hg;by_cases h1:Lib.hasPrefix s.data.toList [120,110,45,45]=true
 ·go_enter Tryz.func240,Tryz.ntmps240
  go_wp2_with (first | (go_at_call 122;refine (hasPrefix_any _ _ _).mono ?_;rintro e w' ⟨rfl,rfl⟩) | (go_at_call 250;refine (contains_any _ _ _ HG.out hs).mono ?_;rintro e w' ⟨rfl,rfl⟩))
  go_ret
  rw [HC.out,h1]
  exact ⟨rfl,rfl⟩
 ·have h1':Lib.hasPrefix s.data.toList [120,110,45,45]=false:=by simpa using h1
  clear h1
  go_enter Tryz.func240,Tryz.ntmps240
  go_wp2_with (first | (go_at_call 122;refine (hasPrefix_any _ _ _).mono ?_;rintro e w' ⟨rfl,rfl⟩) | (go_at_call 250;refine (contains_any _ _ _ HG.out hs).mono ?_;rintro e w' ⟨rfl,rfl⟩))
  go_ret
  rw [HC.out,h1']
  exact ⟨rfl,rfl⟩
theorem ret_se {a b:ByteArray} {x y:Int} (h:a=b) (g:x=y):Ending.returned (.tuple #[.string a,.int .i64 x]) = .returned (.tuple #[.string b,.int .i64 y]):=by rw [h,g]
theorem txt_none {o:Option (List UInt8)} (h:o=none):(⟨#[]⟩:ByteArray)=⟨(o.getD []).toArray⟩:=by rw [h];rfl
theorem txt_some {o:Option (List UInt8)} {l:List UInt8} (h:o=some l):(⟨l.toArray⟩:ByteArray)=⟨(o.getD []).toArray⟩:=by rw [h];rfl
theorem parseOther_any (s:ByteArray) (w:World) (hs:s.size<=4000000000):
 Calls Tryz.prog 224 #[.string s] w fun e w'=>e = .returned (.tuple #[.string ⟨((otherV s.data.toList).getD []).toArray⟩,.int .i64 (er (otherV s.data.toList))])/\Below w.heap.size w w':=by
 go_enter Tryz.func224,Tryz.ntmps224
 go_wp2
 go_loop [7] (fun i=> ∃ k:Nat,k<=s.size/\i = .int .i64 k/\(s.data.toList.take k).any forb=false) (fun i=>s.size - (intOf i).toNat)
 case atStart=>exact ⟨0,Nat.zero_le _,rfl,rfl⟩
 case round=>
  obtain ⟨k,hk,rfl,hall⟩:=hrel
  have HA:=hid hall;clear hall;by_cases hlt:k<s.size
  ·have HT:=hid (take_snoc s k hlt)
   by_cases hb:forb s[k]=true
   ·have HN:=hid (show otherV s.data.toList=none by rw [otherV,if_pos (any_at s k hlt hb)])
    go_wp2_with (go_at_call 244;refine (isForbidden_any _ _).mono ?_;rintro e w' ⟨rfl,rfl⟩;rw [hb])
    go_ret2
    exact ⟨ret_se (txt_none HN.out) (er_none HN.out).symm,Below.refl _ _⟩
   ·have hb':forb s[k]=false:=by simpa using hb
    clear hb
    go_wp2_with (go_at_call 244;refine (isForbidden_any _ _).mono ?_;rintro e w' ⟨rfl,rfl⟩;rw [hb'])
    go_round
    case rel=>exact ⟨k+1,by omega,by go_num,by rw [HT.out,List.any_append,HA.out];simp [hb']⟩
    case measure=>simp [intOf];omega
  ·have ha:=HA.out
   rw [take_all s k hlt] at ha;have HN:=hid (show otherV s.data.toList=some (pct 1 s.data.toList) by rw [otherV,ha];rfl);clear ha
   go_wp2_with (go_at_call 153;refine (percent_any _ _ _ (by omega)).mono ?_;rintro e w1 ⟨rfl,hb1⟩)
   go_ret2
   exact ⟨ret_se (txt_some HN.out) (er_some HN.out).symm,hb1⟩
theorem nameV_bad {l:List UInt8} (h:l=[]∨allN l=false∨coded l=true):nameV l=none:=by rw [nameV,if_pos h]
theorem nameV_name {l:List UInt8} (h0:l≠[]) (h1:allN l=true) (h2:coded l=false) (h3:numberedV l=false):nameV l=some l:=by simp [nameV,h0,h1,h2,h3]
theorem nameV_num {l:List UInt8} (h0:l≠[]) (h1:allN l=true) (h2:coded l=false) (h3:numberedV l=true):nameV l=(fourV l).map text4:=by simp [nameV,h0,h1,h2,h3]
theorem fourN_lt: ∀ (r h:Nat) (l:List UInt8) (n:Nat),r<=4->h<2 ^ (8*(4 - r))->fourN r h l=some n->n<4294967296
 | 0,_,_,_,_,_,e=>by cases e
 | r+1,h,l,n,hr,hh,e=>by
   have ep:2 ^ (8*(4 - (r+1)))*2 ^ (8*(r+1))=4294967296:=by
    rw [<- Nat.pow_add,show 8*(4 - (r+1))+8*(r+1)=32 by omega]
   rw [fourN] at e;split at e
   ·cases e
   ·split at e
    ·split at e
     ·cases e
     ·refine fourN_lt r _ _ n (by omega) ?_ e
      have e2:8*(4 - r)=8*(4 - (r+1))+8:=by omega
      rw [e2,Nat.pow_add]
      omega
    ·split at e
     ·rename_i m _ _ hm
      cases e
      have h1:(h+1)*2 ^ (8*(r+1))<=2 ^ (8*(4 - (r+1)))*2 ^ (8*(r+1)):=Nat.mul_le_mul_right _ hh;rw [ep,Nat.add_mul,Nat.one_mul] at h1
      omega
     ·cases e
theorem fourV_lt {l:List UInt8} {n:Nat} (h:fourV l=some n):n<4294967296:=fourN_lt 4 0 _ n (by omega) (by decide) h
theorem parseName_any (s:ByteArray) (w:World) (hg:Gd w) (hs:s.size<=4000000000):
 Calls Tryz.prog 223 #[.string s] w fun e w'=>e = .returned (.tuple #[.string ⟨((nameV s.data.toList).getD []).toArray⟩,.int .i64 (er (nameV s.data.toList))])/\Below w.heap.size w w':=by
 have HG:=hid hg;clear hg;by_cases h0:s.data.toList=[]
 ·have HN:=hid (nameV_bad (l:=s.data.toList) (.inl h0))
  have he:=empty_yes s h0;clear h0
  go_enter Tryz.func223,Tryz.ntmps223
  go_wp2_with (first | (go_at_call 239;refine (nameBytes_any _ _ hs).mono ?_;rintro e w' ⟨rfl,rfl⟩))
  go_ret2
  exact ⟨ret_se (txt_none HN.out) (er_none HN.out).symm,Below.refl _ _⟩
 ·have he:=empty_no s h0
  have H0:=hid h0;clear h0;by_cases h1:allN s.data.toList=true
  ·by_cases h2:coded s.data.toList=true
   ·have HN:=hid (nameV_bad (l:=s.data.toList) (.inr (.inr h2)))
    go_enter Tryz.func223,Tryz.ntmps223
    go_wp2_with (first | (go_at_call 239;refine (nameBytes_any _ _ hs).mono ?_;rintro e w' ⟨rfl,rfl⟩;rw [h1]) | (go_at_call 240;refine (coded_any _ _ HG.out hs).mono ?_;rintro e w' ⟨rfl,rfl⟩;rw [h2]))
    go_ret2
    exact ⟨ret_se (txt_none HN.out) (er_none HN.out).symm,Below.refl _ _⟩
   ·have h2':coded s.data.toList=false:=by simpa using h2
    clear h2;by_cases h3:numberedV s.data.toList=true
    ·cases h4:fourV s.data.toList with
     | none=>
       have HN:=hid (show nameV s.data.toList=none by rw [nameV_num H0.out h1 h2' h3,h4];rfl);have e4:=er_none h4;clear h4
       go_enter Tryz.func223,Tryz.ntmps223
       go_wp2_with (first | (go_at_call 239;refine (nameBytes_any _ _ hs).mono ?_;rintro e w' ⟨rfl,rfl⟩;rw [h1]) | (go_at_call 240;refine (coded_any _ _ HG.out hs).mono ?_;rintro e w' ⟨rfl,rfl⟩;rw [h2']) | (go_at_call 241;refine (numbered_any _ _ hs).mono ?_;rintro e w' ⟨rfl,rfl⟩;rw [h3]) | (go_at_call 242;refine (four_any _ _ HG.out hs).mono ?_;rintro e w1 ⟨rfl,hb1⟩;rw [e4]))
       go_ret2
       exact ⟨ret_se (txt_none HN.out) (er_none HN.out).symm,hb1⟩
     | some n=>
       have HN:=hid (show nameV s.data.toList=some (text4 n) by rw [nameV_num H0.out h1 h2' h3,h4];rfl);have e4:=er_some h4;have g4:=getD_some h4;have hn:=fourV_lt h4;clear h4
       go_enter Tryz.func223,Tryz.ntmps223
       go_wp2_with (first | (go_at_call 239;refine (nameBytes_any _ _ hs).mono ?_;rintro e w' ⟨rfl,rfl⟩;rw [h1]) | (go_at_call 240;refine (coded_any _ _ HG.out hs).mono ?_;rintro e w' ⟨rfl,rfl⟩;rw [h2']) | (go_at_call 241;refine (numbered_any _ _ hs).mono ?_;rintro e w' ⟨rfl,rfl⟩;rw [h3]) | (go_at_call 242;refine (four_any _ _ HG.out hs).mono ?_;rintro e w1 ⟨rfl,hb1⟩;rw [e4,g4]) | (go_at_call 243;refine (text4_any _ _ (HG.out.kept hb1) hn).mono ?_;rintro e w2 ⟨rfl,hb2⟩))
       go_ret2
       exact ⟨ret_se (txt_some HN.out) (er_some HN.out).symm,below2 hb1 hb2⟩
    ·have h3':numberedV s.data.toList=false:=by simpa using h3
     clear h3;have HN:=hid (nameV_name H0.out h1 h2' h3')
     go_enter Tryz.func223,Tryz.ntmps223
     go_wp2_with (first | (go_at_call 239;refine (nameBytes_any _ _ hs).mono ?_;rintro e w' ⟨rfl,rfl⟩;rw [h1]) | (go_at_call 240;refine (coded_any _ _ HG.out hs).mono ?_;rintro e w' ⟨rfl,rfl⟩;rw [h2']) | (go_at_call 241;refine (numbered_any _ _ hs).mono ?_;rintro e w' ⟨rfl,rfl⟩;rw [h3']))
     go_ret2
     exact ⟨ret_se (by rw [HN.out];exact (Lib.mk_data s).symm) (er_some HN.out).symm,Below.refl _ _⟩
  ·have h1':allN s.data.toList=false:=by simpa using h1
   clear h1;have HN:=hid (nameV_bad (l:=s.data.toList) (.inr (.inl h1')))
   go_enter Tryz.func223,Tryz.ntmps223
   go_wp2_with (first | (go_at_call 239;refine (nameBytes_any _ _ hs).mono ?_;rintro e w' ⟨rfl,rfl⟩;rw [h1']))
   go_ret2
   exact ⟨ret_se (txt_none HN.out) (er_none HN.out).symm,Below.refl _ _⟩
theorem plainB_none {l:List UInt8} (h:valV 10 l=none):plainB l=none:=by rw [plainB,h]
theorem plainB_big {l:List UInt8} {n:Nat} (h:valV 10 l=some n) (h2:255<n∨l=[]∨(l.head? = some 48/\l≠[48])):plainB l=none:=by rw [plainB,h];simp only;rw [if_pos h2]
theorem plainB_some {l:List UInt8} {n:Nat} (h:valV 10 l=some n) (h2: ¬ (255<n∨l=[]∨(l.head? = some 48/\l≠[48]))):plainB l=some n:=by rw [plainB,h];simp only;rw [if_neg h2]
theorem ret_u32b {a b:Int} {x y:Bool} (h:a=b) (g:x=y):Ending.returned (.tuple #[.int .u32 a,.bool x]) = .returned (.tuple #[.int .u32 b,.bool y]):=by rw [h,g]
theorem list_ne (s:ByteArray) (l:List UInt8) (h:s.data.toList≠l):(s.toList==l)=false:=by
 rw [Lib.toList_data,beq_eq_false_iff_ne];exact h
theorem list_eq (s:ByteArray) (l:List UInt8) (h:s.data.toList=l):(s.toList==l)=true:=by
 rw [Lib.toList_data,h];simp
theorem plainByte_any (s:ByteArray) (w:World) (hs:s.size<=4000000000):
 Calls Tryz.prog 261 #[.string s] w fun e w'=>e = .returned (.tuple #[.int .u32 ((plainB s.data.toList).getD 0:Nat),.bool (plainB s.data.toList).isSome])/\w=w':=by
 cases hv:valV 10 s.data.toList with
 | none=>
   have HN:=hid (plainB_none hv);have h1:=isSome_none hv;clear hv
   go_enter Tryz.func261,Tryz.ntmps261
   go_wp2_with (go_at_call 260;refine (valueOf_any _ _ _ (by decide) (by omega)).mono ?_;rintro e w' ⟨rfl,rfl⟩;rw [h1])
   go_ret2
   exact ⟨ret_u32b (by rw [getD_none HN.out];rfl) (isSome_none HN.out).symm,rfl⟩
 | some n=>
   have h1:=isSome_some hv;have h2:=getD_some hv;have HV:=hid hv;clear hv;by_cases h255:255<n
   ·have HN:=hid (plainB_big HV.out (.inl h255))
    go_enter Tryz.func261,Tryz.ntmps261
    go_wp2_with (go_at_call 260;refine (valueOf_any _ _ _ (by decide) (by omega)).mono ?_;rintro e w' ⟨rfl,rfl⟩;rw [h1,h2])
    go_ret2
    exact ⟨ret_u32b (by rw [getD_none HN.out];rfl) (isSome_none HN.out).symm,rfl⟩
   ·have h255':(n:Int)<=255:=by omega
    by_cases h0:s.data.toList=[]
    ·have HN:=hid (plainB_big HV.out (.inr (.inl h0)))
     have he:=empty_yes s h0;clear h0
     go_enter Tryz.func261,Tryz.ntmps261
     go_wp2_with (go_at_call 260;refine (valueOf_any _ _ _ (by decide) (by omega)).mono ?_;rintro e w' ⟨rfl,rfl⟩;rw [h1,h2])
     go_ret2
     exact ⟨ret_u32b (by rw [getD_none HN.out];rfl) (isSome_none HN.out).symm,rfl⟩
    ·have he:=empty_no s h0
     have hz:0<s.size:=by
      have:0<s.data.toList.length:=List.length_pos_iff.2 h0;simpa using this
     have hz':(0:Int)<(s.size:Int):=by omega
     obtain ⟨r,hr⟩:=list_one s hz
     have hhead:s.data.toList.head? = some s[0]:=by rw [hr];rfl
     by_cases hc:s[0]=48
     ·have hc':(s[0].toNat:Int)=48:=by rw [hc];rfl
      by_cases h48:s.data.toList=[48]
      ·have HN:=hid (plainB_some HV.out (by rintro (h | h | ⟨_,h⟩);exact h255 h;exact h0 h;exact h h48))
       have hq:=list_eq s [48] h48;clear h0 hr hhead hc h48
       go_enter Tryz.func261,Tryz.ntmps261
       go_wp2_with (go_at_call 260;refine (valueOf_any _ _ _ (by decide) (by omega)).mono ?_;rintro e w' ⟨rfl,rfl⟩;rw [h1,h2])
       go_ret2
       exact ⟨ret_u32b (by rw [getD_some HN.out]) (isSome_some HN.out).symm,rfl⟩
      ·have HN:=hid (plainB_big HV.out (.inr (.inr ⟨by rw [hhead,hc],h48⟩)))
       have hq:=list_ne s [48] h48;clear h0 hr hhead hc h48
       go_enter Tryz.func261,Tryz.ntmps261
       go_wp2_with (go_at_call 260;refine (valueOf_any _ _ _ (by decide) (by omega)).mono ?_;rintro e w' ⟨rfl,rfl⟩;rw [h1,h2])
       go_ret2
       exact ⟨ret_u32b (by rw [getD_none HN.out];rfl) (isSome_none HN.out).symm,rfl⟩
     ·have HN:=hid (plainB_some HV.out (by rintro (h | h | ⟨h,_⟩);exact h255 h;exact h0 h;rw [hhead] at h;exact hc (Option.some.inj h)))
      have hc':((s[0].toNat:Int)==48)=false:=by
       rw [beq_eq_false_iff_ne];intro e;apply hc;exact UInt8.toNat_inj.1 (by have:(48:UInt8).toNat=48:=rfl;omega)
      clear h0 hr hhead hc
      go_enter Tryz.func261,Tryz.ntmps261
      go_wp2_with (go_at_call 260;refine (valueOf_any _ _ _ (by decide) (by omega)).mono ?_;rintro e w' ⟨rfl,rfl⟩;rw [h1,h2])
      go_ret2
      exact ⟨ret_u32b (by rw [getD_some HN.out]) (isSome_some HN.out).symm,rfl⟩
theorem plainB_le {l:List UInt8} {n:Nat} (h:plainB l=some n):n<=255:=by
 unfold plainB at h;split at h
 ·cases h
 ·split at h
  ·cases h
  ·cases h;omega
theorem dotN_none {r n:Nat} {l:List UInt8} (h:plainB (Lib.cut l [46]).1=none):dotN (r+1) n l=none:=by rw [dotN,h]
theorem dotN_off {r n b:Nat} {l:List UInt8} (h:plainB (Lib.cut l [46]).1=some b) (h2:(Lib.cut l [46]).2.2≠decide (r≠0)):dotN (r+1) n l=none:=by rw [dotN,h];simp only;rw [if_neg h2]
theorem dotN_on {r n b:Nat} {l:List UInt8} (h:plainB (Lib.cut l [46]).1=some b) (h2:(Lib.cut l [46]).2.2=decide (r≠0)):dotN (r+1) n l=dotN r (n*256+b) (Lib.cut l [46]).2.1:=by rw [dotN,h];simp only;rw [if_pos h2]
theorem or32_256 (h n:Nat) (hn:n<256) (hh:h<16777216):bits .or .u32 ((h:Int)*256) (n:Int)=(h:Int)*256+n:=by
 have e:(h:Int)*256=((h*256:Nat):Int):=by simp
 rw [e,u32_or_nat _ _ (by omega) (by omega),nat_join 8 _ _ (by omega) (by omega)]
 simp
theorem ret_dot {a b c d:Int} {x y:Bool} (h:a=b) (h2:c=d) (g:x=y):Ending.returned (.tuple #[.int .u16 a,.int .u16 c,.bool x]) = .returned (.tuple #[.int .u16 b,.int .u16 d,.bool y]):=by rw [h,h2,g]
theorem dotted_any (s:ByteArray) (w:World) (hg:Gd w) (hs:s.size<=4000000000):
 Calls Tryz.prog 256 #[.string s] w fun e w'=>e = .returned (.tuple #[.int .u16 ((dottedV s.data.toList).getD 0 / 65536:Nat),.int .u16 ((dottedV s.data.toList).getD 0 % 65536:Nat),.bool (dottedV s.data.toList).isSome])/\Below w.heap.size w w':=by
 have HG0:=hid hg;clear hg
 go_enter Tryz.func256,Tryz.ntmps256
 go_wp2
 go_loopg [5,6,14] 4 (fun r n rest i wr=> ∃ (h:Nat) (l:List UInt8),r<=4/\i = .int .i64 (4 - r)/\n = .int .u32 h/\rest = .string ⟨l.toArray⟩/\l.length<=4000000000/\h<2 ^ (8*(4 - r))/\dotN r h l=dottedV s.data.toList/\Below w.heap.size w wr)
 case atStart=>exact ⟨0,s.data.toList,by omega,rfl,rfl,by rw [Lib.mk_data],by simpa using hs,by decide,rfl,Below.refl _ _⟩
 case round=>
  obtain ⟨h,l,hr,rfl,rfl,rfl,hl,hh,hf,hbw⟩:=hrel
  have HF:=hid hf;clear hf;have HG:=hid (HG0.out.kept hbw);have hls:(⟨l.toArray⟩:ByteArray).size<=4000000000:=by show l.toArray.size<=_;simpa using hl
  cases gk with
  | zero=>
    have HN:=hid (show dottedV s.data.toList=some h by rw [<- HF.out];rfl);simp at hh
    go_wp2
    go_ret3
    exact ⟨ret_dot (by rw [getD_some HN.out];omega) (by rw [getD_some HN.out];first | omega | (rw [IntKind.wrap_u16];omega)) (isSome_some HN.out).symm,hbw⟩
  | succ r=>
    obtain ⟨⟨a,b,m⟩,hc⟩: ∃ x,Lib.cut l [46]=x:=⟨_,rfl⟩
    have HC:=hid hc;have hcl:=cut_le l [46];rw [hc] at hcl;obtain ⟨hal,hbl⟩:=hcl
    simp only at hal hbl;have hal':(⟨a.toArray⟩:ByteArray).size<=4000000000:=by show a.toArray.size<=_;simp;omega
    have hbl':b.length<=4000000000:=by omega
    clear hc;have hh32:h<16777216:=by
     obtain rfl | rfl | rfl | rfl:r=0∨r=1∨r=2∨r=3:=by omega
     all_goals simp at hh<;>omega
    cases hnum:plainB a with
    | none=>
      have HN:=hid (show dottedV s.data.toList=none by rw [<- HF.out];exact dotN_none (by rw [HC.out];exact hnum));have h1:=isSome_none hnum;clear hnum
      go_wp2_with (first | (go_at_call 19;refine (cut_any _ _ _ HG.out hls).mono ?_;rintro e w1 ⟨rfl,hb1⟩;rw [show (⟨l.toArray⟩:ByteArray).data.toList=l from rfl,show (⟨#[46]⟩:ByteArray).data.toList=[46] from rfl,HC.out]) | (go_at_call 261;refine (plainByte_any _ _ hal').mono ?_;rintro e w' ⟨rfl,rfl⟩;rw [show (⟨a.toArray⟩:ByteArray).data.toList=a from rfl,h1]))
      go_ret3
      exact ⟨ret_dot (by rw [getD_none HN.out];rfl) (by rw [getD_none HN.out];rfl) (isSome_none HN.out).symm,below2 hbw hb1⟩
    | some n=>
      have h1:=isSome_some hnum;have h2:=getD_some hnum;have hn:=plainB_le hnum;have HU:=hid (show plainB (Lib.cut l [46]).1=some n by rw [HC.out];exact hnum);have HM:=hid (show (Lib.cut l [46]).2.2=m by rw [HC.out]);clear hnum;by_cases hm:m=decide (r≠0)
      ·have HN:=hid (show dotN r (h*256+n) b=dottedV s.data.toList by rw [<- HF.out,dotN_on HU.out (by rw [HM.out];exact hm),HC.out])
       have hh2:h*256+n<2 ^ (8*(4 - r)):=by
        have e:8*(4 - r)=8*(4 - (r+1))+8:=by omega
        rw [e,Nat.pow_add]
        omega
       have ho:=or32_256 h n (by omega) (by omega)
       have HH:=hid hh2;clear hh2 hh;by_cases hr0:r=0
       ·subst hr0
        simp at hm;subst hm
        go_wp2_with (first | (go_at_call 19;refine (cut_any _ _ _ HG.out hls).mono ?_;rintro e w1 ⟨rfl,hb1⟩;rw [show (⟨l.toArray⟩:ByteArray).data.toList=l from rfl,show (⟨#[46]⟩:ByteArray).data.toList=[46] from rfl,HC.out]) | (go_at_call 261;refine (plainByte_any _ _ hal').mono ?_;rintro e w' ⟨rfl,rfl⟩;rw [show (⟨a.toArray⟩:ByteArray).data.toList=a from rfl,h1,h2]))
        go_roundg 0
        case measure=>omega
        case rel=>exact ⟨h*256+n,b,by omega,by go_num,by go_num,rfl,hbl',HH.out,HN.out,below2 hbw hb1⟩
       ·have hm':m=true:=by rw [hm];simp [hr0]
        subst hm';clear hm;have hr1:(4 - ((r:Int)+1))<3:=by omega
        go_wp2_with (first | (go_at_call 19;refine (cut_any _ _ _ HG.out hls).mono ?_;rintro e w1 ⟨rfl,hb1⟩;rw [show (⟨l.toArray⟩:ByteArray).data.toList=l from rfl,show (⟨#[46]⟩:ByteArray).data.toList=[46] from rfl,HC.out]) | (go_at_call 261;refine (plainByte_any _ _ hal').mono ?_;rintro e w' ⟨rfl,rfl⟩;rw [show (⟨a.toArray⟩:ByteArray).data.toList=a from rfl,h1,h2]))
        go_roundg r
        case measure=>omega
        case rel=>exact ⟨h*256+n,b,by omega,by go_num,by go_num,rfl,hbl',HH.out,HN.out,below2 hbw hb1⟩
      ·have HN:=hid (show dottedV s.data.toList=none by rw [<- HF.out];exact dotN_off HU.out (by rw [HM.out];exact hm))
       by_cases hr0:r=0
       ·subst hr0
        have hm':m=true:=by cases m<;>simp at hm ⊢
        subst hm';clear hm
        go_wp2_with (first | (go_at_call 19;refine (cut_any _ _ _ HG.out hls).mono ?_;rintro e w1 ⟨rfl,hb1⟩;rw [show (⟨l.toArray⟩:ByteArray).data.toList=l from rfl,show (⟨#[46]⟩:ByteArray).data.toList=[46] from rfl,HC.out]) | (go_at_call 261;refine (plainByte_any _ _ hal').mono ?_;rintro e w' ⟨rfl,rfl⟩;rw [show (⟨a.toArray⟩:ByteArray).data.toList=a from rfl,h1,h2]))
        go_ret3
        exact ⟨ret_dot (by rw [getD_none HN.out];rfl) (by rw [getD_none HN.out];rfl) (isSome_none HN.out).symm,below2 hbw hb1⟩
       ·have hm':m=false:=by cases m<;>simp [hr0] at hm ⊢
        subst hm';clear hm;have hr1:(4 - ((r:Int)+1))<3:=by omega
        go_wp2_with (first | (go_at_call 19;refine (cut_any _ _ _ HG.out hls).mono ?_;rintro e w1 ⟨rfl,hb1⟩;rw [show (⟨l.toArray⟩:ByteArray).data.toList=l from rfl,show (⟨#[46]⟩:ByteArray).data.toList=[46] from rfl,HC.out]) | (go_at_call 261;refine (plainByte_any _ _ hal').mono ?_;rintro e w' ⟨rfl,rfl⟩;rw [show (⟨a.toArray⟩:ByteArray).data.toList=a from rfl,h1,h2]))
        go_ret3
        exact ⟨ret_dot (by rw [getD_none HN.out];rfl) (by rw [getD_none HN.out];rfl) (isSome_none HN.out).symm,below2 hbw hb1⟩
end Go.Proofs.YtijpkalkfbejeaaGreatDoor
