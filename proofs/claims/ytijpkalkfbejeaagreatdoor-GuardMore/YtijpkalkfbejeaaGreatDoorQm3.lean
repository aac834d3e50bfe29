/- Walks and plain facts. -/
import Derived.Test.YtijpkalkfbejeaaGreatDoorQm1
set_option linter.unusedSimpArgs false
set_option linter.unusedVariables false
set_option maxHeartbeats 16000000
set_option maxRecDepth 100000

namespace Go.Proofs.YtijpkalkfbejeaaGreatDoor
def idxA (c:Int):Int:=Lib.indexByte [47,58,59,61,64,91,92,93,124] c.toNat.toUInt8
def idxB (c:Int):Int:=Lib.indexByte [63,94,96,123,125] c.toNat.toUInt8
def idxC (c:Int):Int:=Lib.indexByte [32,34,60,62] c.toNat.toUInt8
theorem index_nonneg (l:List UInt8) (b:UInt8):0<=Lib.indexByte l b ↔ b ∈ l:=by
 induction l with
 | nil=>simp [Lib.indexByte]
 | cons a l ih=>
   have hge:=Lib.indexByte_ge l b;unfold Lib.indexByte;by_cases h:a=b
   ·simp [h]
   ·have h2:(a==b)=false:=by simpa using h
    have h3: ¬ b=a:=fun e=>h e.symm
    rw [h2];by_cases h4:Lib.indexByte l b = -1
    ·have:b ∉ l:=by rw [<- ih,h4];decide
     simp [h4,h3,this]
    ·have:b ∈ l:=by rw [<- ih];omega
     simp [h4,this];omega
theorem byte_eq (c:Int) (h0:0<=c) (h1:c<=255) (k:Nat) (hk:k<256):c.toNat.toUInt8=UInt8.ofNat k ↔ c=(k:Int):=by
 obtain ⟨n,rfl⟩:=Int.eq_ofNat_of_zero_le h0
 rw [Int.toNat_natCast];constructor
 ·intro h
  have:=congrArg UInt8.toNat h;simp at this;omega
 ·intro h
  have:n=k:=by omega
  subst this;rfl
theorem idxA_nonneg (c:Int) (h0:0<=c) (h1:c<=255):0<=idxA c ↔ (c=47∨c=58∨c=59∨c=61∨c=64∨c=91∨c=92∨c=93∨c=124):=by
 have e:=fun k hk=>byte_eq c h0 h1 k hk
 unfold idxA;rw [index_nonneg];simp only [List.mem_cons,List.not_mem_nil,or_false]
 rw [show (47:UInt8)=UInt8.ofNat 47 from rfl,show (58:UInt8)=UInt8.ofNat 58 from rfl,show (59:UInt8)=UInt8.ofNat 59 from rfl,show (61:UInt8)=UInt8.ofNat 61 from rfl,show (64:UInt8)=UInt8.ofNat 64 from rfl,
  show (91:UInt8)=UInt8.ofNat 91 from rfl,show (92:UInt8)=UInt8.ofNat 92 from rfl,show (93:UInt8)=UInt8.ofNat 93 from rfl,show (124:UInt8)=UInt8.ofNat 124 from rfl]
 rw [e 47 (by omega),e 58 (by omega),e 59 (by omega),e 61 (by omega),e 64 (by omega),e 91 (by omega),e 92 (by omega),e 93 (by omega),e 124 (by omega)];simp
theorem idxB_nonneg (c:Int) (h0:0<=c) (h1:c<=255):0<=idxB c ↔ (c=63∨c=94∨c=96∨c=123∨c=125):=by
 have e:=fun k hk=>byte_eq c h0 h1 k hk
 unfold idxB;rw [index_nonneg];simp only [List.mem_cons,List.not_mem_nil,or_false]
 rw [show (63:UInt8)=UInt8.ofNat 63 from rfl,show (94:UInt8)=UInt8.ofNat 94 from rfl,show (96:UInt8)=UInt8.ofNat 96 from rfl,show (123:UInt8)=UInt8.ofNat 123 from rfl,show (125:UInt8)=UInt8.ofNat 125 from rfl];rw [e 63 (by omega),e 94 (by omega),e 96 (by omega),e 123 (by omega),e 125 (by omega)];simp
theorem idxC_nonneg (c:Int) (h0:0<=c) (h1:c<=255):0<=idxC c ↔ (c=32∨c=34∨c=60∨c=62):=by
 have e:=fun k hk=>byte_eq c h0 h1 k hk
 unfold idxC;rw [index_nonneg];simp only [List.mem_cons,List.not_mem_nil,or_false]
 rw [show (32:UInt8)=UInt8.ofNat 32 from rfl,show (34:UInt8)=UInt8.ofNat 34 from rfl,show (60:UInt8)=UInt8.ofNat 60 from rfl,show (62:UInt8)=UInt8.ofNat 62 from rfl];rw [e 32 (by omega),e 34 (by omega),e 60 (by omega),e 62 (by omega)];simp
abbrev inSetP (c set : Int) : Prop :=
 (1<=set/\set<=6)/\(c<32∨126<c∨(2<=set/\(c=32∨c=34∨c=60∨c=62))∨(set=2/\c=96)∨(3<=set/\c=35)∨(set=4/\c=39)∨(5<=set/\(c=63∨c=94∨c=96∨c=123∨c=125)) ∨
   (set=6/\(c=47∨c=58∨c=59∨c=61∨c=64∨c=91∨c=92∨c=93∨c=124)))
def inSetI (c set:Int):Bool:=decide (inSetP c set)
theorem inSetI_iff (c set:Int):inSetI c set=true ↔ inSetP c set:=by unfold inSetI;exact decide_eq_true_iff
def hexD (n:Nat):UInt8:=if n<10 then UInt8.ofNat (48+n) else UInt8.ofNat (55+n)
theorem hexD_at (n:Nat) (h:n<(ByteArray.mk #[48,49,50,51,52,53,54,55,56,57,65,66,67,68,69,70]).size):(ByteArray.mk #[48,49,50,51,52,53,54,55,56,57,65,66,67,68,69,70])[n]=hexD n:=by
 have h16:n<16:=h;rcases (show n=0∨n=1∨n=2∨n=3∨n=4∨n=5∨n=6∨n=7∨n=8∨n=9∨n=10∨n=11∨n=12∨n=13∨n=14∨n=15 from by omega) with
  rfl | rfl | rfl | rfl | rfl | rfl | rfl | rfl | rfl | rfl | rfl | rfl | rfl | rfl | rfl | rfl<;>rfl
theorem and15 (n:Nat) (h:n<256):bits .and .u8 (n:Int) 15=(n:Int) % 16:=by
 have:=u8_and_nat n 15 h (by omega)
 rw [nat_mask4] at this;simpa using this
def esc (c:UInt8):List UInt8:=[37,hexD (c.toNat / 16),hexD (c.toNat % 16)]
def pct1 (set:Int) (c:UInt8):List UInt8:=if inSetI c.toNat set then esc c else [c]
def pct (set:Int) (l:List UInt8):List UInt8:=l.flatMap (pct1 set)
theorem pct1_le (set:Int) (c:UInt8):(pct1 set c).length<=3:=by unfold pct1 esc;split<;>simp
theorem pct_snoc (set:Int) (l:List UInt8) (c:UInt8):pct set (l++[c])=pct set l++pct1 set c:=by simp [pct]
theorem pct_le (set:Int) (l:List UInt8):(pct set l).length<=3*l.length:=by
 induction l with
 | nil=>simp [pct]
 | cons c l ih=>
   have h1:=pct1_le set c;have h2:pct set (c::l)=pct1 set c++pct set l:=by simp [pct]
   rw [h2];simp;omega
def pcd (l:List UInt8):UInt8×Bool:=
 match l with
 | 37::a::b::_=>if is16I a.toNat&&is16I b.toNat then (UInt8.ofNat (val16I a.toNat*16+val16I b.toNat).toNat,true) else (37,false)
 | c::_=>(c,false)
 | []=>(0,false)
def unpctN:Nat->List UInt8->List UInt8
 | 0,_=>[]
 | _+1,[]=>[]
 | f+1,c::l=>(pcd (c::l)).1::unpctN f (if (pcd (c::l)).2 then l.drop 2 else l)
def unpct (l:List UInt8):List UInt8:=unpctN l.length l
theorem list_one (s:ByteArray) (h:0<s.size): ∃ r,s.data.toList=s[0]::r:=by
 have h':0<s.data.toList.length:=by simpa using h
 match hl:s.data.toList,h' with
 | a::r,_=>
   refine ⟨r,?_⟩
   have e:s[0]=s.data.toList[0]'(by rw [hl];simp):=rfl
   rw [e];simp [hl]
theorem list_three (s:ByteArray) (h:2<s.size): ∃ r,s.data.toList=s[0]::s[1]::s[2]::r:=by
 have h':2<s.data.toList.length:=by simpa using h
 match hl:s.data.toList,h' with
 | a::b::c::r,_=>
   refine ⟨r,?_⟩
   have e0:s[0]=s.data.toList[0]'(by rw [hl];simp):=rfl
   have e1:s[1]=s.data.toList[1]'(by rw [hl];simp):=rfl
   have e2:s[2]=s.data.toList[2]'(by rw [hl];simp):=rfl
   rw [e0,e1,e2];simp [hl]
theorem pcd_short (l:List UInt8) (c:UInt8) (h:(c::l).length<3):pcd (c::l)=(c,false):=by
 match l,h with
 | [],_=>unfold pcd;split<;>simp_all
 | [a],_=>unfold pcd;split<;>simp_all
theorem pcd_other (l:List UInt8) (c:UInt8) (h:c≠37):pcd (c::l)=(c,false):=by
 unfold pcd;split<;>simp_all
theorem pcd_three (a b:UInt8) (l:List UInt8):pcd (37::a::b::l)=if is16I a.toNat&&is16I b.toNat then (UInt8.ofNat (val16I a.toNat*16+val16I b.toNat).toNat,true) else (37,false):=rfl
theorem val16_lt (c:Int):0<=val16I c/\val16I c<16:=by unfold val16I;split<;>(try split)<;>(try split)<;>omega
theorem or16 (a b:Int):bits .or .u8 (val16I a*16) (val16I b)=((UInt8.ofNat (val16I a*16+val16I b).toNat).toNat:Int):=by
 have ha:=val16_lt a;have hb:=val16_lt b;obtain ⟨x,hx⟩:=Int.eq_ofNat_of_zero_le ha.1
 obtain ⟨y,hy⟩:=Int.eq_ofNat_of_zero_le hb.1
 rw [hx,hy]
 have e:(x:Int)*16=((x*16:Nat):Int):=by omega
 have e2:((x:Int)*16+y).toNat=x*16+y:=by omega
 rw [e2,e,u8_or_nat _ _ (by omega) (by omega),nat_join 4 _ _ (by omega) (by omega)]
 have:(UInt8.ofNat (x*16+y)).toNat=(x*16+y) % 256:=by simp
 rw [this]
 congr 1
 omega
theorem unpctN_fuel (f:Nat): ∀ (g:Nat) (l:List UInt8),l.length<=f->l.length<=g->unpctN f l=unpctN g l:=by
 induction f with
 | zero=>
   intro g l h _;have:l=[]:=List.eq_nil_of_length_eq_zero (by omega)
   subst this
   cases g<;>rfl
 | succ f ih=>
   intro g l h hg
   match l,g,h,hg with
   | [],g,_,_=>cases g<;>rfl
   | c::l,0,_,hg=>simp at hg
   | c::l,g+1,h,hg=>
     simp only [List.length_cons] at h hg;show _::unpctN f _=_::unpctN g _;rw [ih g _ ?_ ?_]
     ·split
      ·simp;omega
      ·omega
     ·split
      ·simp;omega
      ·omega
theorem unpct_cons (c:UInt8) (l:List UInt8):unpct (c::l)=(pcd (c::l)).1::unpct (if (pcd (c::l)).2 then l.drop 2 else l):=by
 show _::unpctN l.length _=_;unfold unpct;rw [unpctN_fuel l.length _ _ ?_ (Nat.le_refl _)];split
 ·simp
 ·omega
theorem pcd_len (l:List UInt8) (h:(pcd l).2=true):3<=l.length:=by
 unfold pcd at h;split at h
 ·simp
 ·simp at h
 ·simp at h
theorem drop_cons (s:ByteArray) (k:Nat) (h:k<s.size):s.data.toList.drop k=s[k]::s.data.toList.drop (k+1):=by
 rw [List.drop_eq_getElem_cons (by simpa using h)];rfl
theorem drop_none (s:ByteArray) (k:Nat) (h: ¬ k<s.size):s.data.toList.drop k=[]:=List.drop_eq_nil_iff.2 (by simp;omega)
theorem extract_drop (s:ByteArray) (k:Nat):(s.extract k s.size).data.toList=s.data.toList.drop k:=by
 rw [Lib.extract_data,List.take_of_length_le (by simp)]
def ten (n d:Int):Int:=if (9223372036854775807 - d) / 10<n then 9223372036854775807 else n*10+d
def numI (l:List UInt8):Int:=l.foldl (fun n c=>ten n ((c.toNat:Int) - 48)) 0
def digP (c:UInt8):Bool:=digitI c.toNat
def intV (l:List UInt8):Int:=if l.all digP && !l.isEmpty then numI l else 0
def intOk (l:List UInt8):Bool:=l.all digP && !l.isEmpty
theorem numI_snoc (l:List UInt8) (c:UInt8):numI (l++[c])=ten (numI l) ((c.toNat:Int) - 48):=by simp [numI]
theorem ten_range (n d:Int) (h:0<=n/\n<=9223372036854775807) (hd:0<=d/\d<=9):0<=ten n d/\ten n d<=9223372036854775807:=by
 unfold ten;split<;>omega
theorem numI_range (l:List UInt8) (h:l.all digP=true):0<=numI l/\numI l<=9223372036854775807:=by
 suffices H: ∀ (l:List UInt8) (n:Int),0<=n/\n<=9223372036854775807->l.all digP=true->0<=l.foldl (fun n c=>ten n ((c.toNat:Int) - 48)) n/\l.foldl (fun n c=>ten n ((c.toNat:Int) - 48)) n<=9223372036854775807 from H l 0 (by omega) h
 intro l
 induction l with
 | nil=>intro n h _;exact h
 | cons c l ih=>
   intro n hn hall;simp only [List.all_cons,Bool.and_eq_true] at hall
   refine ih _ (ten_range n _ hn ?_) hall.2;have:=hall.1;simp [digP,digitI] at this
   omega
open Go.RowKit
theorem timesTenAnd_any (n d:Int) (w:World) (h0:0<=n) (h1:n<=9223372036854775807) (h2:0<=d) (h3:d<=9):
 Calls Tryz.prog 202 #[.int .i64 n,.int .i64 d] w fun e w'=>e = .returned (.int .i64 (ten n d))/\w=w':=by
 by_cases h:(9223372036854775807 - d) / 10<n
 ·have HT:=hid (show ten n d=9223372036854775807 by unfold ten;rw [if_pos h])
  go_enter Tryz.func202,Tryz.ntmps202
  go_wp2
  go_ret
  exact ⟨ret_int HT.out.symm,rfl⟩
 ·have HT:=hid (show ten n d=n*10+d by unfold ten;rw [if_neg h])
  have h':n<=(9223372036854775807 - d) / 10:=by omega
  clear h
  go_enter Tryz.func202,Tryz.ntmps202
  go_wp2
  go_ret
  exact ⟨ret_int HT.out.symm,rfl⟩
theorem int_any (s:ByteArray) (w:World) (hs:s.size<=140737488351232):
 Calls Tryz.prog 168 #[.string s] w fun e w'=>e = .returned (.tuple #[.int .i64 (intV s.data.toList),.bool (intOk s.data.toList)])/\w=w':=by
 by_cases he:s.size=0
 ·have hl:s.data.toList=[]:=List.eq_nil_of_length_eq_zero (by simpa using he)
  have he':s.toList.isEmpty=true:=by rw [Lib.toList_data,hl];rfl
  have HV:=hid (show intV s.data.toList=0 by rw [hl];rfl);have HO:=hid (show intOk s.data.toList=false by rw [hl];rfl);clear hl
  go_enter Tryz.func168,Tryz.ntmps168
  go_wp2
  go_ret2
  exact ⟨ret_ib HV.out.symm HO.out.symm,rfl⟩
 ·have hl:s.data.toList.isEmpty=false:=by
   rw [List.isEmpty_eq_false_iff];intro h;apply he;have:=congrArg List.length h;simpa using this
  have he':s.toList.isEmpty=false:=by rw [Lib.toList_data,hl]
  have HL:=hid hl;clear hl
  go_enter Tryz.func168,Tryz.ntmps168
  go_wp2
  go_loop [4,10] (fun n i=> ∃ k:Nat,k<=s.size/\i = .int .i64 k/\(s.data.toList.take k).all digP=true/\n = .int .i64 (numI (s.data.toList.take k))) (fun _ i=>s.size - (intOf i).toNat)
  case atStart=>exact ⟨0,Nat.zero_le _,rfl,rfl,rfl⟩
  case round=>
   obtain ⟨k,hk,rfl,hall,rfl⟩:=hrel
   have hr:=numI_range _ hall;have HA:=hid hall;clear hall;by_cases hlt:k<s.size
   ·have HT:=hid (take_snoc s k hlt)
    have HN:=hid (numI_snoc (s.data.toList.take k) s[k]);generalize numI (s.data.toList.take k)=n at *
    by_cases hd:digitI (s[k].toNat:Int)=true
    ·have hd2:48<=(s[k].toNat:Int)/\(s[k].toNat:Int)<=57:=by simp [digitI] at hd;omega
     obtain ⟨hd3,hd4⟩:=hd2
     go_wp2_with (first | (go_at_call 201;refine (digit_any _ _).mono ?_;rintro e w' ⟨rfl,rfl⟩) | (go_at_call 202;refine (timesTenAnd_any _ _ _ (by omega) (by omega) (by omega) (by omega)).mono ?_;rintro e w' ⟨rfl,rfl⟩))
     go_round
     case rel=>exact ⟨k+1,by omega,by go_num,by rw [HT.out,List.all_append,HA.out];simp [digP,hd],by rw [HT.out,HN.out]⟩
     case measure=>simp [intOf];omega
    ·have hd':digitI (s[k].toNat:Int)=false:=by simpa using hd
     clear hd
     go_wp2_with (go_at_call 201;refine (digit_any _ _).mono ?_;rintro e w' ⟨rfl,rfl⟩)
     go_ret2
     have:s.data.toList.all digP=false:=by
      rw [List.all_eq_false];refine ⟨s[k],?_,by simp [digP,hd']⟩
      have:s[k]=s.data.toList[k]'(by simpa using hlt):=rfl
      rw [this];exact List.getElem_mem _
     exact ⟨ret_ib (by simp [intV,this]) (by simp [intOk,this]),rfl⟩
   ·have ha:=HA.out
    rw [take_all s k hlt] at ha ⊢;have ha':=hid ha;clear ha
    go_wp2
    go_ret2
    exact ⟨ret_ib (by simp [intV,ha'.out,HL.out]) (by simp [intOk,ha'.out,HL.out]),rfl⟩
theorem sizeBuilder:(Tryz.prog.info? 131).map (·.size)=some 2:=by kernel_rfl
theorem liesBuilder:liesAt Tryz.prog Tryz.prog.depth 131 (2 / Tryz.prog.cellsOf 131) 0 131 1=true:=by kernel_rfl
theorem infoByte:(Tryz.prog.info? 5).map (fun i=>(i.zero,i.size,i.bytes))=some (some (.int .u8 0),1,1):=by kernel_rfl
theorem copyCheck_fresh (b:Nat) (w:World) (h0:w.cell? ⟨b,0,none⟩=some (.pointer none)) (hsh:w.shape? b=some (131,2)) (hfz:w.frozen? ⟨b,0,none⟩=false):
 Calls Tryz.prog 117 #[.pointer (some ⟨b,0,none⟩)] w fun e w'=>e = .returned (.tuple #[])/\w'=w.setCell ⟨b,0,none⟩ (.pointer (some ⟨b,0,none⟩)):=by
 obtain ⟨j,hj,hjs⟩:=Option.map_eq_some_iff.1 sizeBuilder
 go_enter Tryz.func117,Tryz.ntmps117
 go_wp2
 rw [Lib.run_to_unsafe w ⟨b,0,none⟩ Tryz.underlying129 Tryz.underlying191 hj (by rw [hjs];decide) hsh (Nat.zero_lt_succ 1)];simp only [Result.andThen];rw [Oper.upon_value]
 go_wp2
 rw [run_callFunc_extern Tryz.func158 (by kernel_rfl) (by kernel_rfl) (by kernel_rfl) (e:=Extern.AbiNoEscape.same) (by kernel_rfl)];rw [Lib.run_noEscape];simp only [Result.andThen];rw [Oper.upon_value]
 go_wp2
 rw [Lib.run_from_unsafe w ⟨b,0,none⟩ Tryz.underlying191 Tryz.underlying129 hj hsh liesBuilder];simp only [Result.andThen];rw [Oper.upon_value]
 go_wp2
 go_end0
 exact ⟨rfl,rfl⟩
theorem copyCheck_used (b:Nat) (w:World) (h0:w.cell? ⟨b,0,none⟩=some (.pointer (some ⟨b,0,none⟩))):
 Calls Tryz.prog 117 #[.pointer (some ⟨b,0,none⟩)] w fun e w'=>e = .returned (.tuple #[])/\w'=w:=by
 obtain ⟨j,hj,hjs⟩:=Option.map_eq_some_iff.1 sizeBuilder
 go_enter Tryz.func117,Tryz.ntmps117
 go_wp2
 rw [Lib.run_neq_ptr_same w _ Tryz.underlying129 hj]
 go_wp2
 go_end0
 exact ⟨rfl,rfl⟩
theorem copyCheck_k (B b:Nat) (bs:List Value) (w:World) (h:Lib.IsBuilderF 131 5 B b bs w):
 Calls Tryz.prog 117 #[.pointer (some ⟨b,0,none⟩)] w fun e w'=>e = .returned (.tuple #[])/\(Lib.BuilderAtF 131 5 B b (.pointer (some ⟨b,0,none⟩)) bs w'/\Below B w w'/\Lib.OthersKept 5 (some b) w w'):=by
 rcases h with h | h
 ·refine (copyCheck_fresh b w h.cell0 h.shape h.frozen0).mono ?_
  rintro e w' ⟨rfl,rfl⟩
  exact ⟨rfl,h.used _,(Below.refl B w).setCell (p:=⟨b,0,none⟩) h.1 _,(Lib.OthersKept.refl _ _ w).setCell ⟨b,0,none⟩ rfl _⟩
 ·refine (copyCheck_used b w h.cell0).mono ?_
  rintro e w' ⟨rfl,rfl⟩
  exact ⟨rfl,h,Below.refl B _,Lib.OthersKept.refl _ _ _⟩
theorem writeByte_k (B b:Nat) (bs:List Value) (c:Int) (w:World) (h:Lib.IsBuilderF 131 5 B b bs w) (hlen:bs.length+1<=140737488355328) (hBw:B<=w.heap.size):
 Calls Tryz.prog 186 #[.pointer (some ⟨b,0,none⟩),.int .u8 c] w fun e w'=>e = .returned .nilIface/\(Lib.BuilderAtF 131 5 B b (.pointer (some ⟨b,0,none⟩)) (bs++[.int .u8 c]) w'/\Below B w w'/\Lib.OthersKept 5 (some b) w w'):=by
 obtain ⟨i0,hi,hz0,hz1,hz2⟩:=info_parts infoByte
 go_enter Tryz.func186,Tryz.ntmps186
 go_wp2_with (go_at_call 117;refine (copyCheck_k B b bs _ h).mono ?_)
 rintro e w1 ⟨rfl,h1,hb1,hk1⟩
 obtain ⟨hB,v,hbk,hown,hne⟩:=h1
 have c0:w1.cell? ⟨b,0,none⟩=some (.pointer (some ⟨b,0,none⟩)):=by rw [Lib.cell_of_heap hbk];rfl
 have c1:w1.cell? ⟨b,1,none⟩=some v:=by rw [Lib.cell_of_heap hbk];rfl
 go_wp2_with (at_builtin;refine wpList_append_ownF _ rfl _ _ 92 rfl B 5 i0 (.int .u8 0) 1 1 Tryz.underlying92 hi hz0 hz1 hz2 rfl (by decide) _ _ _ rfl (hown.alloc _) ⟨w1.heap.size,0,none⟩ 1 1 [.int .u8 c] rfl rfl ?c1 ?c2 ?c3 ?c4 ?c5 ?_)
 case c1=>
  intro j u hj
  match j,hj with
  | 0,hj=>simp at hj;subst hj;simp [Addr.add]
 case c2=>intro u hu;simp at hu;subst hu;rfl
 case c3=>unfold maxLen;omega
 case c4=>omega
 case c5=>have:=hb1.size;simp;omega
 intro v' w2 hown' hgrow _;have hlt:b<w1.heap.size:=by
  rcases Nat.lt_or_ge b w1.heap.size with h' | h'
  ·exact h'
  ·simp [Array.getElem?_eq_none h'] at hbk
 have hb2:w2.heap[b]? = some (.cells #[.pointer (some ⟨b,0,none⟩),v] 131 (0,0)):=by
  rw [hgrow.block b (by simp;omega) (fun e=>hne e.symm),Lib.alloc_old w1 _ b hlt];exact hbk
 have d0:w2.cell? ⟨b,0,none⟩=some (.pointer (some ⟨b,0,none⟩)):=by rw [Lib.cell_of_heap hb2];rfl
 have d1:w2.cell? ⟨b,1,none⟩=some v:=by rw [Lib.cell_of_heap hb2];rfl
 have f1:w2.frozen? ⟨b,1,none⟩=false:=Lib.frozen_of_heap hb2 1
 obtain ⟨g,cap,rfl⟩: ∃ g cap,v' = .slice (some ⟨g,0,none⟩) (bs.length+1) cap:=by
  rcases hown'.2 with ⟨_,h0⟩ | ⟨g,cap,cur,fz,hv,_⟩
  ·omega
  ·exact ⟨g,cap,hv⟩
 go_wp2
 go_ret
 refine ⟨rfl,?_,?_,((hk1.alloc _).grown hgrow (Lib.ownsRowF_kind (hown.alloc _))).setCell ⟨b,1,none⟩ rfl _⟩
 ·exact Lib.BuilderAtF.put (T:=131) (e:=5) hB hb2 (bs':=bs++[.int .u8 c]) (by simpa using hown') (by decide)
 ·exact ((hb1.alloc (by have:=hb1.size;omega) _).grown hgrow (by have:=hb1.size;simp;omega) (fun k hk=>(hown.lt k hk).1)).setCell (p:=⟨b,1,none⟩) hB _
theorem rblank_any (c:Int) (w:World):
 Calls Tryz.prog 53 #[.int .u8 c] w fun e w'=>e = .returned (.bool (blankI c))/\w=w':=by
 go_enter Tryz.func53,Tryz.ntmps53
 go_wp2
 all_goals
  go_ret
  exact ⟨ret_bool (by simp [blankI,Bool.or_assoc, *]),rfl⟩
theorem rlower_av (s:ByteArray) (w:World) (hs:s.size<=140737488351232):
 Calls Tryz.prog 30 #[.string s] w fun e w'=>e = .returned (.string ⟨(low s.data.toList).toArray⟩)/\Below w.heap.size w w':=by
 have hcv:=run_bytes_of_string (P:=Tryz.prog) w 9 92 5 s Tryz.underlying9 Tryz.underlying92 Tryz.underlying5;have hcap:=grownCap_ge w s.size 0 5;have hr0:=rowIs_bytes w 5 s (grownCap w s.size 0 5) hcap;have hb0:Below w.heap.size w (w.drew.alloc (.cells (bytesRow s (grownCap w s.size 0 5)) 5 ((bytesRow s (grownCap w s.size 0 5)).size,(bytesRow s (grownCap w s.size 0 5)).size+1))):=(Below.refl _ w).drew.alloc (Nat.le_refl _) _
 generalize (w.drew.alloc (.cells (bytesRow s (grownCap w s.size 0 5)) 5 ((bytesRow s (grownCap w s.size 0 5)).size,(bytesRow s (grownCap w s.size 0 5)).size+1)))=w0 at hcv hr0 hb0;generalize grownCap w s.size 0 5=cap at hcv hcap
 go_enter Tryz.func30,Tryz.ntmps30
 go_wp2
 clear hcv
 go_loopw [4] (fun i wr=> ∃ k:Nat,k<=s.size/\i = .int .i64 k/\rowIs wr w.heap.size 5 (lowTo s.data.toList k)/\Below w.heap.size w wr)
  (fun i _=>s.size - (intOf i).toNat)
 case atStart=>exact ⟨0,Nat.zero_le _,rfl,by rw [lowTo_zero];exact hr0,hb0⟩
 case round=>
  obtain ⟨k,hk,rfl,hr,hbw⟩:=hrel
  by_cases hlt:k<s.size
  ·have hl:k<s.data.toList.length:=by simpa using hlt
   have hl':k<(lowTo s.data.toList k).length:=by rw [lowTo_length];exact hl
   have hc:=hr.cell k hl';rw [lowTo_at _ _ hl] at hc;have hf:=hr.frozen k hl';have hsucc:=lowTo_succ s.data.toList k hl;have hat:=lowTo_at s.data.toList k hl hl';generalize s.data.toList[k]=c at hc hsucc hat;have HS:=hid hsucc;have HAt:=hid hat;clear hsucc hat;have hc8:c.toNat<256:=c.toNat_lt;by_cases hu:65<=c.toNat/\c.toNat<=90
   ·have h1:(65:Int)<=(c.toNat:Int):=by omega
    have h2:(c.toNat:Int)<=90:=by omega
    have HL:=hid (lowC_yes c hu);clear hu
    go_wp2
    go_roundw
    case rel=>
     refine ⟨k+1,by omega,by go_num,?_,hbw.setCell (p:=⟨w.heap.size,k,none⟩) (Nat.le_refl _) _⟩;rw [HS.out,<- HL.out]
     exact hr.set k _
    case measure=>simp [intOf];omega
   ·have HL:=hid (lowC_no c hu)
    have hu':(c.toNat:Int)<65∨90<(c.toNat:Int):=by omega
    clear hu;rcases hu' with h1 | h1
    all_goals
     go_wp2
     go_roundw
     case rel=>
      refine ⟨k+1,by omega,by go_num,?_,hbw⟩;have e:lowC c=(lowTo s.data.toList k)[k]:=by rw [HL.out,HAt.out]
      rw [HS.out,e,List.set_getElem_self]
      exact hr
     case measure=>simp [intOf];omega
  ·have hk':k=s.data.toList.length:=by simp;omega
   have hr':rowIs wr w.heap.size 5 (low s.data.toList):=by rw [<- lowTo_all,<- hk'];exact hr
   clear hr hk';have hcv:=hr'.string (P:=Tryz.prog) (src:=92) (dst:=9) (cap:=cap) Tryz.underlying92 Tryz.underlying5 Tryz.underlying9;rw [show (low s.data.toList).length=s.size by simp [low]] at hcv
   go_wp2
   go_ret
   exact ⟨rfl,hbw⟩
theorem cast_beq9 (n k:Nat):((n:Int)==(k:Int))=(n==k):=by
 by_cases h:n=k
 ·subst h;simp
 ·rw [beq_eq_false_iff_ne.2 h,beq_eq_false_iff_ne]
  omega
theorem blank_bl9 (c:UInt8):blankI (c.toNat:Int)=bl9 c:=by
 have h1:=cast_beq9 c.toNat 9;have h2:=cast_beq9 c.toNat 10;have h3:=cast_beq9 c.toNat 12;have h4:=cast_beq9 c.toNat 13;have h5:=cast_beq9 c.toNat 32;unfold blankI bl9 p9;show (((c.toNat:Int)==((9:Nat):Int))||(((c.toNat:Int)==((10:Nat):Int))||(((c.toNat:Int)==((12:Nat):Int))||(((c.toNat:Int)==((13:Nat):Int))||((c.toNat:Int)==((32:Nat):Int))))))=_;rw [h1,h2,h3,h4,h5]
 simp only [Bool.or_assoc]
def WdI (l:List UInt8) (k f:Nat) (out:List (List UInt8)):Prop:=
 f<=k/\(∀ j (h:j<l.length),f<=j->j<k->bl9 l[j]=false)/\words9 l=out++wdsF (l.drop k) ((l.drop f).take (k - f))
theorem wd_start (l:List UInt8):WdI l 0 0 []:=⟨Nat.le_refl _,fun j _ _ h=>by omega,by simp [words9]⟩
theorem wd_plain {l:List UInt8} {k f:Nat} {out:List (List UInt8)} (h:WdI l k f out) (hk:k<l.length) (hc:bl9 l[k]=false):WdI l (k+1) f out:=by
 obtain ⟨h1,h2,h3⟩:=h
 refine ⟨by omega,fun j hj a b=> ?_,?_⟩
 ·by_cases hjk:j=k
  ·subst hjk;exact hc
  ·exact h2 j hj a (by omega)
 ·rw [h3,List.drop_eq_getElem_cons hk,wdsF,if_neg (by rw [hc];decide)]
  congr 2
  rw [show k+1 - f=(k - f)+1 by omega,List.take_add_one,List.getElem?_drop,show f+(k - f)=k by omega,List.getElem?_eq_getElem hk];rfl
theorem wd_blank {l:List UInt8} {k f:Nat} {out:List (List UInt8)} (h:WdI l k f out) (hk:k<l.length) (hc:bl9 l[k]=true):WdI l (k+1) (k+1) (out++(if f<k then [(l.drop f).take (k - f)] else [])):=by
 obtain ⟨h1,h2,h3⟩:=h
 refine ⟨Nat.le_refl _,fun j hj a b=>by omega,?_⟩;rw [h3,List.drop_eq_getElem_cons hk,wdsF,if_pos hc,Nat.sub_self,List.take_zero]
 by_cases hfk:f<k
 ·have hne:(l.drop f).take (k - f)≠[]:=by
   intro e;have:=congrArg List.length e;rw [List.length_take,List.length_drop] at this
   simp at this;omega
  rw [if_neg hne,if_pos hfk,List.append_assoc];rfl
 ·have he:(l.drop f).take (k - f)=[]:=by rw [show k - f=0 by omega,List.take_zero]
  rw [if_pos he,if_neg hfk,List.append_nil]
theorem wd_end {l:List UInt8} {f:Nat} {out:List (List UInt8)} (h:WdI l l.length f out):words9 l=out++(if f<l.length then [(l.drop f).take (l.length - f)] else []):=by
 obtain ⟨h1,h2,h3⟩:=h
 rw [h3,List.drop_eq_nil_of_le (Nat.le_refl _),wdsF]
 congr 1
 by_cases hfk:f<l.length
 ·have hne:(l.drop f).take (l.length - f)≠[]:=by
   intro e;have:=congrArg List.length e;rw [List.length_take,List.length_drop] at this
   simp at this;omega
  rw [if_neg hne,if_pos hfk]
 ·have he:(l.drop f).take (l.length - f)=[]:=by rw [show l.length - f=0 by omega,List.take_zero]
  rw [if_pos he,if_neg hfk]
def cT9 (L:List (List UInt8)):List Value:=L.map fun x=>Value.string ⟨x.toArray⟩
theorem infoTx9:(Tryz.prog.info? 9).map (fun i=>(i.zero,i.size,i.bytes))=some (some (.string ByteArray.empty),1,16):=by kernel_rfl
theorem ext_list9 (s:ByteArray) (f k:Nat):s.extract f k=⟨((s.data.toList.drop f).take (k - f)).toArray⟩:=by
 rw [<- Lib.mk_data (s.extract f k)]
 congr 2
 rw [<- ByteArray.toList_eq,Lib.extract_toList]
def WdW (s:ByteArray) (w wr:World) (v:Value) (k f n:Nat) (out:List (List UInt8)):Prop:=
 (k<=s.size->WdI s.data.toList k f out)/\(k=s.size+1->out=words9 s.data.toList)/\n=out.length/\wr.ownsRow w.heap.size 9 1 v n (cT9 out)/\Below w.heap.size w wr
def WordsPost9 (l:List UInt8) (w:World) (e:Ending) (w':World):Prop:=
 ∃ v,e = .returned v/\w'.ownsRow w.heap.size 9 1 v (words9 l).length (cT9 (words9 l))/\Below w.heap.size w w'
theorem rwords9_any (s:ByteArray) (w:World) (hs:s.size<=1000000):
 Calls Tryz.prog 29 #[.string s] w (WordsPost9 s.data.toList w):=by
 obtain ⟨i0,hi,hz0,hz1,hz2⟩:=info_parts infoTx9
 go_enter Tryz.func29,Tryz.ntmps29
 go_wp2_with fail
 go_loopw [3,4,5] (fun v3 v4 v5 wr=> ∃ (k f n:Nat) (out:List (List UInt8)),k<=s.size+1/\f<=k/\n<=k/\v4 = .int .i64 f/\v5 = .int .i64 k/\Hid (WdW s w wr v3 k f n out)) (fun _ _ v5 _=>s.size+1 - (intOf v5).toNat)
 case atStart=>exact ⟨0,0,0,[],Nat.zero_le _,Nat.le_refl _,Nat.le_refl _,rfl,rfl,fun _=>wd_start _,(fun h=>by omega),rfl,World.ownsRow_nil _ _ _ _,Below.refl _ _⟩
 case round=>
  obtain ⟨k,f,n,out,hk,hfk,hnk,rfl,rfl,HR⟩:=hrel
  by_cases hend:k=s.size+1
  ·have HF:=hid (show wr.ownsRow w.heap.size 9 1 u3 (words9 s.data.toList).length (cT9 (words9 s.data.toList)) by
    have h:=HR.out;have e:=h.2.1 hend;rw [<- e,<- h.2.2.1];exact h.2.2.2.1)
   have HB:=hid HR.out.2.2.2.2;have hng: ¬ ((k:Int)<=(s.size:Int)):=by omega
   clear HR hend hfk hnk hk
   go_wp2_with fail
   go_ret
   exact ⟨u3,rfl,HF.out,HB.out⟩
  ·have hin:(k:Int)<=(s.size:Int):=by omega
   have HW:=hid (HR.out.1 (by omega));by_cases hsz:k=s.size
   ·have HKS:=hid hsz
    have hek:((k:Int)==(s.size:Int))=true:=by rw [hsz];simp
    clear hsz hend;by_cases hf:f<k
    ·have HFK:=hid hf
     have HX:=hid (show s.extract f k=⟨((s.data.toList.drop f).take (k - f)).toArray⟩ from ext_list9 s f k);obtain ⟨X,hX⟩: ∃ X:ByteArray,X=s.extract f k:=⟨_,rfl⟩
     have HXE:=hid (show [(s.data.toList.drop f).take (k - f)]=[X.data.toList] by rw [hX,HX.out]);have HXC:=hid (show cT9 [X.data.toList]=[.string X] by show [Value.string ⟨X.data.toList.toArray⟩]=_;rw [Lib.mk_data]);have hlt2:(f:Int)<(k:Int):=by omega
     have hfk2:(f:Int)<=(k:Int):=by omega
     have HSZ:=hid (show w.heap.size<=wr.heap.size from HR.out.2.2.2.2.size);have HO:=hid HR.out.2.2.2.1;have HNK:=hid hnk
     go_wp2_with (at_builtin;refine wpList_append_own _ rfl _ _ 22 rfl w.heap.size 9 i0 _ 1 16 Tryz.underlying22 hi hz0 hz1 hz2 rfl (by decide) _ _ _ rfl (HO.out.alloc _) ⟨wr.heap.size,0,none⟩ 1 1 [.string X] rfl rfl (by rw [hX];exact cell_one_new _ _ _) (by simp [Value.oneCell']) (by unfold maxLen;omega) (by omega) (by have:=HSZ.out;simp;omega) ?_;intro v3 w3 hown hgrow hnil)
     have HR3:=hid (show WdW s w w3 v3 (k+1) (k+1) (n+1) (out++[X.data.toList]) by
      refine ⟨fun h=> ?_,fun h=> ?_,?_,?_,(HR.out.2.2.2.2.alloc HR.out.2.2.2.2.size _).grown hgrow (by have:=HSZ.out;simp;omega) (fun k hk=>(HO.out.lt k hk).1)⟩
      ·have:=HKS.out;omega
      ·have e:=wd_end (show WdI s.data.toList s.data.toList.length f out by rw [<- Lib.size_eq,<- HKS.out];exact HW.out)
       rw [e,if_pos (by rw [<- Lib.size_eq];have:=HKS.out;have:=HFK.out;omega),<- Lib.size_eq,<- HKS.out,HXE.out]
      ·rw [List.length_append,<- HR.out.2.2.1];rfl
      ·rw [show cT9 (out++[X.data.toList])=cT9 out++cT9 [X.data.toList] by simp [cT9],HXC.out]
       exact hown)
     clear hown hgrow hnil
     go_wp2_with fail
     go_roundw
     case rel=>
      first
       | exact ⟨k+1,k+1,n+1,_,by omega,by omega,by omega,by go_num,by go_num,HR3.out⟩
       | ((repeat apply Exists.intro);refine ⟨?_,rfl⟩;exact ⟨k+1,k+1,n+1,_,by omega,by omega,by omega,by go_num,by go_num,HR3.out⟩)
       | ((repeat apply Exists.intro);exact ⟨⟨k+1,k+1,n+1,_,by omega,by omega,by omega,by go_num,by go_num,HR3.out⟩,rfl⟩)
     case measure=>simp [intOf];omega
    ·have HFK:=hid hf
     have hlt2: ¬ ((f:Int)<(k:Int)):=by omega
     have HR3:=hid (show WdW s w wr u3 (k+1) (k+1) n out by
      refine ⟨fun h=> ?_,fun h=> ?_,HR.out.2.2.1,HR.out.2.2.2.1,HR.out.2.2.2.2⟩
      ·have:=HKS.out;omega
      ·have e:=wd_end (show WdI s.data.toList s.data.toList.length f out by rw [<- Lib.size_eq,<- HKS.out];exact HW.out)
       rw [e,if_neg (by rw [<- Lib.size_eq];have:=HKS.out;have:=HFK.out;omega),List.append_nil])
     go_wp2_with fail
     go_roundw
     case rel=>
      first
       | exact ⟨k+1,(k+1),n,_,by omega,by omega,by omega,by go_num,by go_num,HR3.out⟩
       | ((repeat apply Exists.intro);refine ⟨?_,rfl⟩;exact ⟨k+1,(k+1),n,_,by omega,by omega,by omega,by go_num,by go_num,HR3.out⟩)
       | ((repeat apply Exists.intro);exact ⟨⟨k+1,(k+1),n,_,by omega,by omega,by omega,by go_num,by go_num,HR3.out⟩,rfl⟩)
     case measure=>simp [intOf];omega
   ·have hkl:k<s.data.toList.length:=by rw [<- Lib.size_eq];omega
    have HKL:=hid hkl;have hek:((k:Int)==(s.size:Int))=false:=by rw [beq_eq_false_iff_ne];omega
    have hks:k<s.size:=by omega
    have hks':(k:Int)<(s.size:Int):=by omega
    by_cases hbl:bl9 s.data.toList[k]=true
    ·have HBL:=hid hbl
     have HBS:=hid (show bl9 (s[k]'hks)=true from hbl);by_cases hf:f<k
     ·have HFK:=hid hf
      have HX:=hid (show s.extract f k=⟨((s.data.toList.drop f).take (k - f)).toArray⟩ from ext_list9 s f k);obtain ⟨X,hX⟩: ∃ X:ByteArray,X=s.extract f k:=⟨_,rfl⟩
      have HXE:=hid (show [(s.data.toList.drop f).take (k - f)]=[X.data.toList] by rw [hX,HX.out]);have HXC:=hid (show cT9 [X.data.toList]=[.string X] by show [Value.string ⟨X.data.toList.toArray⟩]=_;rw [Lib.mk_data]);have hlt2:(f:Int)<(k:Int):=by omega
      have hfk2:(f:Int)<=(k:Int):=by omega
      have HSZ:=hid (show w.heap.size<=wr.heap.size from HR.out.2.2.2.2.size);have HO:=hid HR.out.2.2.2.1;have HNK:=hid hnk
      go_wp2_with fail
      refine (rblank_any _ _).mono ?_;rintro e wq ⟨rfl,rfl⟩
      rw [blank_bl9,HBS.out]
      go_wp2_with (at_builtin;refine wpList_append_own _ rfl _ _ 22 rfl w.heap.size 9 i0 _ 1 16 Tryz.underlying22 hi hz0 hz1 hz2 rfl (by decide) _ _ _ rfl (HO.out.alloc _) ⟨wr.heap.size,0,none⟩ 1 1 [.string X] rfl rfl (by rw [hX];exact cell_one_new _ _ _) (by simp [Value.oneCell']) (by unfold maxLen;omega) (by omega) (by have:=HSZ.out;simp;omega) ?_;intro v3 w3 hown hgrow hnil)
      have HR3:=hid (show WdW s w w3 v3 (k+1) (k+1) (n+1) (out++[X.data.toList]) by
       refine ⟨fun h=> ?_,fun h=> ?_,?_,?_,(HR.out.2.2.2.2.alloc HR.out.2.2.2.2.size _).grown hgrow (by have:=HSZ.out;simp;omega) (fun k hk=>(HO.out.lt k hk).1)⟩
       ·have e:=wd_blank HW.out HKL.out HBL.out
        rw [if_pos HFK.out,HXE.out] at e;exact e
       ·have:=HKL.out;rw [<- Lib.size_eq] at this;omega
       ·rw [List.length_append,<- HR.out.2.2.1];rfl
       ·rw [show cT9 (out++[X.data.toList])=cT9 out++cT9 [X.data.toList] by simp [cT9],HXC.out]
        exact hown)
      clear hown hgrow hnil
      go_wp2_with fail
      go_roundw
      case rel=>
       first
        | exact ⟨k+1,k+1,n+1,_,by omega,by omega,by omega,by go_num,by go_num,HR3.out⟩
        | ((repeat apply Exists.intro);refine ⟨?_,rfl⟩;exact ⟨k+1,k+1,n+1,_,by omega,by omega,by omega,by go_num,by go_num,HR3.out⟩)
        | ((repeat apply Exists.intro);exact ⟨⟨k+1,k+1,n+1,_,by omega,by omega,by omega,by go_num,by go_num,HR3.out⟩,rfl⟩)
      case measure=>simp [intOf];omega
     ·have HFK:=hid hf
      have hlt2: ¬ ((f:Int)<(k:Int)):=by omega
      have HR3:=hid (show WdW s w wr u3 (k+1) (k+1) n out by
       refine ⟨fun h=> ?_,fun h=> ?_,HR.out.2.2.1,HR.out.2.2.2.1,HR.out.2.2.2.2⟩
       ·have e:=wd_blank HW.out HKL.out HBL.out
        rw [if_neg HFK.out,List.append_nil] at e;exact e
       ·have:=HKL.out;rw [<- Lib.size_eq] at this;omega)
      go_wp2_with fail
      refine (rblank_any _ _).mono ?_;rintro e wq ⟨rfl,rfl⟩
      rw [blank_bl9,HBS.out]
      go_wp2_with fail
      go_roundw
      case rel=>
       first
        | exact ⟨k+1,(k+1),n,_,by omega,by omega,by omega,by go_num,by go_num,HR3.out⟩
        | ((repeat apply Exists.intro);refine ⟨?_,rfl⟩;exact ⟨k+1,(k+1),n,_,by omega,by omega,by omega,by go_num,by go_num,HR3.out⟩)
        | ((repeat apply Exists.intro);exact ⟨⟨k+1,(k+1),n,_,by omega,by omega,by omega,by go_num,by go_num,HR3.out⟩,rfl⟩)
      case measure=>simp [intOf];omega
    ·have HBL:=hid (show bl9 s.data.toList[k]=false by simpa using hbl)
     have HBS:=hid (show bl9 (s[k]'hks)=false from HBL.out);have HR3:=hid (show WdW s w wr u3 (k+1) f n out by
      refine ⟨fun h=> ?_,fun h=> ?_,HR.out.2.2.1,HR.out.2.2.2.1,HR.out.2.2.2.2⟩
      ·exact wd_plain HW.out HKL.out HBL.out
      ·have:=HKL.out;rw [<- Lib.size_eq] at this;omega)
     go_wp2_with fail
     refine (rblank_any _ _).mono ?_;rintro e wq ⟨rfl,rfl⟩
     rw [blank_bl9,HBS.out]
     go_wp2_with fail
     go_roundw
     case rel=>
      first
       | exact ⟨k+1,f,n,_,by omega,by omega,by omega,by go_num,by go_num,HR3.out⟩
       | ((repeat apply Exists.intro);refine ⟨?_,rfl⟩;exact ⟨k+1,f,n,_,by omega,by omega,by omega,by go_num,by go_num,HR3.out⟩)
       | ((repeat apply Exists.intro);exact ⟨⟨k+1,f,n,_,by omega,by omega,by omega,by go_num,by go_num,HR3.out⟩,rfl⟩)
     case measure=>simp [intOf];omega
structure Ru where
 name:List UInt8
 vals:List (List UInt8)
deriving DecidableEq
def pcV (c:UInt8):List UInt8->List (List UInt8)
 | []=>[[]]
 | x::l=>if x=c then []::pcV c l else match pcV c l with
   | []=>[[x]]
   | h::t=>(x::h)::t
theorem pcV_none (c:UInt8): ∀ l:List UInt8,c ∉ l->pcV c l=[l]
 | [],_=>rfl
 | x::l,h=>by
   rw [pcV,if_neg (fun e=>h (by simp [e])),pcV_none c l (fun e=>h (by simp [e]))]
theorem pcV_some (c:UInt8): ∀ (a r:List UInt8),c ∉ a->pcV c (a++c::r)=a::pcV c r
 | [],r,_=>by rw [List.nil_append,pcV,if_pos rfl]
 | x::a,r,h=>by
   rw [List.cons_append,pcV,if_neg (fun e=>h (by simp [e])),pcV_some c a r (fun e=>h (by simp [e]))]
theorem pcV_part (c:UInt8) (l:List UInt8):pcV c l=if (part9 c l).2.2 then (part9 c l).1::pcV c (part9 c l).2.1 else [(part9 c l).1]:=by
 rcases first_split9 c l with h | ⟨a,r,h,rfl⟩
 ·rw [part_none9 c l h,pcV_none c l h];rfl
 ·rw [part_some9 c a r h,pcV_some c a r h];rfl
theorem pcV_ind (c:UInt8) {P:List UInt8->Prop} (h1: ∀ l,c ∉ l->P l) (h2: ∀ a r,c ∉ a->P r->P (a++c::r)): ∀ l,P l:=by
 intro l;generalize hn:l.length=n
 induction n using Nat.strongRecOn generalizing l with
 | _ n ih=>
   rcases first_split9 c l with h | ⟨a,r,ha,rfl⟩
   ·exact h1 l h
   ·exact h2 a r ha (ih r.length (by rw [<- hn];simp;omega) r rfl)
theorem pcV_len (c:UInt8): ∀ l:List UInt8,(pcV c l).length<=l.length+1:=
 pcV_ind c (fun l h=>by rw [pcV_none c l h];simp) (fun a r h ih=>by rw [pcV_some c a r h];simp;omega)
theorem pcV_mem (c:UInt8): ∀ l:List UInt8,∀ p ∈ pcV c l,c ∉ p/\p.length<=l.length /\ ∀ x ∈ p,x ∈ l:=
 pcV_ind c (fun l h p hp=>by
  rw [pcV_none c l h] at hp;obtain rfl:=List.mem_singleton.1 hp;exact ⟨h,Nat.le_refl _,fun x hx=>hx⟩)
  (fun a r h ih p hp=>by
    rw [pcV_some c a r h] at hp;rcases List.mem_cons.1 hp with rfl | hp
    ·exact ⟨h,by simp<;>omega,fun x hx=>by simp [hx]⟩
    ·obtain ⟨h1,h2,h3⟩:=ih p hp
     exact ⟨h1,by simp<;>omega,fun x hx=>by simp [h3 x hx]⟩)
def hasR (L:List Ru) (n:List UInt8):Bool:=L.any fun r=>decide (r.name=n)
def ruleV (p:List UInt8):Option Ru:=match words9 p with
 | []=>none
 | x::t=>some ⟨low x,t⟩
def addR (L:List Ru) (p:List UInt8):List Ru:=match ruleV p with
 | none=>L
 | some r=>if hasR L r.name then L else L++[r]
def polF:List (List UInt8)->List Ru->List Ru
 | [],L=>L
 | p::ps,L=>if 32<=L.length then L else polF ps (addR L p)
def polV (s:List UInt8):List Ru:=polF (pcV 59 s) []
theorem polF_full (ps:List (List UInt8)) (L:List Ru) (h:32<=L.length):polF ps L=L:=by
 cases ps with
 | nil=>rfl
 | cons p ps=>rw [polF,if_pos h]
theorem addR_len (L:List Ru) (p:List UInt8):(addR L p).length<=L.length+1:=by
 unfold addR;split
 ·omega
 ·split
  ·omega
  ·simp
theorem polF_len: ∀ (ps:List (List UInt8)) (L:List Ru),L.length<=32->(polF ps L).length<=32
 | [],L,h=>h
 | p::ps,L,h=>by
   rw [polF];split
   ·exact h
   ·exact polF_len ps _ (by have:=addR_len L p;omega)
theorem polV_len (s:List UInt8):(polV s).length<=32:=polF_len _ _ (by simp)
abbrev nWk : List UInt8 := [119, 111, 114, 107, 101, 114, 45, 115, 114, 99]
abbrev nSe : List UInt8 := [115, 99, 114, 105, 112, 116, 45, 115, 114, 99, 45, 101, 108, 101, 109]
abbrev nYe : List UInt8 := [115, 116, 121, 108, 101, 45, 115, 114, 99, 45, 101, 108, 101, 109]
abbrev nFr : List UInt8 := [102, 114, 97, 109, 101, 45, 115, 114, 99]
abbrev nCo : List UInt8 := [99, 111, 110, 110, 101, 99, 116, 45, 115, 114, 99]
abbrev nFo : List UInt8 := [102, 111, 110, 116, 45, 115, 114, 99]
abbrev nIm : List UInt8 := [105, 109, 103, 45, 115, 114, 99]
abbrev nMe : List UInt8 := [109, 101, 100, 105, 97, 45, 115, 114, 99]
abbrev nSc : List UInt8 := [115, 99, 114, 105, 112, 116, 45, 115, 114, 99]
abbrev nSt : List UInt8 := [115, 116, 121, 108, 101, 45, 115, 114, 99]
abbrev nCh : List UInt8 := [99, 104, 105, 108, 100, 45, 115, 114, 99]
abbrev nOb : List UInt8 := [111, 98, 106, 101, 99, 116, 45, 115, 114, 99]
abbrev nDe : List UInt8 := [100, 101, 102, 97, 117, 108, 116, 45, 115, 114, 99]
def chainV (n:List UInt8):List (List UInt8):=
 if n=nSe then [nSe,nSc,nDe] else if n=nYe then [nYe,nSt,nDe] else if n=nWk then [nWk,nCh,nSc,nDe] else if n=nFr then [nFr,nCh,nDe]
 else if n=nCo then [nCo,nDe] else if n=nFo then [nFo,nDe] else if n=nIm then [nIm,nDe] else if n=nMe then [nMe,nDe] else if n=nSc then [nSc,nDe] else if n=nSt then [nSt,nDe] else if n=nCh then [nCh,nDe] else if n=nOb then [nOb,nDe] else if n=nDe then [nDe] else []
def forV (d:Int):List UInt8:=if d=1 then nCo else if d=2 then nSe else if d=3 then nYe else if d=4 then nIm else if d=5 then nFo else if d=6 then nFr else []
def findR (L:List Ru) (n:List UInt8):Option (List (List UInt8)):=(L.find? fun r=>decide (r.name=n)).map (·.vals)
def askV (L:List Ru):List (List UInt8)->Option (List (List UInt8)×List UInt8)
 | []=>none
 | n::t=>match findR L n with
   | some v=>some (v,n)
   | none=>askV L t
def valsV (L:List Ru) (n:List UInt8):Option (List (List UInt8)×List UInt8):=askV L (chainV n)
def txR (r:Ru):List UInt8:=r.name++r.vals.flatMap fun v=>32::v
theorem wds_bulk: ∀ (l cur:List UInt8),((wdsF l cur).map fun x=>x.length+1).sum<=cur.length+l.length+1
 | [],cur=>by
   unfold wdsF;split
   ·simp
   ·simp
 | c::r,cur=>by
   unfold wdsF;split
   ·split
    ·have:=wds_bulk r []
     simp only [List.length_cons,List.length_nil] at this ⊢
     omega
    ·have:=wds_bulk r []
     simp only [List.length_cons,List.length_nil,List.map_cons,List.sum_cons] at this ⊢
     omega
   ·have:=wds_bulk r (cur++[c])
    simp only [List.length_cons,List.length_append,List.length_nil] at this ⊢
    omega
theorem txR_len (r:Ru):(txR r).length=r.name.length+(r.vals.map fun v=>v.length+1).sum:=by
 unfold txR;rw [List.length_append]
 congr 1
 induction r.vals with
 | nil=>rfl
 | cons v t ih=>rw [List.flatMap_cons,List.length_append,ih];simp
theorem rule_bulk {p:List UInt8} {r:Ru} (h:ruleV p=some r):(txR r).length<=p.length/\r.vals.length<=p.length/\r.name.length<=p.length /\ ∀ v ∈ r.vals,v.length<=p.length:=by
 have hb:=wds_bulk p [];have hl:=wds_len p [];unfold ruleV words9 at h;revert h
 cases hw:wdsF p [] with
 | nil=>intro h;cases h
 | cons x t=>
   intro h;obtain rfl:=Option.some.inj h;rw [hw] at hb hl;rw [txR_len];simp only [List.map_cons,List.sum_cons,List.length_nil,Nat.zero_add,List.length_cons] at hb hl ⊢
   have hlow:(low x).length=x.length:=by unfold low;simp
   refine ⟨by rw [hlow];omega,by have:=hl.1;omega,by rw [hlow];exact hl.2 x (by simp),fun v hv=>hl.2 v (by simp [hv])⟩
def SzR (n:Nat) (L:List Ru):Prop:= ∀ r ∈ L,r.name.length<=n/\r.vals.length<=n /\ ∀ v ∈ r.vals,v.length<=n
theorem add_sz {n:Nat} {L:List Ru} {p:List UInt8} (hp:p.length<=n) (h:SzR n L):SzR n (addR L p):=by
 unfold addR;split
 ·exact h
 ·rename_i r hr
  split
  ·exact h
  ·intro x hx
   rcases List.mem_append.1 hx with hx | hx
   ·exact h x hx
   ·obtain rfl:=List.mem_singleton.1 hx
    obtain ⟨_,h2,h3,h4⟩:=rule_bulk hr
    exact ⟨by omega,by omega,fun v hv=>by have:=h4 v hv;omega⟩
theorem polF_sz {n:Nat}: ∀ (ps:List (List UInt8)) (L:List Ru),(∀ p ∈ ps,p.length<=n)->SzR n L->SzR n (polF ps L)
 | [],L,_,h=>h
 | p::ps,L,hp,h=>by
   rw [polF];split
   ·exact h
   ·exact polF_sz ps _ (fun q hq=>hp q (by simp [hq])) (add_sz (hp p (by simp)) h)
theorem polV_sz (s:List UInt8):SzR s.length (polV s):=polF_sz _ _ (fun p hp=>(pcV_mem 59 s p hp).2.1) (fun r hr=>by simp at hr)
end Go.Proofs.YtijpkalkfbejeaaGreatDoor
