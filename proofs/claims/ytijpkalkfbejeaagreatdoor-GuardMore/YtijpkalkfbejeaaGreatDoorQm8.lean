/- Walks and plain facts. -/
import Derived.Test.YtijpkalkfbejeaaGreatDoorQm7
set_option linter.unusedSimpArgs false
set_option linter.unusedVariables false
set_option maxHeartbeats 16000000
set_option maxRecDepth 100000

namespace Go.Proofs.YtijpkalkfbejeaaGreatDoor
open Go.RowKit
theorem dig16_le (c:UInt8):dig16 c<=16:=by
 unfold dig16;split
 ·omega
 ·split
  ·omega
  ·split<;>omega
theorem ret_u64b {a b:Int} {x y:Bool} (h:a=b) (g:x=y):Ending.returned (.tuple #[.int .u64 a,.bool x]) = .returned (.tuple #[.int .u64 b,.bool y]):=by rw [h,g]
def digR (base:Nat) (c:UInt8):Nat:=if dig16 c<base then dig16 c else 0
def digOk (base:Nat) (c:UInt8):Bool:=decide (dig16 c<base)
theorem dig16_cases (c:UInt8):(48<=c.toNat/\c.toNat<=57/\dig16 c=c.toNat - 48)∨(97<=c.toNat/\c.toNat<=102/\dig16 c=c.toNat - 87)∨(65<=c.toNat/\c.toNat<=70/\dig16 c=c.toNat - 55) ∨
 (¬ (48<=c.toNat/\c.toNat<=57) /\ ¬ (97<=c.toNat/\c.toNat<=102) /\ ¬ (65<=c.toNat/\c.toNat<=70)/\dig16 c=16):=by
 unfold dig16;split
 ·omega
 ·split
  ·omega
  ·split<;>omega
theorem dig_yes {base:Nat} {c:UInt8} (h:dig16 c<base):digR base c=dig16 c/\digOk base c=true:=by simp [digR,digOk,h]
theorem dig_no {base:Nat} {c:UInt8} (h: ¬ dig16 c<base):digR base c=0/\digOk base c=false:=by simp [digR,digOk,h]
theorem ret_dig {a:Int} {x:Bool} {base:Nat} {c:UInt8} (h:(dig16 c<base/\a=dig16 c/\x=true)∨(¬ dig16 c<base/\a=0/\x=false)):Ending.returned (.tuple #[.int .u64 a,.bool x]) = .returned (.tuple #[.int .u64 (digR base c:Nat),.bool (digOk base c)]):=by
 rcases h with ⟨h,rfl,rfl⟩ | ⟨h,rfl,rfl⟩
 ·rw [(dig_yes h).1,(dig_yes h).2]
 ·rw [(dig_no h).1,(dig_no h).2];rfl
theorem hdigit_any (c:UInt8) (base:Nat) (w:World) (hb:base<=16):
 Calls Tryz.prog 257 #[.int .u8 c.toNat,.int .u64 base] w fun e w'=>e = .returned (.tuple #[.int .u64 (digR base c:Nat),.bool (digOk base c)])/\w=w':=by
 have hc:c.toNat<256:=c.toNat_lt;have HD:=hid (dig16_cases c)
 go_enter Tryz.func257,Tryz.ntmps257
 go_wp2
 all_goals
  go_ret2
  refine ⟨ret_dig ?_,rfl⟩;have hd:=HD.out;clear HD
  first
   | (left;refine ⟨by omega,by omega,rfl⟩)
   | (right;refine ⟨by omega,by omega,rfl⟩)
theorem valueOf_any (s:ByteArray) (base:Nat) (w:World) (hb:base<=16) (hs:s.size<=140737488351232):
 Calls Tryz.prog 260 #[.string s,.int .u64 base] w fun e w'=>e = .returned (.tuple #[.int .u64 ((valV base s.data.toList).getD 0:Nat),.bool (valV base s.data.toList).isSome])/\w=w':=by
 go_enter Tryz.func260,Tryz.ntmps260
 go_wp2
 go_loop [6,12] (fun n i=> ∃ k m:Nat,k<=s.size/\i = .int .i64 k/\n = .int .u64 m/\m<=4294967296/\valN base m (s.data.toList.drop k)=valV base s.data.toList) (fun _ i=>s.size - (intOf i).toNat)
 case atStart=>exact ⟨0,0,Nat.zero_le _,rfl,rfl,by omega,rfl⟩
 case round=>
  obtain ⟨k,m,hk,rfl,rfl,hm,hv⟩:=hrel
  have HV:=hid hv;clear hv;by_cases hlt:k<s.size
  ·have HD:=hid (drop_cons s k hlt)
   have h16:=dig16_le s[k];by_cases hd:dig16 s[k]<base
   ·have h1:=(dig_yes hd).1
    have h2:=(dig_yes hd).2;have hmb:m*base<=4294967296*16:=Nat.mul_le_mul hm hb;have HN:=hid (show valN base (min (m*base+dig16 s[k]) 4294967296) (s.data.toList.drop (k+1))=valV base s.data.toList by
     rw [<- HV.out,HD.out,valN,if_pos hd])
    have hp:(m:Int)*(base:Int)=((m*base:Nat):Int):=(Int.natCast_mul m base).symm;generalize m*base=p at hp hmb HN;by_cases hle:p+dig16 s[k]<=4294967296
    ·have hmin:min (p+dig16 s[k]) 4294967296=p+dig16 s[k]:=by omega
     rw [hmin] at HN;clear hmin
     go_wp2_with (go_at_call 257;refine (hdigit_any _ _ _ hb).mono ?_;rintro e w' ⟨rfl,rfl⟩;rw [h1,h2])
     go_round
     case rel=>exact ⟨k+1,p+dig16 s[k],by omega,by go_num,by go_num,hle,HN.out⟩
     case measure=>simp [intOf];omega
    ·have hmin:min (p+dig16 s[k]) 4294967296=4294967296:=by omega
     rw [hmin] at HN;clear hmin
     go_wp2_with (go_at_call 257;refine (hdigit_any _ _ _ hb).mono ?_;rintro e w' ⟨rfl,rfl⟩;rw [h1,h2])
     go_round
     case rel=>exact ⟨k+1,4294967296,by omega,by go_num,by go_num,by omega,HN.out⟩
     case measure=>simp [intOf];omega
   ·have h1:=(dig_no hd).1
    have h2:=(dig_no hd).2;have HN:=hid (show valV base s.data.toList=none by rw [<- HV.out,HD.out,valN,if_neg hd])
    go_wp2_with (go_at_call 257;refine (hdigit_any _ _ _ hb).mono ?_;rintro e w' ⟨rfl,rfl⟩;rw [h1,h2])
    go_ret2
    exact ⟨ret_u64b (by rw [HN.out];rfl) (by rw [HN.out];rfl),rfl⟩
  ·have HN:=hid (show valV base s.data.toList=some m by rw [<- HV.out,drop_none s k hlt,valN])
   go_wp2
   go_ret2
   exact ⟨ret_u64b (by rw [HN.out];rfl) (by rw [HN.out];rfl),rfl⟩
theorem digitsAlone_any (s:ByteArray) (base:Nat) (w:World) (hb:base<=16) (hs:s.size<=140737488351232):
 Calls Tryz.prog 253 #[.string s,.int .u64 base] w fun e w'=>e = .returned (.bool (valV base s.data.toList).isSome)/\w=w':=by
 go_enter Tryz.func253,Tryz.ntmps253
 go_wp2_with (go_at_call 260;refine (valueOf_any _ _ _ hb hs).mono ?_;rintro e w' ⟨rfl,rfl⟩)
 go_ret
 exact ⟨rfl,rfl⟩
theorem valueOf_l (s:ByteArray) (l:List UInt8) (base:Nat) (w:World) (hl:s.data.toList=l) (hb:base<=16) (hs:s.size<=140737488351232):
 Calls Tryz.prog 260 #[.string s,.int .u64 base] w fun e w'=>e = .returned (.tuple #[.int .u64 ((valV base l).getD 0:Nat),.bool (valV base l).isSome])/\w=w':=by
 subst hl;exact valueOf_any s base w hb hs
theorem digitsAlone_l (s:ByteArray) (l:List UInt8) (base:Nat) (w:World) (hl:s.data.toList=l) (hb:base<=16) (hs:s.size<=140737488351232):
 Calls Tryz.prog 253 #[.string s,.int .u64 base] w fun e w'=>e = .returned (.bool (valV base l).isSome)/\w=w':=by
 subst hl;exact digitsAlone_any s base w hb hs
theorem ba_ext {a:ByteArray} {l:List UInt8} (h:a.data.toList=l):a=⟨l.toArray⟩:=by
 subst h;exact (Lib.mk_data a).symm
theorem lastLab_none (l:List UInt8) (h: ∀ c ∈ l,c≠46):lastLab l=l:=by
 unfold lastLab;have e:=List.takeWhile_append_of_pos (p:=fun x:UInt8=>x != 46) (l₁:=l.reverse) (l₂:=[]) (by intro c hc;have:=h c (by simpa using hc);simpa using this)
 rw [List.append_nil] at e;rw [e];simp
theorem lastLab_some (a l:List UInt8) (h: ∀ c ∈ l,c≠46):lastLab (a++46::l)=l:=by
 unfold lastLab;have e:(a++46::l).reverse=l.reverse++46::a.reverse:=by simp
 rw [e,List.takeWhile_append_of_pos (by intro c hc;have:=h c (by simpa using hc);simpa using this)]
 simp
theorem bang_at (s:ByteArray) (j:Nat) (h:j<s.size):s.data[j]! = s.data.toList[j]'(by simpa using h):=by
 have h':j<s.data.size:=h;rw [getElem!_pos s.data j h'];simp
theorem lastIdx_lab (s:ByteArray): ∃ k:Nat,k<=s.size/\Lib.lastIndexByte s 46=(k:Int) - 1/\s.data.toList.drop k=lastLab s.data.toList:=by
 have key: ∀ k:Nat,k<=s.size->(∀ j,k<=j->j<s.size->((s.data[j]!).toNat:Int)≠46) -> ∀ c ∈ s.data.toList.drop k,c≠46:=by
  intro k hk h c hc;obtain ⟨i,hi,rfl⟩:=List.getElem_of_mem hc
  have hi':k+i<s.size:=by simp at hi;omega
  have:=h (k+i) (by omega) hi'
  rw [bang_at s _ hi'] at this;intro e;apply this;rw [List.getElem_drop] at e;rw [e];rfl
 rcases Lib.lastIdx_spec s 46 s.size with ⟨h1,h2⟩ | ⟨i,hi,h1,h2,h3⟩
 ·refine ⟨0,Nat.zero_le _,h1,?_⟩
  have:=key 0 (Nat.zero_le _) (fun j _ hj=>h2 j hj);rw [List.drop_zero] at this ⊢;exact (lastLab_none _ this).symm
 ·refine ⟨i+1,hi,by show Lib.lastIdx s 46 s.size=_;rw [h1];omega,?_⟩
  have hn:=key (i+1) hi (fun j hj hj'=>h3 j (by omega) hj');rw [bang_at s i hi] at h2;have h46:s.data.toList[i]'(by simpa using hi)=46:=by
   apply UInt8.toNat_inj.1;have:(46:UInt8).toNat=46:=rfl;omega
  have e:s.data.toList=s.data.toList.take i++46::s.data.toList.drop (i+1):=by
   rw [<- h46,<- List.drop_eq_getElem_cons (by simpa using hi),List.take_append_drop]
  conv=>rhs;rw [e]
  exact (lastLab_some _ _ hn).symm
def er {α:Type} (o:Option α):Int:=match o with | some _=>0 | none=>10
theorem er_some {α:Type} {o:Option α} {x:α} (h:o=some x):er o=0:=by rw [h];rfl
theorem er_none {α:Type} {o:Option α} (h:o=none):er o=10:=by rw [h];rfl
theorem noDot_le (l:List UInt8):(noDot l).length<=l.length:=Lib.trimSuffix_le _ _
theorem cut_le (l sep:List UInt8):(Lib.cut l sep).1.length<=l.length/\(Lib.cut l sep).2.1.length<=l.length:=by
 unfold Lib.cut;split
 ·simp
  omega
 ·simp
def dB64:List Int:=[0,1,56,2,57,49,28,3,61,58,42,50,38,29,17,4,62,47,59,36,45,43,51,22,53,39,33,30,24,18,12,5,63,55,48,27,60,41,37,16,46,35,44,21,52,32,23,11,54,26,40,15,34,20,31,10,25,14,19,9,13,8,7,6]
theorem gPow10 : Tryz.prog.globalNamed "internal/strconv.uint64pow10" = some 1 := by kernel_rfl
theorem gDB64 : Tryz.prog.globalNamed "math/bits.deBruijn64tab" = some 3 := by kernel_rfl
def Gd (w:World):Prop:=
 (∃ m, w.cell? ⟨0, 0, none⟩ = some (.int .i64 m)) /\ Lib.TabIs Tryz.prog w "internal/strconv.uint64pow10" .u64 Lib.pow10Tab /\ Lib.TabIs Tryz.prog w "math/bits.deBruijn64tab" .u8 dB64
theorem Gd.kept {w w':World} (h:Gd w) (hb:Below w.heap.size w w'):Gd w':=by
 obtain ⟨⟨m,hm⟩,h1,h2⟩:=h
 exact ⟨⟨m,(hb.cell (World.block_lt_of_cell? w _ hm)).trans hm⟩,Joins.tab_stays gPow10 h1 hb (Nat.le_refl _),Joins.tab_stays gDB64 h2 hb (Nat.le_refl _)⟩
theorem cut_any (s sep:ByteArray) (w:World) (hg:Gd w) (hs:s.size<=4000000000):
 Calls Tryz.prog 19 #[.string s,.string sep] w fun e w'=>e = .returned (.tuple #[.string ⟨(Lib.cut s.data.toList sep.data.toList).1.toArray⟩,.string ⟨(Lib.cut s.data.toList sep.data.toList).2.1.toArray⟩,.bool (Lib.cut s.data.toList sep.data.toList).2.2])/\Below w.heap.size w w':=by
 obtain ⟨⟨m,hm⟩,_,_⟩:=hg
 refine (Tryz.strings_Cut s sep m w (by omega) hm).mono ?_;rintro e w' ⟨rfl,n,rfl⟩
 exact ⟨rfl,Go.below_drewN (Below.refl _ _) n⟩
theorem contains_any (s sep:ByteArray) (w:World) (hg:Gd w) (hs:s.size<=4000000000):
 Calls Tryz.prog 250 #[.string s,.string sep] w fun e w'=>e = .returned (.bool (Lib.contains s.data.toList sep.data.toList))/\w=w':=by
 obtain ⟨⟨m,hm⟩,_,_⟩:=hg
 refine (Tryz.strings_Contains s sep m w (by omega) hm).mono ?_;rintro e w' ⟨rfl,rfl⟩
 exact ⟨rfl,rfl⟩
theorem hasPrefix_any (s p:ByteArray) (w:World):
 Calls Tryz.prog 122 #[.string s,.string p] w fun e w'=>e = .returned (.bool (Lib.hasPrefix s.data.toList p.data.toList))/\w=w':=
 (Tryz.strings_HasPrefix s p w).mono fun e w' ⟨h,h'⟩=>⟨h,h'.symm⟩
theorem ret_sb {a b:ByteArray} {x y:Bool} (h:a=b) (g:x=y):Ending.returned (.tuple #[.string a,.bool x]) = .returned (.tuple #[.string b,.bool y]):=by rw [h,g]
theorem marked_len (l:List UInt8) (h:marked l=true):2<=l.length:=by
 unfold marked at h;simp only [Bool.or_eq_true,Lib.hasPrefix,List.isPrefixOf_iff_prefix] at h
 rcases h with h | h<;>simpa using h.length_le
theorem withoutLastDot_any (s:ByteArray) (w:World) (hs:s.size<=4000000000):
 Calls Tryz.prog 251 #[.string s] w fun e w'=>e = .returned (.string ⟨(noDot s.data.toList).toArray⟩)/\w=w':=by
 go_enter Tryz.func251,Tryz.ntmps251
 go_wp2_with (go_at_call 259;refine (Tryz.strings_TrimSuffix _ _ _ (by omega)).mono ?_;rintro e w' ⟨rfl,rfl⟩)
 go_ret
 exact ⟨rfl,rfl⟩
def behind (l:List UInt8):List UInt8:=if marked l then l.drop 2 else []
theorem behind_yes (s:ByteArray) (h:marked s.data.toList=true):s.extract 2 s.size=⟨(behind s.data.toList).toArray⟩:=by
 refine ba_ext ?_;rw [extract_drop,behind,if_pos h]
theorem behind_no (s:ByteArray) (h:marked s.data.toList=false):(⟨#[]⟩:ByteArray)=⟨(behind s.data.toList).toArray⟩:=by
 simp [behind,h]
theorem behindMark_any (s:ByteArray) (w:World) (hs:s.size<=4000000000):
 Calls Tryz.prog 252 #[.string s] w fun e w'=>e = .returned (.tuple #[.string ⟨(behind s.data.toList).toArray⟩,.bool (marked s.data.toList)])/\w=w':=by
 by_cases h1:Lib.hasPrefix s.data.toList [48,120]=true
 ·have hm:marked s.data.toList=true:=by simp [marked,h1]
  have hl:=marked_len _ hm;have hl':(2:Int)<=(s.size:Int):=by simp at hl;omega
  have HM:=hid hm;clear hm hl
  go_enter Tryz.func252,Tryz.ntmps252
  go_wp2_with (go_at_call 122;refine (hasPrefix_any _ _ _).mono ?_;rintro e w' ⟨rfl,rfl⟩)
  go_ret2
  exact ⟨ret_sb (behind_yes s HM.out) HM.out.symm,rfl⟩
 ·have h1':Lib.hasPrefix s.data.toList [48,120]=false:=by simpa using h1
  clear h1;by_cases h2:Lib.hasPrefix s.data.toList [48,88]=true
  ·have hm:marked s.data.toList=true:=by simp [marked,h2]
   have hl:=marked_len _ hm;have hl':(2:Int)<=(s.size:Int):=by simp at hl;omega
   have HM:=hid hm;clear hm hl
   go_enter Tryz.func252,Tryz.ntmps252
   go_wp2_with (go_at_call 122;refine (hasPrefix_any _ _ _).mono ?_;rintro e w' ⟨rfl,rfl⟩)
   go_ret2
   exact ⟨ret_sb (behind_yes s HM.out) HM.out.symm,rfl⟩
  ·have h2':Lib.hasPrefix s.data.toList [48,88]=false:=by simpa using h2
   clear h2;have hm:marked s.data.toList=false:=by simp [marked,h1',h2']
   have HM:=hid hm;clear hm
   go_enter Tryz.func252,Tryz.ntmps252
   go_wp2_with (go_at_call 122;refine (hasPrefix_any _ _ _).mono ?_;rintro e w' ⟨rfl,rfl⟩)
   go_ret2
   exact ⟨ret_sb (behind_no s HM.out) HM.out.symm,rfl⟩
theorem few_any (s:ByteArray) (n:Nat) (w:World) (hn:n<=1000000) (hs:s.size<=9223372036854775807):
 Calls Tryz.prog 11 #[.string s,.int .i64 n] w fun e w'=>e = .returned (.string ⟨(s.data.toList.take n).toArray⟩)/\w=w':=by
 by_cases h:n<s.size
 ·have h':(n:Int)<(s.size:Int):=by omega
  have HE:=hid (show s.extract 0 n=⟨(s.data.toList.take n).toArray⟩ from ba_ext (by rw [Lib.extract_data];simp))
  go_enter Tryz.func11,Tryz.ntmps11
  go_wp2
  go_ret
  rw [<- HE.out];exact ⟨rfl,rfl⟩
 ·have h': ¬ ((n:Int)<(s.size:Int)):=by omega
  have HE:=hid (show s=⟨(s.data.toList.take n).toArray⟩ from ba_ext (by rw [List.take_of_length_le (by simp;omega)]))
  go_enter Tryz.func11,Tryz.ntmps11
  go_wp2
  go_ret
  rw [<- HE.out];exact ⟨rfl,rfl⟩
theorem isPowerOfTwo16 (w:World):Calls Tryz.prog 197 #[.int .i64 16] w fun e w'=>e = .returned (.bool true)/\w=w':=by
 have ha:bits .and .i64 16 15=0:=by decide
 go_enter Tryz.func197,Tryz.ntmps197
 go_wp2
 go_ret
 exact ⟨rfl,rfl⟩
theorem dB_cell {w:World} (hg:Gd w):w.cell? ⟨3,15,none⟩=some (.int .u8 4):=by
 have h:=hg.2.2.cell gDB64 15 (by decide)
 simpa [dB64] using h
theorem trailing64 (w:World) (hg:Gd w):Calls Tryz.prog 226 #[.int .u64 16] w fun e w'=>e = .returned (.int .i64 4)/\w=w':=by
 have hc:=dB_cell hg;have ha:bits .and .u64 16 18446744073709551600=16:=by decide
 have hw1:IntKind.u64.wrap (-16)=18446744073709551600:=by decide
 clear hg
 go_enter Tryz.func226,Tryz.ntmps226
 go_wp2
 go_ret
 exact ⟨rfl,rfl⟩
theorem trailing (w:World) (hg:Gd w):Calls Tryz.prog 198 #[.int .u64 16] w fun e w'=>e = .returned (.int .i64 4)/\w=w':=by
 go_enter Tryz.func198,Tryz.ntmps198
 go_wp2_with (go_at_call 226;refine (trailing64 _ hg).mono ?_;rintro e w' ⟨rfl,rfl⟩)
 go_ret
 exact ⟨rfl,rfl⟩
def Tail (w:World) (g:Nat) (T:List UInt8):Prop:=
 ∃ cur:Array Value,w.heap[g]? = some (.cells cur 219 (0,0))/\cur.size=65/\T.length<=65 /\ ∀ j (h:j<T.length),cur[65 - T.length+j]? = some (.int .u8 (T[j].toNat:Int))
theorem Tail.cell {w:World} {g:Nat} {T:List UInt8} (h:Tail w g T) (k:Nat) (hk:k<65): ∃ v,w.cell? ⟨g,k,none⟩=some v:=by
 obtain ⟨cur,hg,hs,_,_⟩:=h
 rw [cell_of_row w g k cur _ _ hg];exact ⟨cur[k],by simp [hs,hk]⟩
theorem Tail.frozen {w:World} {g:Nat} {T:List UInt8} (h:Tail w g T) (k:Nat):w.frozen? ⟨g,k,none⟩=false:=by
 obtain ⟨cur,hg,_⟩:=h
 simp [World.frozen?,hg]
theorem Tail.set {w:World} {g:Nat} {T:List UInt8} (h:Tail w g T) (c:UInt8) (hT:T.length<65):Tail (w.setCell ⟨g,64 - T.length,none⟩ (.int .u8 (c.toNat:Int))) g (c::T):=by
 obtain ⟨cur,hg,hs,hl,hc⟩:=h
 refine ⟨_,Lib.heap_setCell_same hg _,by simpa using hs,by simp;omega,?_⟩
 intro j hj
 cases j with
 | zero=>
   have e:65 - (c::T).length+0=64 - T.length:=by rw [List.length_cons];omega
   rw [e];have hlt:64 - T.length<cur.size:=by omega
   simp [hlt]
 | succ j=>
   have hj':j<T.length:=by simpa using hj
   have e:65 - (c::T).length+(j+1)=65 - T.length+j:=by rw [List.length_cons];omega
   rw [e];have hne:64 - T.length≠65 - T.length+j:=by omega
   simp [Array.getElem?_setIfInBounds,hne]
   exact hc j hj'
theorem Tail.string {w:World} {g cap:Nat} {T:List UInt8} (h:Tail w g T):(convert 92 9 (.slice (some ⟨g,65 - T.length,none⟩) T.length cap)).run Tryz.prog w = .ok (.string ⟨T.toArray⟩) w:=by
 obtain ⟨cur,hg,hs,hl,hc⟩:=h
 refine run_convert_bytes_back w 92 9 5 _ cap T Tryz.underlying92 Tryz.underlying5 Tryz.underlying9 fun j hj=> ?_
 rw [Addr.add_mid,cell_of_row w g _ cur _ _ hg]
 exact hc j hj
theorem slice65_from (b k:Nat) (h0:0<k) (hk:k<=65) (w:World):(Instr.sliceAt 219 (.pointer (some ⟨b,0,none⟩)) (some (.int .i64 (65 - (k:Int)))) none none).run Tryz.prog w = .ok (.slice (some ⟨b,65 - k,none⟩) k k) w:=by
 have e8:Tryz.prog.arrayLen 219=65:=by kernel_rfl
 have es:(sizeOf (Tryz.prog.elem 219)).run Tryz.prog w = .ok 1 w:=by kernel_rfl
 rw [run_sliceAt_array_l w 219 ⟨b,0,none⟩ (by kernel_rfl) .i64 _ (by omega) (by rw [e8];omega),es,e8];simp only [Result.andThen,slicedAt]
 have e1:(65 - (k:Int)).toNat=65 - k:=by omega
 have e2:65 - (65 - k)=k:=by omega
 rw [e1,e2,if_neg (by omega),Addr.add_mid]
 simp
theorem digC_at (n:Nat) (h:n<(ByteArray.mk #[48,49,50,51,52,53,54,55,56,57,97,98,99,100,101,102,103,104,105,106,107,108,109,110,111,112,113,114,115,116,117,118,119,120,121,122]).size) (h16:n<16):
 (ByteArray.mk #[48,49,50,51,52,53,54,55,56,57,97,98,99,100,101,102,103,104,105,106,107,108,109,110,111,112,113,114,115,116,117,118,119,120,121,122])[n]=digC n:=by
 rcases (show n=0∨n=1∨n=2∨n=3∨n=4∨n=5∨n=6∨n=7∨n=8∨n=9∨n=10∨n=11∨n=12∨n=13∨n=14∨n=15 from by omega) with
  rfl | rfl | rfl | rfl | rfl | rfl | rfl | rfl | rfl | rfl | rfl | rfl | rfl | rfl | rfl | rfl<;>rfl
theorem and15u (n:Nat) (h:n<65536):bits .and .u64 (n:Int) 15=((n % 16:Nat):Int):=by
 have:=u64_and_nat n 15 (by omega) (by omega)
 rw [nat_mask4] at this;exact this
theorem digsN_more (base f n:Nat) (T:List UInt8) (h: ¬ n<base):digsN base (f+1) n T=digsN base f (n / base) (digC (n % base)::T):=by rw [digsN,if_neg h]
theorem digsN_last (base f n:Nat) (T:List UInt8) (h:n<base):digsN base (f+1) n T=digC n::T:=by rw [digsN,if_pos h]
theorem formatBits16 (n:Nat) (w:World) (hg:Gd w) (hn:n<65536):
 Calls Tryz.prog 162 #[.slice none 0 0,.int .u64 n,.int .i64 16,.bool false,.bool false] w fun e w'=>e = .returned (.tuple #[.slice none 0 0,.string ⟨(hex16 n).toArray⟩])/\Below w.heap.size w w':=by
 have HG:=hid hg;clear hg
 go_enter Tryz.func162,Tryz.ntmps162
 go_wp2_with (first | (go_at_call 197;refine (isPowerOfTwo16 _).mono ?_;rintro e w' ⟨rfl,rfl⟩) | (go_at_call 198;refine (trailing _ (HG.out.kept ((Below.refl _ w).alloc (Nat.le_refl _) _))).mono ?_;rintro e w' ⟨rfl,rfl⟩))
 go_loopg [1,13] 4 (fun f uv iv wr=> ∃ (u:Nat) (T:List UInt8),1<=f/\T.length+f=4/\uv = .int .u64 u/\u<16 ^ f/\iv = .int .i64 (65 - T.length)/\digsN 16 f u T=hex16 n/\Tail wr w.heap.size T/\Below w.heap.size w wr)
 case atStart=>exact ⟨n,[],by omega,rfl,rfl,hn,rfl,rfl,⟨_,heap_alloc_new w _,by kernel_rfl,by simp,by intro j h;simp at h⟩,(Below.refl _ w).alloc (Nat.le_refl _) _⟩
 case round=>
  obtain ⟨u,T,hf1,hTf,rfl,hu,rfl,hdg,hT,hbw⟩:=hrel
  have HD:=hid hdg;have HT:=hid hT;clear hdg hT;have hT3:T.length<=3:=by omega
  have hu16:u<65536:=by
   have h4:16 ^ gk<=16 ^ 4:=Nat.pow_le_pow_right (by omega) (by omega)
   rw [show 16 ^ 4=65536 from rfl] at h4;exact Nat.lt_of_lt_of_le hu h4
  have hx0:(0:Int)<=65 - (T.length:Int) - 1:=by omega
  have hx1:65 - (T.length:Int) - 1<65:=by omega
  have hx2:(65 - (T.length:Int) - 1).toNat=64 - T.length:=by omega
  have hfz:=HT.out.frozen (64 - T.length);obtain ⟨v0,hc0⟩:=HT.out.cell (64 - T.length) (by omega)
  by_cases h16:16<=u
  ·obtain ⟨f,rfl⟩: ∃ f,gk=f+1:=⟨gk - 1,by omega⟩
   have hf:1<=f:=by
    rcases Nat.eq_zero_or_pos f with rfl | h
    ·simp at hu;omega
    ·exact h
   have HN:=hid (show digsN 16 f (u / 16) (digC (u % 16)::T)=hex16 n by rw [<- HD.out,digsN_more _ _ _ _ (by omega)]);have HU:=hid (show u / 16<16 ^ f by rw [Nat.pow_succ] at hu;omega);have ha:=and15u u hu16;have hd:=digC_at (u % 16) (by show u % 16<36;omega) (by omega)
   have HS:=hid (HT.out.set (digC (u % 16)) (by omega));clear hu
   go_wp2
   go_roundg f
   case measure=>omega
   case rel=>exact ⟨u / 16,digC (u % 16)::T,hf,by simp;omega,by go_num,HU.out,by simp;omega,HN.out,HS.out,hbw.setCell (p:=⟨w.heap.size,64 - T.length,none⟩) (Nat.le_refl _) _⟩
  ·obtain ⟨f,rfl⟩: ∃ f,gk=f+1:=⟨gk - 1,by omega⟩
   have HN:=hid (show digC u::T=hex16 n by rw [<- HD.out,digsN_last _ _ _ _ (by omega)]);have hd:=digC_at u (by show u<36;omega) (by omega)
   have hS:=HT.out.set (digC u) (by omega)
   have hb2:=hbw.setCell (p:=⟨w.heap.size,64 - T.length,none⟩) (Nat.le_refl _) (.int .u8 ((digC u).toNat:Int));have hsl:=slice65_from w.heap.size (T.length+1) (by omega) (by omega) (wr.setCell ⟨w.heap.size,64 - T.length,none⟩ (.int .u8 ((digC u).toNat:Int)))
   have hcv:=hS.string (cap:=T.length+1);rw [HN.out] at hcv;rw [show (hex16 n).length=T.length+1 by rw [<- HN.out];simp] at hcv;have e1:65 - ((T.length+1:Nat):Int)=65 - (T.length:Int) - 1:=by omega
   rw [e1] at hsl;have e2:65 - (T.length+1)=64 - T.length:=by omega
   rw [e2] at hsl hcv;clear e2;have HB:=hid hb2;clear hu hS hb2 e1
   go_wp2
   go_ret2
   exact ⟨rfl,HB.out⟩
theorem formatUint16' (n:Nat) (w:World) (hg:Gd w) (hn:n<65536):
 Calls Tryz.prog 262 #[.int .u64 n,.int .i64 16] w fun e w'=>e = .returned (.string ⟨(hex16 n).toArray⟩)/\Below w.heap.size w w':=by
 go_enter Tryz.func262,Tryz.ntmps262
 go_wp2_with (go_at_call 162;refine (formatBits16 _ _ hg hn).mono ?_;rintro e w1 ⟨rfl,hb1⟩)
 go_ret
 exact ⟨rfl,hb1⟩
theorem formatUint16 (n:Nat) (w:World) (hg:Gd w) (hn:n<65536):
 Calls Tryz.prog 258 #[.int .u64 n,.int .i64 16] w fun e w'=>e = .returned (.string ⟨(hex16 n).toArray⟩)/\Below w.heap.size w w':=by
 go_enter Tryz.func258,Tryz.ntmps258
 go_wp2_with (go_at_call 262;refine (formatUint16' _ _ hg hn).mono ?_;rintro e w1 ⟨rfl,hb1⟩)
 go_ret
 exact ⟨rfl,hb1⟩
theorem numV_marked {l:List UInt8} (h:marked l=true):numV l=valV 16 (behind l):=by simp [numV,behind,h]
theorem numV_nil:numV []=none:=by decide
theorem numV_zero {l:List UInt8} (h:marked (48::l)=false):numV (48::l)=valV 8 l:=by simp [numV,h]
theorem numV_ten {l:List UInt8} {c:UInt8} (h:marked (c::l)=false) (hc:c≠48):numV (c::l)=valV 10 (c::l):=by simp [numV,h,hc]
theorem behind_le (l:List UInt8):(behind l).length<=l.length:=by
 unfold behind;split<;>simp
theorem size_le {l:List UInt8} {s:ByteArray} {n:Nat} (h:l.length<=s.data.toList.length) (hs:s.size<=n):(⟨l.toArray⟩:ByteArray).size<=n:=by
 have e:(⟨l.toArray⟩:ByteArray).size=l.length:=by show l.toArray.size=_;simp
 simp at h;omega
theorem empty_yes (s:ByteArray) (h:s.data.toList=[]):s.toList.isEmpty=true:=by rw [Lib.toList_data,h];rfl
theorem empty_no (s:ByteArray) (h:s.data.toList≠[]):s.toList.isEmpty=false:=by
 rw [Lib.toList_data];cases hl:s.data.toList with
 | nil=>exact absurd hl h
 | cons a l=>rfl
theorem number_any (s:ByteArray) (w:World) (hs:s.size<=4000000000):
 Calls Tryz.prog 254 #[.string s] w fun e w'=>e = .returned (.tuple #[.int .u64 ((numV s.data.toList).getD 0:Nat),.bool (numV s.data.toList).isSome])/\w=w':=by
 by_cases hm:marked s.data.toList=true
 ·have HN:=hid (numV_marked hm)
  have hl:=size_le (behind_le s.data.toList) hs
  go_enter Tryz.func254,Tryz.ntmps254
  go_wp2_with (first | (go_at_call 252;refine (behindMark_any _ _ hs).mono ?_;rintro e w' ⟨rfl,rfl⟩) | (go_at_call 260;refine (valueOf_any _ _ _ (by decide) (by omega)).mono ?_;rintro e w' ⟨rfl,rfl⟩))
  go_ret2
  rw [HN.out];exact ⟨rfl,rfl⟩
 ·have hm':marked s.data.toList=false:=by simpa using hm
  clear hm;by_cases h0:s.data.toList=[]
  ·have HN:=hid (show numV s.data.toList=none by rw [h0];exact numV_nil)
   have he:=empty_yes s h0;clear h0
   go_enter Tryz.func254,Tryz.ntmps254
   go_wp2_with (first | (go_at_call 252;refine (behindMark_any _ _ hs).mono ?_;rintro e w' ⟨rfl,rfl⟩))
   go_ret2
   rw [HN.out];exact ⟨rfl,rfl⟩
  ·have he:=empty_no s h0
   have hz:0<s.size:=by
    have:0<s.data.toList.length:=List.length_pos_iff.2 h0;simpa using this
   obtain ⟨r,hr⟩:=list_one s hz
   have hz':(0:Int)<(s.size:Int):=by omega
   have h1':(1:Int)<=(s.size:Int):=by omega
   have HR:=hid hr;have HM:=hid hm';clear h0 hr;by_cases hc:s[0]=48
   ·have HN:=hid (show numV s.data.toList=valV 8 r by
     have hm2:=HM.out;have hr:=HR.out;rw [hc] at hr;rw [hr] at hm2 ⊢;rw [numV_zero hm2])
    have HX:=hid (show (s.extract 1 s.size).data.toList=r by rw [extract_drop,HR.out];rfl);have hc':(s[0].toNat:Int)=48:=by rw [hc];rfl
    have hx:(s.extract 1 s.size).size<=140737488351232:=by simp;omega
    clear hc
    go_enter Tryz.func254,Tryz.ntmps254
    go_wp2_with (first | (go_at_call 252;refine (behindMark_any _ _ hs).mono ?_;rintro e w' ⟨rfl,rfl⟩) | (go_at_call 260;refine (valueOf_l _ r _ _ HX.out (by decide) hx).mono ?_;rintro e w' ⟨rfl,rfl⟩))
    go_ret2
    rw [HN.out];exact ⟨rfl,rfl⟩
   ·have HN:=hid (show numV s.data.toList=valV 10 s.data.toList by
     have hm2:=HM.out;have hr:=HR.out;rw [hr] at hm2 ⊢;exact numV_ten hm2 hc)
    have hc':((s[0].toNat:Int)==48)=false:=by
     rw [beq_eq_false_iff_ne];intro e;apply hc;exact UInt8.toNat_inj.1 (by have:(48:UInt8).toNat=48:=rfl;omega)
    clear hc
    go_enter Tryz.func254,Tryz.ntmps254
    go_wp2_with (first | (go_at_call 252;refine (behindMark_any _ _ hs).mono ?_;rintro e w' ⟨rfl,rfl⟩) | (go_at_call 260;refine (valueOf_any _ _ _ (by decide) (by omega)).mono ?_;rintro e w' ⟨rfl,rfl⟩))
    go_ret2
    rw [HN.out];exact ⟨rfl,rfl⟩
theorem numbered_marked {l:List UInt8} (h:marked (lastLab (noDot l))=true):numberedV l=(valV 16 (behind (lastLab (noDot l)))).isSome:=by simp [numberedV,behind,h]
theorem numbered_plain {l:List UInt8} (h:marked (lastLab (noDot l))=false) (h0:lastLab (noDot l)≠[]):numberedV l=(valV 10 (lastLab (noDot l))).isSome:=by simp [numberedV,h,h0]
theorem numbered_nil {l:List UInt8} (h0:lastLab (noDot l)=[]):numberedV l=false:=by
 have:marked ([]:List UInt8)=false:=by decide
 simp [numberedV,h0,this]
theorem numbered_any (s:ByteArray) (w:World) (hs:s.size<=4000000000):
 Calls Tryz.prog 241 #[.string s] w fun e w'=>e = .returned (.bool (numberedV s.data.toList))/\w=w':=by
 obtain ⟨d,hd⟩: ∃ d:ByteArray,d=⟨(noDot s.data.toList).toArray⟩:=⟨_,rfl⟩
 have hdl:d.data.toList=noDot s.data.toList:=by rw [hd]
 have hds:d.size<=4000000000:=by rw [hd];exact size_le (noDot_le _) hs
 obtain ⟨k,hk,hi,hl⟩:=lastIdx_lab d
 have hx:(d.extract k d.size).data.toList=lastLab (noDot s.data.toList):=by rw [extract_drop,hl,hdl]
 obtain ⟨x,hxe⟩: ∃ x:ByteArray,x=d.extract k d.size:=⟨_,rfl⟩
 have hxs:x.size<=4000000000:=by rw [hxe];simp;omega
 rw [<- hxe] at hx;have hk0:(0:Int)<=(k:Int):=by omega
 have hk1:(k:Int)<=(d.size:Int):=by omega
 have HX:=hid hx;have HXE:=hid hxe.symm;have HI:=hid hi;have HDD:=hid hd;clear hx hxe hi hl hdl hd;by_cases hm:marked (lastLab (noDot s.data.toList))=true
 ·have HN:=hid (numbered_marked hm)
  have hm':marked x.data.toList=true:=by rw [HX.out];exact hm
  have hbl:=size_le (behind_le x.data.toList) hxs;have HB:=hid (show (⟨(behind x.data.toList).toArray⟩:ByteArray).data.toList=behind (lastLab (noDot s.data.toList)) by rw [HX.out]);clear hm
  go_enter Tryz.func241,Tryz.ntmps241
  go_wp2_with (first | (go_at_call 251;refine (withoutLastDot_any _ _ hs).mono ?_;rintro e w' ⟨rfl,rfl⟩;rw [<- HDD.out]) | (go_at_call 187;refine (Tryz.strings_LastIndexByte _ _ (by omega) _).mono ?_;rintro e w' ⟨rfl,rfl⟩;rw [HI.out]) | (go_at_call 252;rw [HXE.out];refine (behindMark_any _ _ hxs).mono ?_;rintro e w' ⟨rfl,rfl⟩) | (go_at_call 253;refine (digitsAlone_l _ _ _ _ HB.out (by decide) (by omega)).mono ?_;rintro e w' ⟨rfl,rfl⟩))
  go_ret
  rw [HN.out];exact ⟨rfl,rfl⟩
 ·have hm2:marked x.data.toList=false:=by rw [HX.out];simpa using hm
  by_cases h0:lastLab (noDot s.data.toList)=[]
  ·have HN:=hid (numbered_nil h0)
   have he:=empty_yes x (HX.out.trans h0);clear h0 hm
   go_enter Tryz.func241,Tryz.ntmps241
   go_wp2_with (first | (go_at_call 251;refine (withoutLastDot_any _ _ hs).mono ?_;rintro e w' ⟨rfl,rfl⟩;rw [<- HDD.out]) | (go_at_call 187;refine (Tryz.strings_LastIndexByte _ _ (by omega) _).mono ?_;rintro e w' ⟨rfl,rfl⟩;rw [HI.out]) | (go_at_call 252;rw [HXE.out];refine (behindMark_any _ _ hxs).mono ?_;rintro e w' ⟨rfl,rfl⟩))
   go_ret
   rw [HN.out];exact ⟨rfl,rfl⟩
  ·have HN:=hid (numbered_plain (by simpa using hm) h0)
   have he:=empty_no x (by rw [HX.out];exact h0)
   clear h0 hm
   go_enter Tryz.func241,Tryz.ntmps241
   go_wp2_with (first | (go_at_call 251;refine (withoutLastDot_any _ _ hs).mono ?_;rintro e w' ⟨rfl,rfl⟩;rw [<- HDD.out]) | (go_at_call 187;refine (Tryz.strings_LastIndexByte _ _ (by omega) _).mono ?_;rintro e w' ⟨rfl,rfl⟩;rw [HI.out]) | (go_at_call 252;rw [HXE.out];refine (behindMark_any _ _ hxs).mono ?_;rintro e w' ⟨rfl,rfl⟩) | (go_at_call 253;refine (digitsAlone_l _ _ _ _ HX.out (by decide) (by omega)).mono ?_;rintro e w' ⟨rfl,rfl⟩))
   go_ret
   rw [HN.out];exact ⟨rfl,rfl⟩
theorem fourN_none {r high:Nat} {l:List UInt8} (h:numV (Lib.cut l [46]).1=none):fourN (r+1) high l=none:=by rw [fourN,h]
theorem fourN_more_big {r high n:Nat} {l:List UInt8} (h:numV (Lib.cut l [46]).1=some n) (hm:(Lib.cut l [46]).2.2=true) (hn:255<n):fourN (r+1) high l=none:=by rw [fourN,h];simp [hm,hn]
theorem fourN_more {r high n:Nat} {l:List UInt8} (h:numV (Lib.cut l [46]).1=some n) (hm:(Lib.cut l [46]).2.2=true) (hn: ¬ 255<n):fourN (r+1) high l=fourN r (high*256+n) (Lib.cut l [46]).2.1:=by rw [fourN,h];simp [hm,hn]
theorem fourN_last_big {r high n:Nat} {l:List UInt8} (h:numV (Lib.cut l [46]).1=some n) (hm:(Lib.cut l [46]).2.2=false) (hn: ¬ n<2 ^ (8*(r+1))):fourN (r+1) high l=none:=by rw [fourN,h];simp [hm,hn]
theorem fourN_last {r high n:Nat} {l:List UInt8} (h:numV (Lib.cut l [46]).1=some n) (hm:(Lib.cut l [46]).2.2=false) (hn:n<2 ^ (8*(r+1))):fourN (r+1) high l=some (high*2 ^ (8*(r+1))+n):=by rw [fourN,h];simp [hm,hn]
theorem ret_u32e {a b:Int} {x y:Int} (h:a=b) (g:x=y):Ending.returned (.tuple #[.int .u32 a,.int .i64 x]) = .returned (.tuple #[.int .u32 b,.int .i64 y]):=by rw [h,g]
theorem getD_some {o:Option Nat} {n:Nat} (h:o=some n):o.getD 0=n:=by rw [h];rfl
theorem getD_none {o:Option Nat} (h:o=none):o.getD 0=0:=by rw [h];rfl
theorem isSome_some {α:Type} {o:Option α} {n:α} (h:o=some n):o.isSome=true:=by rw [h];rfl
theorem isSome_none {α:Type} {o:Option α} (h:o=none):o.isSome=false:=by rw [h];rfl
theorem valN_le (base:Nat): ∀ (l:List UInt8) (n m:Nat),n<=4294967296->valN base n l=some m->m<=4294967296
 | [],n,m,h,e=>by rw [valN] at e;cases e;exact h
 | c::l,n,m,h,e=>by
   rw [valN] at e;split at e
   ·exact valN_le base l _ m (by omega) e
   ·cases e
theorem numV_le (l:List UInt8) (n:Nat) (h:numV l=some n):n<=4294967296:=by
 unfold numV at h;split at h
 ·exact valN_le _ _ _ _ (by omega) h
 ·split at h
  ·cases h
  ·split at h
   ·exact valN_le _ _ _ _ (by omega) h
   ·exact valN_le _ _ _ _ (by omega) h
theorem orN (k h n:Nat) (hn:n<2 ^ k) (hh:h*2 ^ k+n<18446744073709551616):bits .or .u64 ((h:Int)*2 ^ k) (n:Int)=((h*2 ^ k+n:Nat):Int):=by
 have e:(h:Int)*2 ^ k=((h*2 ^ k:Nat):Int):=by simp
 rw [e,u64_or_nat _ _ (by omega) (by omega)]
 congr 1
 rw [<- Nat.shiftLeft_eq,Nat.shiftLeft_add_eq_or_of_lt hn]
theorem or256 (h n:Nat) (hn:n<256) (hh:h<16777216):bits .or .u64 ((h:Int)*256) (n:Int)=(h:Int)*256+n:=by
 have:=orN 8 h n (by omega) (by omega)
 simpa using this
theorem four_any (s:ByteArray) (w:World) (hg:Gd w) (hs:s.size<=4000000000):
 Calls Tryz.prog 242 #[.string s] w fun e w'=>e = .returned (.tuple #[.int .u32 ((fourV s.data.toList).getD 0:Nat),.int .i64 (er (fourV s.data.toList))])/\Below w.heap.size w w':=by
 have hnl:(noDot s.data.toList).length<=4000000000:=Nat.le_trans (noDot_le _) (by simpa using hs)
 go_enter Tryz.func242,Tryz.ntmps242
 go_wp2
 go_step3
 go_wp2_with (go_at_call 251;refine (withoutLastDot_any _ _ hs).mono ?_;rintro e w' ⟨rfl,rfl⟩)
 go_step3
 go_wp2
 go_loopg [4,5,15] 4 (fun r rest high i wr=> ∃ (h:Nat) (l:List UInt8),r<=4/\i = .int .i64 (4 - r)/\high = .int .u64 h/\rest = .string ⟨l.toArray⟩/\l.length<=4000000000/\h<2 ^ (8*(4 - r))/\fourN r h l=fourV s.data.toList/\Below w.heap.size w wr)
 case atStart=>exact ⟨0,noDot s.data.toList,by omega,rfl,rfl,rfl,hnl,by decide,rfl,Below.refl _ _⟩
 case round=>
  obtain ⟨h,l,hr,rfl,rfl,rfl,hl,hh,hf,hbw⟩:=hrel
  have HF:=hid hf;clear hf;have HG:=hid (hg.kept hbw);have hls:(⟨l.toArray⟩:ByteArray).size<=4000000000:=by show l.toArray.size<=_;simpa using hl
  cases gk with
  | zero=>
    have HN:=hid (show fourV s.data.toList=none by rw [<- HF.out];rfl)
    go_wp2
    rw [Exit.noGoto_ret]
    go_ret2
    exact ⟨ret_u32e (by rw [getD_none HN.out];rfl) (er_none HN.out).symm,hbw⟩
  | succ r=>
    obtain ⟨⟨a,b,m⟩,hc⟩: ∃ x,Lib.cut l [46]=x:=⟨_,rfl⟩
    have HC:=hid hc;have hcl:=cut_le l [46];rw [hc] at hcl;obtain ⟨hal,hbl⟩:=hcl
    simp only at hal hbl;have hal':(⟨a.toArray⟩:ByteArray).size<=4000000000:=by show a.toArray.size<=_;simp;omega
    have hbl':b.length<=4000000000:=by omega
    clear hc
    cases hnum:numV a with
    | none=>
      have HN:=hid (show fourV s.data.toList=none by rw [<- HF.out];exact fourN_none (by rw [HC.out];exact hnum));have h1:=isSome_none hnum;clear hnum
      go_wp2_with (first | (go_at_call 19;refine (cut_any _ _ _ HG.out hls).mono ?_;rintro e w1 ⟨rfl,hb1⟩;rw [show (⟨l.toArray⟩:ByteArray).data.toList=l from rfl,show (⟨#[46]⟩:ByteArray).data.toList=[46] from rfl,HC.out]) | (go_at_call 254;refine (number_any _ _ hal').mono ?_;rintro e w' ⟨rfl,rfl⟩;rw [show (⟨a.toArray⟩:ByteArray).data.toList=a from rfl,h1]))
      rw [Exit.noGoto_ret]
      go_ret2
      exact ⟨ret_u32e (by rw [getD_none HN.out];rfl) (er_none HN.out).symm,below2 hbw hb1⟩
    | some n=>
      have h1:=isSome_some hnum;have h2:=getD_some hnum;have hn:=numV_le _ _ hnum;have HU:=hid (show numV (Lib.cut l [46]).1=some n by rw [HC.out];exact hnum);have HM:=hid (show (Lib.cut l [46]).2.2=m by rw [HC.out]);clear hnum
      cases m with
      | true=>
        by_cases h255:255<n
        ·have HN:=hid (show fourV s.data.toList=none by rw [<- HF.out];exact fourN_more_big HU.out HM.out h255)
         go_wp2_with (first | (go_at_call 19;refine (cut_any _ _ _ HG.out hls).mono ?_;rintro e w1 ⟨rfl,hb1⟩;rw [show (⟨l.toArray⟩:ByteArray).data.toList=l from rfl,show (⟨#[46]⟩:ByteArray).data.toList=[46] from rfl,HC.out]) | (go_at_call 254;refine (number_any _ _ hal').mono ?_;rintro e w' ⟨rfl,rfl⟩;rw [show (⟨a.toArray⟩:ByteArray).data.toList=a from rfl,h1,h2]))
         rw [Exit.noGoto_ret]
         go_ret2
         exact ⟨ret_u32e (by rw [getD_none HN.out];rfl) (er_none HN.out).symm,below2 hbw hb1⟩
        ·have HN:=hid (show fourN r (h*256+n) b=fourV s.data.toList by rw [<- HF.out,fourN_more HU.out HM.out h255,HC.out])
         have hh':h<16777216∨r=0:=by
          obtain rfl | rfl | rfl | rfl:r=0∨r=1∨r=2∨r=3:=by omega
          all_goals simp at hh ⊢ <;>omega
         have hh32:h<16777216:=by
          obtain rfl | rfl | rfl | rfl:r=0∨r=1∨r=2∨r=3:=by omega
          all_goals simp at hh<;>omega
         have hh2:h*256+n<2 ^ (8*(4 - r)):=by
          have e:8*(4 - r)=8*(4 - (r+1))+8:=by omega
          rw [e,Nat.pow_add]
          omega
         have ho:=or256 h n (by omega) (by omega)
         have HH:=hid hh2;clear hh2 hh hh'
         go_wp2_with (first | (go_at_call 19;refine (cut_any _ _ _ HG.out hls).mono ?_;rintro e w1 ⟨rfl,hb1⟩;rw [show (⟨l.toArray⟩:ByteArray).data.toList=l from rfl,show (⟨#[46]⟩:ByteArray).data.toList=[46] from rfl,HC.out]) | (go_at_call 254;refine (number_any _ _ hal').mono ?_;rintro e w' ⟨rfl,rfl⟩;rw [show (⟨a.toArray⟩:ByteArray).data.toList=a from rfl,h1,h2]))
         go_roundg r
         case measure=>omega
         case rel=>exact ⟨h*256+n,b,by omega,by go_num,by go_num,rfl,hbl',HH.out,HN.out,below2 hbw hb1⟩
      | false=>
        by_cases hbig:n<2 ^ (8*(r+1))
        ·have HN:=hid (show fourV s.data.toList=some (h*2 ^ (8*(r+1))+n) by rw [<- HF.out];exact fourN_last HU.out HM.out hbig)
         obtain rfl | rfl | rfl | rfl:r=0∨r=1∨r=2∨r=3:=by omega
         ·simp only [Nat.reduceAdd,Nat.reduceMul,Nat.reducePow,Nat.reduceSub] at hh hbig HN
          have ho0:=orN 8 h n (by omega) (by omega)
          have ho:bits .or .u64 ((h:Int)*256) (n:Int)=((h*256+n:Nat):Int):=by simpa using ho0
          have HO:=hid ho;clear ho ho0
          go_wp2_with (first | (go_at_call 19;refine (cut_any _ _ _ HG.out hls).mono ?_;rintro e w1 ⟨rfl,hb1⟩;rw [show (⟨l.toArray⟩:ByteArray).data.toList=l from rfl,show (⟨#[46]⟩:ByteArray).data.toList=[46] from rfl,HC.out]) | (go_at_call 254;refine (number_any _ _ hal').mono ?_;rintro e w' ⟨rfl,rfl⟩;rw [show (⟨a.toArray⟩:ByteArray).data.toList=a from rfl,h1,h2]))
          rw [Exit.noGoto_ret]
          go_ret2
          refine ⟨ret_u32e ?_ (er_some HN.out).symm,below2 hbw hb1⟩;rw [getD_some HN.out];have ho:=HO.out;show bits .or .u64 ((h:Int)*256) (n:Int) % 4294967296=_;rw [ho];omega
         ·simp only [Nat.reduceAdd,Nat.reduceMul,Nat.reducePow,Nat.reduceSub] at hh hbig HN
          have ho0:=orN 16 h n (by omega) (by omega)
          have ho:bits .or .u64 ((h:Int)*65536) (n:Int)=((h*65536+n:Nat):Int):=by simpa using ho0
          have HO:=hid ho;clear ho ho0
          go_wp2_with (first | (go_at_call 19;refine (cut_any _ _ _ HG.out hls).mono ?_;rintro e w1 ⟨rfl,hb1⟩;rw [show (⟨l.toArray⟩:ByteArray).data.toList=l from rfl,show (⟨#[46]⟩:ByteArray).data.toList=[46] from rfl,HC.out]) | (go_at_call 254;refine (number_any _ _ hal').mono ?_;rintro e w' ⟨rfl,rfl⟩;rw [show (⟨a.toArray⟩:ByteArray).data.toList=a from rfl,h1,h2]))
          rw [Exit.noGoto_ret]
          go_ret2
          refine ⟨ret_u32e ?_ (er_some HN.out).symm,below2 hbw hb1⟩;rw [getD_some HN.out];have ho:=HO.out;show bits .or .u64 ((h:Int)*65536) (n:Int) % 4294967296=_;rw [ho];omega
         ·simp only [Nat.reduceAdd,Nat.reduceMul,Nat.reducePow,Nat.reduceSub] at hh hbig HN
          have ho0:=orN 24 h n (by omega) (by omega)
          have ho:bits .or .u64 ((h:Int)*16777216) (n:Int)=((h*16777216+n:Nat):Int):=by simpa using ho0
          have HO:=hid ho;clear ho ho0
          go_wp2_with (first | (go_at_call 19;refine (cut_any _ _ _ HG.out hls).mono ?_;rintro e w1 ⟨rfl,hb1⟩;rw [show (⟨l.toArray⟩:ByteArray).data.toList=l from rfl,show (⟨#[46]⟩:ByteArray).data.toList=[46] from rfl,HC.out]) | (go_at_call 254;refine (number_any _ _ hal').mono ?_;rintro e w' ⟨rfl,rfl⟩;rw [show (⟨a.toArray⟩:ByteArray).data.toList=a from rfl,h1,h2]))
          rw [Exit.noGoto_ret]
          go_ret2
          refine ⟨ret_u32e ?_ (er_some HN.out).symm,below2 hbw hb1⟩;rw [getD_some HN.out];have ho:=HO.out;show bits .or .u64 ((h:Int)*16777216) (n:Int) % 4294967296=_;rw [ho];omega
         ·simp only [Nat.reduceAdd,Nat.reduceMul,Nat.reducePow,Nat.reduceSub] at hh hbig HN
          have ho0:=orN 32 h n (by omega) (by omega)
          have ho:bits .or .u64 ((h:Int)*4294967296) (n:Int)=((h*4294967296+n:Nat):Int):=by simpa using ho0
          have HO:=hid ho;clear ho ho0
          go_wp2_with (first | (go_at_call 19;refine (cut_any _ _ _ HG.out hls).mono ?_;rintro e w1 ⟨rfl,hb1⟩;rw [show (⟨l.toArray⟩:ByteArray).data.toList=l from rfl,show (⟨#[46]⟩:ByteArray).data.toList=[46] from rfl,HC.out]) | (go_at_call 254;refine (number_any _ _ hal').mono ?_;rintro e w' ⟨rfl,rfl⟩;rw [show (⟨a.toArray⟩:ByteArray).data.toList=a from rfl,h1,h2]))
          rw [Exit.noGoto_ret]
          go_ret2
          refine ⟨ret_u32e ?_ (er_some HN.out).symm,below2 hbw hb1⟩;rw [getD_some HN.out];have ho:=HO.out;show bits .or .u64 ((h:Int)*4294967296) (n:Int) % 4294967296=_;rw [ho];omega
        ·have HN:=hid (show fourV s.data.toList=none by rw [<- HF.out];exact fourN_last_big HU.out HM.out hbig)
         obtain rfl | rfl | rfl | rfl:r=0∨r=1∨r=2∨r=3:=by omega
         all_goals
          simp only [Nat.reduceAdd,Nat.reduceMul,Nat.reducePow,Nat.reduceSub] at hh hbig
          go_wp2_with (first | (go_at_call 19;refine (cut_any _ _ _ HG.out hls).mono ?_;rintro e w1 ⟨rfl,hb1⟩;rw [show (⟨l.toArray⟩:ByteArray).data.toList=l from rfl,show (⟨#[46]⟩:ByteArray).data.toList=[46] from rfl,HC.out]) | (go_at_call 254;refine (number_any _ _ hal').mono ?_;rintro e w' ⟨rfl,rfl⟩;rw [show (⟨a.toArray⟩:ByteArray).data.toList=a from rfl,h1,h2]))
          rw [Exit.noGoto_ret]
          go_ret2
          exact ⟨ret_u32e (by rw [getD_none HN.out];rfl) (er_none HN.out).symm,below2 hbw hb1⟩
end Go.Proofs.YtijpkalkfbejeaaGreatDoor
