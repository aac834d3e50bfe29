/-
  Walks and plain facts that this claim leans on, put together out of 3 texts: Sg, Si, Sk.
-/
import Derived.Test.YtolioccofbhliaaGreatDoorProg
import Derived.Test.YtolioccofbhliaaGreatDoorQp1
import Derived.Test.YtolioccofbhliaaGreatDoorQp2
import Derived.Test.YtolioccofbhliaaGreatDoorQp3
import Derived.Test.YtolioccofbhliaaGreatDoorQp4
import Derived.Test.YtolioccofbhliaaGreatDoorQp5
import Derived.Test.YtolioccofbhliaaGreatDoorQp8
import Derived.Lib.IndexMore
import Derived.Lib.Join
import Derived.Lib.LastIndexByte
import Derived.WalkKit
import Derived.Lib.Strings
import Derived.Lib.UnsafeStr
import Derived.Laws.IdiomStrings
import Derived.Laws.AppendOwn
import Derived.Laws.BitsAllLaws
import Derived.Lib.Bytealg
import Derived.Lib.BufferMore
import Derived.LoopN
import Derived.RegionTactic
import Derived.Deep.RegionWith
import Derived.Deep.QuietTactic
import Derived.BigQuiet
import Derived.Laws.OwnMore
import Derived.Deep.LoopGhost
import Derived.Shelf.Strings.Builder1
import Derived.Shelf.Strings.Builder2
import Derived.Shelf.Strings.OnBuilder
import Derived.Shelf.Strings.Trim
import Derived.Shelf.Small.Utf8
import Derived.Shelf.Small.Bits
import Derived.Shelf.Small.Strs
import Derived.Shelf.Small.Wraps
import Derived.Shelf.Strings.BuilderF
import Derived.Shelf.Strings.BuilderK
import Derived.Shelf.Strings.Builder2Cap
import Derived.Shelf.Strconv.Itoa0
import Derived.Shelf.Strconv.Itoa1
import Derived.Shelf.LaysM
import Derived.Shelf.Strconv.Itoa2
import Derived.Shelf.Strconv.Itoa3
import Derived.Shelf.Strings.Search1
import Derived.Shelf.Strings.Search2
import Derived.Shelf.Strings.Cut
import Derived.Shelf.Strings.Shaped
import Derived.Shelf.Sort.Plain
import Derived.Shelf.Strings.Prefix
import Derived.Shelf.Strings.Runes
import Derived.Shelf.Strings.IndexAny
import Derived.Shelf.Strings.AsciiSet
import Derived.Shelf.Strings.IndexAnyAll
import Derived.Shelf.Unicode.DecodeSlow
import Derived.Shelf.Unicode.DecodeAny
import Derived.Shelf.Unicode.DecodeLast
import Derived.Shelf.Slices.CompactS
import Derived.Shelf.Slices.In.SortNone
import Derived.Ground.SlgnProg
import Derived.Shelf.SlicesE.Compact
import Derived.Ground.SlgfProg
import Derived.Shelf.SlicesE.IndexFunc
import Derived.Shelf.SlicesE.DeleteFunc
import Derived.WalkSpells
import Derived.WalkLawsBesides
import Derived.Lib.AppendIntMem
import Derived.Lib.SmallJoins
import Derived.WalkSmall
import Derived.WalkMore
import Derived.OwnWalk
import Derived.Laws.CopyOwn
import Derived.Laws.ResultCell
import Derived.Deep.MidRow
import Derived.Lib.FrozenHead2
import Derived.Lib.OthersKept
import Derived.Lib.Builder
import Derived.BigRegion
set_option linter.unusedSimpArgs false
set_option linter.unusedVariables false

namespace Go.Proofs.YtolioccofbhliaaGreatDoor
open Go.RowKit

theorem digit_eq (c:UInt8):digitI (c.toNat:Int)=decide (dig16 c<10):=by
 have key: ∀ n<256,digitI ((UInt8.ofNat n).toNat:Int)=decide (dig16 (UInt8.ofNat n)<10):=by decide +kernel
 have:=key c.toNat c.toNat_lt;have e:UInt8.ofNat c.toNat=c:=by simp
 rw [e] at this;exact this

def tenC (c:UInt8):Bool:=decide (dig16 c<10)

def plainTo (X:ByteArray) (k:Nat):Bool:=decide (0<X.size)&&(X.data.toList.take k).all tenC

theorem plainTo_succ (X:ByteArray) (k:Nat) (h:k<X.size):plainTo X (k+1)=(plainTo X k&&tenC X[k]):=by
 unfold plainTo;rw [take_snoc X k h,List.all_append,Bool.and_assoc];simp

theorem plainTo_all (X:ByteArray) (k:Nat) (h: ¬ k<X.size):plainTo X k=(decide (X.data.toList≠[])&&X.data.toList.all fun c=>decide (dig16 c<10)):=by
 unfold plainTo;rw [take_all X k h]
 congr 1
 rw [decide_eq_decide];rw [← List.length_pos_iff];simp

theorem lab_last (l:List UInt8) (L:List (List UInt8)) (m:Nat) (hL:labL l=L) (hm:L.length=m+1):L[m]'(by omega)=lastLab (noDot l):=by
 have h:=lastL_of hm;have h2:L.getLast? = some (lastLab (noDot l)):=by rw [← hL,labL_eq,cutL_last]
 rw [h] at h2;exact Option.some.inj h2

theorem labL_ne (l:List UInt8):labL l≠[]:=by rw [labL_eq];exact cutL_ne _ _

theorem cutL_le (c:UInt8): ∀ (l:List UInt8),∀ x ∈ cutL c l,x.length≤l.length:=
 cutL_ind c (fun l h x hx=>by rw [cutL_none c l h] at hx;simp at hx;rw [hx];exact Nat.le_refl _)
  (fun a r h ih x hx=>by
    rw [cutL_some c a r h] at hx;rcases List.mem_cons.1 hx with rfl | hx
    ·simp
    ·have:=ih x hx;simp;omega)

theorem labL_le (l:List UInt8) (x:List UInt8) (h:x ∈ labL l):x.length≤l.length:=by
 rw [labL_eq] at h;exact Nat.le_trans (cutL_le 46 _ x h) (noDot_le l)

set_option maxHeartbeats 4000000 in
set_option maxRecDepth 100000 in
theorem rnumbered_any (s:ByteArray) (w:World) (hs:s.size≤1000000):
 Calls Tryz.prog 266 #[.string s] w fun e w'=>e = .returned (.bool (numberedV s.data.toList))∧Below w.heap.size w w':=by
 obtain ⟨L,hL⟩: ∃ L,labL s.data.toList=L:=⟨_,rfl⟩
 have hne:L≠[]:=by rw [← hL];exact labL_ne _
 obtain ⟨m,hm⟩: ∃ m,L.length=m+1:=⟨L.length - 1,by have:=List.length_pos_iff.2 hne;omega⟩
 obtain ⟨X,hX⟩: ∃ X:ByteArray,X=⟨(L[m]'(by omega)).toArray⟩:=⟨_,rfl⟩
 have HXd:=hid (show X.data.toList=lastLab (noDot s.data.toList) by rw [hX];exact lab_last _ L m hL hm);have hXs:X.size≤1000000:=by
  have h1:=labL_le s.data.toList (L[m]'(by omega)) (by rw [hL];exact List.getElem_mem _)
  rw [hX];show (L[m]'(by omega)).toArray.size≤_
  simp at h1 ⊢;omega
 have HR:=hid (show numberedV s.data.toList=((decide (X.data.toList≠[])&&X.data.toList.all fun c=>decide (dig16 c<10))||(marked X.data.toList&&(X.data.toList.drop 2).all fun c=>decide (dig16 c<16))) by rw [rnumbered_eq,HXd.out];rfl);have HL:=hid hL;have HM:=hid hm;have hlab:=labels_any s w hs;rw [hL] at hlab;clear hL
 go_enter Tryz.func266,Tryz.ntmps266
 go_wp2_with fail
 refine hlab.mono ?_;rintro e w1 ⟨b,cap,rfl,hlc,hcm,htx,hbw⟩
 clear hlab;have hcell:=htx m (by omega)
 rw [← hX] at hcell;clear htx hX;unfold maxLen at hcm;rw [hm] at hlc ⊢;clear hm
 go_wp2_with fail
 go_loop [5,6] (fun p i=> ∃ k:Nat,k≤X.size∧i = .int .i64 k∧p = .bool (plainTo X k)) (fun _ i=>X.size - (intOf i).toNat)
 case atStart=>exact ⟨0,Nat.zero_le _,rfl,by simp [plainTo]⟩
 case round=>
  obtain ⟨k,hk,rfl,rfl⟩:=hrel
  by_cases hlt:k<X.size
  ·have hlt':(k:Int)<(X.size:Int):=by omega
   have hc8:X[k].toNat<256:=X[k].toNat_lt;have HS:=hid (plainTo_succ X k hlt);have hd:=digit_eq X[k];rw [show decide (dig16 X[k]<10)=tenC X[k] from rfl] at hd
   cases hpl:plainTo X k with
   | true=>
     have HP:=hid hpl;clear hpl
     go_wp2_with (go_at_call 159;refine (rdigit_any _ _).mono ?_;rintro e w' ⟨rfl,rfl⟩;rw [hd])
     go_round
     case rel=>exact ⟨k+1,by omega,by go_num,by rw [HS.out,HP.out];rfl⟩
     case measure=>simp [intOf];omega
   | false=>
     have HP:=hid hpl;clear hpl
     go_wp2_with fail
     go_round
     case rel=>exact ⟨k+1,by omega,by go_num,by rw [HS.out,HP.out];rfl⟩
     case measure=>simp [intOf];omega
  ·have hlt': ¬ (k:Int)<(X.size:Int):=by omega
   have hA:=plainTo_all X k hlt;have HA:=hid hA;clear hA
   cases hpl:plainTo X k with
   | true=>
     have HN:=hid (show numberedV s.data.toList=true by rw [HR.out,← HA.out,hpl];rfl);clear hpl
     go_wp2_with fail
     go_ret
     exact ⟨ret_bool HN.out.symm,hbw⟩
   | false=>
     have HR2:=hid (show numberedV s.data.toList=(marked X.data.toList&&(X.data.toList.drop 2).all fun c=>decide (dig16 c<16)) by rw [HR.out,← HA.out,hpl];rfl);clear hpl
     cases hm:marked X.data.toList with
     | false=>
       have HN:=hid (show numberedV s.data.toList=false by rw [HR2.out,hm];rfl);have hp:Lib.hasPrefix X.data.toList [48,120]=false∧Lib.hasPrefix X.data.toList [48,88]=false:=by
        unfold marked at hm;simpa using hm
       obtain ⟨hp1,hp2⟩:=hp
       clear hm
       go_wp2_with (first | (go_at_call 215;refine (begins_any _ _ _ (by omega) (by decide)).mono ?_;rintro e w' ⟨rfl,rfl⟩;first | rw [show (⟨#[48,120]⟩:ByteArray).data.toList=[48,120] from rfl,hp1] | rw [show (⟨#[48,88]⟩:ByteArray).data.toList=[48,88] from rfl,hp2]))
       go_ret
       exact ⟨ret_bool HN.out.symm,hbw⟩
     | true=>
       have h2:2≤X.size:=by
        obtain ⟨c,r,hx,_⟩:=marked_form _ hm
        have:=congrArg List.length hx;simp at this;omega
       have HR3:=hid (show numberedV s.data.toList=(X.data.toList.drop 2).all (fun c=>decide (dig16 c<16)) by rw [HR2.out,hm];rfl);have hcase:(Lib.hasPrefix X.data.toList [48,120]=true)∨(Lib.hasPrefix X.data.toList [48,120]=false∧Lib.hasPrefix X.data.toList [48,88]=true):=by
        unfold marked at hm
        cases h:Lib.hasPrefix X.data.toList [48,120]
        ·rw [h] at hm;exact .inr ⟨rfl,by simpa using hm⟩
        ·exact .inl rfl
       clear hm;rcases hcase with hp1 | ⟨hp1,hp2⟩
       all_goals
        go_wp2_with (first | (go_at_call 215;refine (begins_any _ _ _ (by omega) (by decide)).mono ?_;rintro e w' ⟨rfl,rfl⟩;first | rw [show (⟨#[48,120]⟩:ByteArray).data.toList=[48,120] from rfl,hp1] | rw [show (⟨#[48,88]⟩:ByteArray).data.toList=[48,88] from rfl,hp2]))
        go_loop [7] (fun i=> ∃ q:Nat,2≤q∧q≤X.size∧i = .int .i64 q∧(X.data.toList.drop q).all (fun c=>decide (dig16 c<16))=(X.data.toList.drop 2).all (fun c=>decide (dig16 c<16))) (fun i=>X.size - (intOf i).toNat)
        case atStart=>exact ⟨2,by omega,by omega,rfl,rfl⟩
        case round=>
         obtain ⟨q,hq2,hq,rfl,hall⟩:=hrel
         have HQ:=hid hall;clear hall;by_cases hqlt:q<X.size
         ·have hqlt':(q:Int)<(X.size:Int):=by omega
          have hq8:X[q].toNat<256:=X[q].toNat_lt;have HD:=hid (drop_cons X q hqlt);by_cases hd:dig16 X[q]<16
          ·have hx:=hex_yes hd
           have HQ2:=hid (show (X.data.toList.drop (q+1)).all (fun c=>decide (dig16 c<16))=(X.data.toList.drop 2).all (fun c=>decide (dig16 c<16)) by rw [← HQ.out,HD.out,List.all_cons];simp [hd]);generalize dig16 X[q]=d at *
           have hd0: ¬ ((d:Int)<0):=by omega
           go_wp2_with (go_at_call 271;refine (rhex_any _ _ (by omega) (by omega)).mono ?_;rintro e w' ⟨rfl,rfl⟩;rw [hx])
           go_round
           case rel=>exact ⟨q+1,by omega,by omega,by go_num,HQ2.out⟩
           case measure=>simp [intOf];omega
          ·have hx:=hex_no hd
           have HN:=hid (show numberedV s.data.toList=false by rw [HR3.out,← HQ.out,HD.out,List.all_cons];simp [hd]);clear hd
           go_wp2_with (go_at_call 271;refine (rhex_any _ _ (by omega) (by omega)).mono ?_;rintro e w' ⟨rfl,rfl⟩;rw [hx])
           go_ret
           exact ⟨ret_bool HN.out.symm,hbw⟩
         ·have hqlt': ¬ (q:Int)<(X.size:Int):=by omega
          have HN:=hid (show numberedV s.data.toList=true by rw [HR3.out,← HQ.out,drop_none X q hqlt];rfl)
          go_wp2_with fail
          go_ret
          exact ⟨ret_bool HN.out.symm,hbw⟩

end Go.Proofs.YtolioccofbhliaaGreatDoor

namespace Go.Proofs.YtolioccofbhliaaGreatDoor
open Go.RowKit

theorem infoU64:(Tryz.prog.info? 211).map (fun i=>(i.zero,i.size,i.bytes))=some (some (.int .u64 0),1,8):=by kernel_rfl

def cells64 (l:List Nat):List Value:=l.map fun (n:Nat)=>Value.int .u64 (n:Int)

theorem cells64_app (a b:List Nat):cells64 (a++b)=cells64 a++cells64 b:=by simp [cells64]

def Four2Post (l:List UInt8) (w:World) (e:Ending) (w':World):Prop:=e = .returned (.tuple #[.int .u32 ((fourV l).getD 0:Nat),.bool (fourV l).isSome])∧Below w.heap.size w w'

theorem four2_none {l:List UInt8} {w w':World} (h:fourV l=none) (hb:Below w.heap.size w w'):Four2Post l w (.returned (.tuple #[.int .u32 0,.bool false])) w':=by
 unfold Four2Post;rw [h];exact ⟨rfl,hb⟩

theorem four2_some {l:List UInt8} {w w':World} {n:Nat} {z:Int} (h:fourV l=some n) (hz:z=(n:Int)) (hb:Below w.heap.size w w'):Four2Post l w (.returned (.tuple #[.int .u32 z,.bool true])) w':=by
 unfold Four2Post;rw [h,hz];exact ⟨rfl,hb⟩

theorem numV_none {x:List UInt8} (h:rnumV x=none):numV x=none:=by rw [rnumV_eq,h];rfl

theorem numV_some {x:List UInt8} {n:Nat} (h:rnumV x=some n):numV x=some (min n 4294967296):=by rw [rnumV_eq,h];rfl

theorem drop_two (L:List (List UInt8)) (k m:Nat) (hm:L.length=m+1) (hk:k<m): ∃ R,L.drop k=L[k]'(by omega)::L[k+1]'(by omega)::R∧L.drop (k+1)=L[k+1]'(by omega)::R:=by
 refine ⟨L.drop (k+2),?_,?_⟩
 ·rw [List.drop_eq_getElem_cons (by omega),List.drop_eq_getElem_cons (by omega)]
 ·rw [List.drop_eq_getElem_cons (by omega)]

theorem drop_one_last (L:List (List UInt8)) (m:Nat) (hm:L.length=m+1):L.drop m=[L[m]'(by omega)]:=by
 rw [List.drop_eq_getElem_cons (by omega),List.drop_eq_nil_of_le (by omega)]

theorem fourL_step (L:List (List UInt8)) (k m r h n:Nat) (hm:L.length=m+1) (hk:k<m) (hn:rnumV (L[k]'(by omega))=some n) (h255:n≤255):fourL (r+1) h (L.drop k)=fourL r (h*256+n) (L.drop (k+1)):=by
 obtain ⟨R,e1,e2⟩:=drop_two L k m hm hk
 rw [e1,e2,fourL,numV_some hn]
 simp only;rw [Nat.min_eq_left (by omega),if_neg (by omega)]

theorem fourL_stop (L:List (List UInt8)) (k m r h n:Nat) (hm:L.length=m+1) (hk:k<m) (hn:rnumV (L[k]'(by omega))=some n) (h255: ¬ n≤255):fourL (r+1) h (L.drop k)=none:=by
 obtain ⟨R,e1,e2⟩:=drop_two L k m hm hk
 rw [e1,fourL,numV_some hn]
 simp only;rw [if_pos (by omega)]

theorem fourL_end (L:List (List UInt8)) (m r h n:Nat) (hm:L.length=m+1) (hr:r≤3) (hn:rnumV (L[m]'(by omega))=some n):fourL (r+1) h (L.drop m)=if n<2 ^ (8*(r+1)) then some (h*2 ^ (8*(r+1))+n) else none:=by
 rw [drop_one_last L m hm,fourL,numV_some hn];simp only;have h1:2 ^ (8*(r+1))≤2 ^ 32:=Nat.pow_le_pow_right (by omega) (by omega)
 rw [show 2 ^ 32=4294967296 from rfl] at h1;by_cases hlt:n<2 ^ (8*(r+1))
 ·rw [if_pos hlt,Nat.min_eq_left (by omega),if_pos hlt]
 ·rw [if_neg hlt,if_neg]
  omega

theorem or_shift (sh A h n:Nat) (hA:A=h*2 ^ (sh+8)) (hn:n≤255) (hh:(h*256+n)*2 ^ sh<4294967296):bits .or .u64 (A:Int) ((n*2 ^ sh:Nat):Int)=(((h*256+n)*2 ^ sh:Nat):Int):=by
 have h1:n*2 ^ sh<2 ^ (sh+8):=by
  rw [Nat.pow_add,Nat.mul_comm (2 ^ sh)]
  exact Nat.mul_lt_mul_of_pos_right (by omega) (Nat.two_pow_pos sh)
 have h2:h*2 ^ (sh+8)+n*2 ^ sh=(h*256+n)*2 ^ sh:=by
  rw [Nat.pow_add,Nat.add_mul,Nat.mul_assoc h 256,Nat.mul_comm 256]
 have:=orN (sh+8) h (n*2 ^ sh) h1 (by omega)
 rw [h2] at this;rw [← this,hA];simp

theorem or_last (k A h n:Nat) (hA:A=h*2 ^ k) (hn:n<2 ^ k) (hh:h*2 ^ k+n<4294967296):bits .or .u64 (A:Int) (n:Int)=((h*2 ^ k+n:Nat):Int):=by
 have:=orN k h n hn (by omega)
 rw [← this,hA];simp

set_option maxHeartbeats 4000000 in
set_option maxRecDepth 100000 in
theorem rfour_any (s:ByteArray) (w:World) (hs:s.size≤1000000):
 Calls Tryz.prog 267 #[.string s] w (Four2Post s.data.toList w):=by
 obtain ⟨i0,hi,hz0,hz1,hz2⟩:=info_parts infoU64
 obtain ⟨L,hL⟩: ∃ L,labL s.data.toList=L:=⟨_,rfl⟩
 have hne:L≠[]:=by rw [← hL];exact labL_ne _
 obtain ⟨m,hm⟩: ∃ m,L.length=m+1:=⟨L.length - 1,by have:=List.length_pos_iff.2 hne;omega⟩
 have HLs:=hid (show ∀ x ∈ L,x.length≤1000000 by
  intro x hx;rw [← hL] at hx;have:=labL_le _ x hx;simp at this
  omega)
 have HF:=hid (show fourV s.data.toList=fourL 4 0 L by rw [fourV_L,hL]);have HM:=hid hm;have hlab:=labels_any s w hs;rw [hL] at hlab;clear hL hne
 go_enter Tryz.func267,Tryz.ntmps267
 go_wp2_with fail
 refine hlab.mono ?_;rintro e w1 ⟨b,cap,rfl,hlc,hcm,htx,hbw⟩
 clear hlab;have HT:=hid htx;clear htx;unfold maxLen at hcm;rw [hm] at hlc ⊢;by_cases h4:3<m
 ·have HN:=hid (show fourV s.data.toList=none by rw [HF.out];exact fourL_many 4 0 L (by omega))
  have h4':(4:Int)<((m+1:Nat):Int):=by omega
  go_wp2_with fail
  go_ret2
  exact four2_none HN.out hbw
 ·have h4': ¬ (4:Int)<((m+1:Nat):Int):=by omega
  go_wp2_with fail
  clear hm
  go_loopw [5,6] (fun v i wr=> ∃ (k:Nat) (ms:List Nat),k≤m+1∧i = .int .i64 k∧ms.length=k∧wr.ownsRow w1.heap.size 211 1 v ms.length (cells64 ms)∧Below w1.heap.size w1 wr ∧ ∀ j (h:j<L.length),j<k→rnumV L[j]=some (ms.getD j 0))
   (fun _ i _=>m+1 - (intOf i).toNat)
  case atStart=>exact ⟨0,[],Nat.zero_le _,rfl,rfl,own_nil _ _ _,Below.refl _ _,fun j h hj=>absurd hj (by omega)⟩
  case round=>
   obtain ⟨k,ms,hk,rfl,hml,hown,hb1,hnum⟩:=hrel
   have HO:=hid hown;have HNm:=hid hnum;have hbs:=hb1.size;have hbs0:=hbw.size;clear hown hnum;by_cases hlt:k<m+1
   ·have hlt':(k:Int)<((m+1:Nat):Int):=by omega
    have hkL:k<L.length:=by rw [HM.out];exact hlt
    have hcell:=HT.out.kept hb1 k hkL;have HX:=hid (show rnumV (⟨(L[k]'hkL).toArray⟩:ByteArray).data.toList=rnumV (L[k]'hkL) from rfl);have hXs:(⟨(L[k]'hkL).toArray⟩:ByteArray).size≤4000000000:=by
     have:=HLs.out _ (List.getElem_mem hkL);show (L[k]'hkL).toArray.size≤_
     simp;omega
    have HB:=hid (show rnumV (L[k]'hkL)=none→fourV s.data.toList=none by
     intro h;rw [HF.out];exact fourL_bad 4 0 L _ (List.getElem_mem hkL) (numV_none h))
    cases hr:rnumV (L[k]'hkL) with
    | none=>
      have HN:=hid (HB.out hr);have g1:=hid (show (⟨(L[k]'hkL).toArray⟩:ByteArray).data.toList=L[k]'hkL from rfl);have hcall:=hid (fun W=>rnumber_any ⟨(L[k]'hkL).toArray⟩ W hXs);have hpost:=hid (fun W=>show NumPost (⟨(L[k]'hkL).toArray⟩:ByteArray).data.toList W=fun e w'=>e = .returned (.tuple #[.int .u64 0,.bool false])∧W=w' from by
       funext e w'
       unfold NumPost;rw [g1.out,hr];rfl)
      clear hr
      go_wp2_with (go_at_call 273;refine (hcall.out _).mono ?_;rw [hpost.out];rintro e w' ⟨rfl,rfl⟩)
      go_ret2
      exact four2_none HN.out (below2 hbw hb1)
    | some n=>
      have hnl:=rnumV_le _ _ hr;unfold lid at hnl;have HRn:=hid hr;have g1:=hid (show (⟨(L[k]'hkL).toArray⟩:ByteArray).data.toList=L[k]'hkL from rfl);have hcall:=hid (fun W=>rnumber_any ⟨(L[k]'hkL).toArray⟩ W hXs);have hpost:=hid (fun W=>show NumPost (⟨(L[k]'hkL).toArray⟩:ByteArray).data.toList W=fun e w'=>e = .returned (.tuple #[.int .u64 n,.bool true])∧W=w' from by
       funext e w'
       unfold NumPost;rw [g1.out,hr];rfl)
      clear hr
      go_wp2_with (first | (go_at_call 273;refine (hcall.out _).mono ?_;rw [hpost.out];rintro e w' ⟨rfl,rfl⟩) | (at_builtin;go_must (refine wpList_append_own _ rfl _ _ 295 rfl w1.heap.size 211 i0 (.int .u64 0) 1 8 Tryz.underlying295 hi hz0 hz1 hz2 rfl (by decide) _ _ _ rfl (HO.out.alloc _) ⟨wr.heap.size,0,none⟩ 1 1 [.int .u64 n] rfl rfl ?c1 ?c2 ?c3 ?c4 ?c5 ?_)))
      case c1=>
       intro q u hq
       match q,hq with
       | 0,hq=>simp at hq;subst hq;simp [Addr.add]
      case c2=>intro u hu;simp at hu;subst hu;rfl
      case c3=>unfold maxLen;omega
      case c4=>omega
      case c5=>simp;omega
      intro v' w2 hown' hgrow hnil;have HO2:=hid hown';have HB2:=hid (show Below w1.heap.size w1 w2 from (hb1.alloc hb1.size _).grown hgrow (by simp;omega) (fun g hg=>(HO.out.lt g hg).1));clear hown' hgrow hnil
      go_wp2
      go_roundw
      case rel=>
       refine ⟨k+1,ms++[n],by omega,by go_num,by simp;omega,?_,HB2.out,fun j hj hjk=> ?_⟩
       ·rw [cells64_app,List.length_append,hml];exact HO2.out
       ·by_cases hjk2:j=k
        ·subst hjk2
         rw [HRn.out];simp [hml]
        ·rw [HNm.out j hj (by omega)]
         rw [List.getD_eq_getElem?_getD,List.getD_eq_getElem?_getD,List.getElem?_append_left (by omega)]
      case measure=>simp [intOf];omega
   ·have hke:k=m+1:=by omega
    subst hke;have hlt': ¬ (((m+1:Nat):Int)<((m+1:Nat):Int)):=by omega
    obtain ⟨g,cap',hg⟩: ∃ g cap',u5 = .slice (some ⟨g,0,none⟩) (m+1) cap':=by
     rcases HO.out.2 with ⟨_,hn⟩ | ⟨g,cap',cur,hv,_⟩
     ·omega
     ·exact ⟨g,cap',by rw [hv,hml]⟩
    subst hg;have hcells: ∀ j,j<m+1→wr.cell? ⟨g,j,none⟩=some (.int .u64 ((ms.getD j 0:Nat):Int)):=by
     intro j hj;have h1:=HO.out;rw [hml] at h1;rw [h1.cellAt j (by omega),cells64,List.getElem?_map,List.getElem?_eq_getElem (by omega),List.getD_eq_getElem?_getD,List.getElem?_eq_getElem (by omega)];rfl
    have HC:=hid hcells;clear hcells;have hm3:m≤3:=by omega
    clear h4 h4'
    go_wp2_with fail
    go_loop [9,10] (fun al i=> ∃ k h A:Nat,k≤m∧i = .int .i64 k∧al = .int .u64 A∧A=h*2 ^ (32 - 8*k)∧h<2 ^ (8*k)∧fourL (4 - k) h (L.drop k)=fourV s.data.toList) (fun _ i=>m - (intOf i).toNat)
    case atStart=>exact ⟨0,0,0,Nat.zero_le _,rfl,rfl,rfl,by decide,by rw [List.drop_zero];exact HF.out.symm⟩
    case round=>
     obtain ⟨k,h,A,hk2,rfl,rfl,hA,hh,hfour⟩:=hrel
     have HFk:=hid hfour;have HA:=hid hA;have HH:=hid hh;clear hfour hA hh;by_cases hkm:k<m
     ·have hcell:=HC.out k (by omega)
      have HRk:=hid (HNm.out k (by rw [HM.out];omega) (by omega));generalize ms.getD k 0=n at *
      by_cases h255:n≤255
      ·have HN:=hid (show fourL (4 - k - 1) (h*256+n) (L.drop (k+1))=fourV s.data.toList by
        rw [← HFk.out,show 4 - k=(4 - k - 1)+1 by omega,fourL_step L k m (4 - k - 1) h n HM.out hkm HRk.out h255]
        rfl)
       have h255': ¬ (255:Int)<(n:Int):=by omega
       have hk3:k=0∨k=1∨k=2:=by omega
       rcases hk3 with rfl | rfl | rfl
       ·have HOr:=hid (or_shift 24 A h n HA.out h255 (by have:=HH.out;omega))
        go_wp2_with fail
        refine ⟨⟨1,h*256+n,(h*256+n)*2 ^ 24,by omega,rfl,?_,rfl,by have:=HH.out;omega,HN.out⟩,by simp [intOf];omega⟩
        rw [← HOr.out];simp
       ·have HOr:=hid (or_shift 16 A h n HA.out h255 (by have:=HH.out;omega))
        go_wp2_with fail
        refine ⟨⟨2,h*256+n,(h*256+n)*2 ^ 16,by omega,rfl,?_,rfl,by have:=HH.out;omega,HN.out⟩,by simp [intOf];omega⟩
        rw [← HOr.out];simp
       ·have HOr:=hid (or_shift 8 A h n HA.out h255 (by have:=HH.out;omega))
        go_wp2_with fail
        refine ⟨⟨3,h*256+n,(h*256+n)*2 ^ 8,by omega,rfl,?_,rfl,by have:=HH.out;omega,HN.out⟩,by simp [intOf];omega⟩
        rw [← HOr.out];simp
      ·have HN:=hid (show fourV s.data.toList=none by
        rw [← HFk.out,show 4 - k=(4 - k - 1)+1 by omega];exact fourL_stop L k m (4 - k - 1) h n HM.out hkm HRk.out h255)
       have h255':(255:Int)<(n:Int):=by omega
       go_wp2_with fail
       go_ret2
       exact four2_none HN.out (below2 hbw hb1)
     ·obtain rfl:k=m:=by omega
      have hcell:=HC.out k (by omega)
      have HRk:=hid (HNm.out k (by rw [HM.out];omega) (by omega));generalize ms.getD k 0=n at *
      have HE:=hid (show fourV s.data.toList=if n<2 ^ (8*(3 - k+1)) then some (h*2 ^ (8*(3 - k+1))+n) else none by
       rw [← HFk.out,show 4 - k=(3 - k)+1 by omega];exact fourL_end L k (3 - k) h n HM.out (by omega) HRk.out)
      have hm4:k=0∨k=1∨k=2∨k=3:=by omega
      rcases hm4 with rfl | rfl | rfl | rfl
      ·have hlt':(n:Int)<4294967296 ∨ ¬ (n:Int)<4294967296:=by omega
       rcases hlt' with hlt' | hlt'
       ·have HE2:=hid (show fourV s.data.toList=some (h*2 ^ 32+n) by rw [HE.out,if_pos (show n<2 ^ 32 by omega)])
        have HOr:=hid (or_last 32 A h n HA.out (by omega) (by have:=HH.out;omega));have hor:=HOr.out;have hlt2:h*2 ^ 32+n<4294967296:=by have:=HH.out;omega
        have hge:decide ((4294967296:Int)≤(n:Int))=false:=by simp;omega
        go_wp2_with fail
        go_ret2
        exact four2_some HE2.out (by simp) (below2 hbw hb1)
       ·have HE2:=hid (show fourV s.data.toList=none by rw [HE.out,if_neg (show ¬ n<2 ^ 32 by omega)])
        have hge:(4294967296:Int)≤(n:Int):=by omega
        go_wp2_with fail
        go_ret2
        exact four2_none HE2.out (below2 hbw hb1)
      ·have hlt':(n:Int)<16777216 ∨ ¬ (n:Int)<16777216:=by omega
       rcases hlt' with hlt' | hlt'
       ·have HE2:=hid (show fourV s.data.toList=some (h*2 ^ 24+n) by rw [HE.out,if_pos (show n<2 ^ 24 by omega)])
        have HOr:=hid (or_last 24 A h n HA.out (by omega) (by have:=HH.out;omega));have hor:=HOr.out;have hlt2:h*2 ^ 24+n<4294967296:=by have:=HH.out;omega
        have hge:decide ((16777216:Int)≤(n:Int))=false:=by simp;omega
        go_wp2_with fail
        go_ret2
        exact four2_some HE2.out (by simp) (below2 hbw hb1)
       ·have HE2:=hid (show fourV s.data.toList=none by rw [HE.out,if_neg (show ¬ n<2 ^ 24 by omega)])
        have hge:(16777216:Int)≤(n:Int):=by omega
        go_wp2_with fail
        go_ret2
        exact four2_none HE2.out (below2 hbw hb1)
      ·have hlt':(n:Int)<65536 ∨ ¬ (n:Int)<65536:=by omega
       rcases hlt' with hlt' | hlt'
       ·have HE2:=hid (show fourV s.data.toList=some (h*2 ^ 16+n) by rw [HE.out,if_pos (show n<2 ^ 16 by omega)])
        have HOr:=hid (or_last 16 A h n HA.out (by omega) (by have:=HH.out;omega));have hor:=HOr.out;have hlt2:h*2 ^ 16+n<4294967296:=by have:=HH.out;omega
        have hge:decide ((65536:Int)≤(n:Int))=false:=by simp;omega
        go_wp2_with fail
        go_ret2
        exact four2_some HE2.out (by simp) (below2 hbw hb1)
       ·have HE2:=hid (show fourV s.data.toList=none by rw [HE.out,if_neg (show ¬ n<2 ^ 16 by omega)])
        have hge:(65536:Int)≤(n:Int):=by omega
        go_wp2_with fail
        go_ret2
        exact four2_none HE2.out (below2 hbw hb1)
      ·have hlt':(n:Int)<256 ∨ ¬ (n:Int)<256:=by omega
       rcases hlt' with hlt' | hlt'
       ·have HE2:=hid (show fourV s.data.toList=some (h*2 ^ 8+n) by rw [HE.out,if_pos (show n<2 ^ 8 by omega)])
        have HOr:=hid (or_last 8 A h n HA.out (by omega) (by have:=HH.out;omega));have hor:=HOr.out;have hlt2:h*2 ^ 8+n<4294967296:=by have:=HH.out;omega
        have hge:decide ((256:Int)≤(n:Int))=false:=by simp;omega
        go_wp2_with fail
        go_ret2
        exact four2_some HE2.out (by simp) (below2 hbw hb1)
       ·have HE2:=hid (show fourV s.data.toList=none by rw [HE.out,if_neg (show ¬ n<2 ^ 8 by omega)])
        have hge:(256:Int)≤(n:Int):=by omega
        go_wp2_with fail
        go_ret2
        exact four2_none HE2.out (below2 hbw hb1)

end Go.Proofs.YtolioccofbhliaaGreatDoor

namespace Go.Proofs.YtolioccofbhliaaGreatDoor
open Go.RowKit

theorem infoI64:(Tryz.prog.info? 2).map (fun i=>(i.zero,i.size,i.bytes))=some (some (.int .i64 0),1,8):=by kernel_rfl

def cellsI (l:List Nat):List Value:=l.map fun (n:Nat)=>Value.int .i64 (n:Int)

theorem cellsI_app (a b:List Nat):cellsI (a++b)=cellsI a++cellsI b:=by simp [cellsI]

theorem i64_or_nat (a b:Nat) (ha:a<4611686018427387904) (hb:b<4611686018427387904):bits .or .i64 (a:Int) (b:Int)=((a ||| b:Nat):Int):=by
 have hx:a ||| b<2 ^ 62:=Nat.or_lt_two_pow (by omega) (by omega)
 show IntKind.i64.wrap ((BitVec.ofInt 64 (a:Int) ||| BitVec.ofInt 64 (b:Int)).toNat:Int)=_;rw [BitVec.toNat_or,ofInt_u64 a (by omega),ofInt_u64 b (by omega),IntKind.wrap_i64]
 omega

theorem or8i (a b:Nat) (ha:a≤255) (hb:b≤255):bits .or .i64 ((a:Int)*256) (b:Int)=(a:Int)*256+(b:Int):=by
 have e1:(a:Int)*256=((a*256:Nat):Int):=by omega
 rw [e1,i64_or_nat _ _ (by omega) (by omega),nat_join 8 _ _ (by omega) (by omega)]
 omega

theorem plainB_go (l:List UInt8):plainB l=if ((valC big 10 0 l).isSome && !l.isEmpty)=false∨255<(valC big 10 0 l).getD 0∨(1<l.length∧l.head? = some 48) then none else some ((valC big 10 0 l).getD 0):=by
 rw [← plainR_eq];unfold plainR
 cases valC big 10 0 l with
 | none=>simp
 | some m=>
   cases l with
   | nil=>simp
   | cons c r=>simp

theorem dotL_bad: ∀ (L:List (List UInt8)) (n:Nat) (x:List UInt8),x ∈ L→plainB x=none→dotL n L=none
 | [],n,x,hx,_=>by simp at hx
 | y::L,n,x,hx,h=>by
   rw [dotL]
   cases hy:plainB y with
   | none=>rfl
   | some b=>
     simp only;rcases List.mem_cons.1 hx with rfl | hx
     ·rw [h] at hy;cases hy
     ·exact dotL_bad L _ x hx h

theorem dotL_four (L:List (List UInt8)) (h4:L.length=4) (a b c d:Nat) (h0:plainB (L[0]'(by omega))=some a) (h1:plainB (L[1]'(by omega))=some b) (h2:plainB (L[2]'(by omega))=some c) (h3:plainB (L[3]'(by omega))=some d):dotL 0 L=some (((a*256+b)*256+c)*256+d):=by
 match L,h4 with
 | [w,x,y,z],_=>
   simp only [List.getElem_cons_zero,List.getElem_cons_succ] at h0 h1 h2 h3
   simp only [dotL,h0,h1,h2,h3,Nat.zero_mul,Nat.zero_add]

def DecPost (p:List UInt8) (w:World) (e:Ending) (w':World):Prop:=
 (dotL 0 (cutL 46 p)=none∧e = .returned (.tuple #[.slice none 0 0,.bool false])∧Below w.heap.size w w') ∨
 (∃ m g,dotL 0 (cutL 46 p)=some m∧e = .returned (.tuple #[.slice (some ⟨g,0,none⟩) 2 2,.bool true])∧w'.cell? ⟨g,0,none⟩=some (.int .u16 ((m / 65536:Nat):Int))∧w'.cell? ⟨g,1,none⟩=some (.int .u16 ((m % 65536:Nat):Int))∧Below w.heap.size w w')

set_option maxHeartbeats 4000000 in
set_option maxRecDepth 100000 in
theorem decimals_any (s:ByteArray) (w:World) (hs:s.size≤1000000) (h4:(cutL 46 s.data.toList).length=4):
 Calls Tryz.prog 274 #[.string s] w (DecPost s.data.toList w):=by
 obtain ⟨i0,hi,hz0,hz1,hz2⟩:=info_parts infoI64
 obtain ⟨L,hL⟩: ∃ L,cutL 46 s.data.toList=L:=⟨_,rfl⟩
 rw [hL] at h4;have HLs:=hid (show ∀ x ∈ L,x.length≤1000000 by
  intro x hx;rw [← hL] at hx;have:=cutL_le 46 _ x hx;simp at this
  omega)
 have HM:=hid h4;have HL:=hid hL;have hlab:=rcut_any s 46 w hs;rw [show ((46:UInt8).toNat:Int)=46 from rfl,hL] at hlab;clear hL
 go_enter Tryz.func274,Tryz.ntmps274
 go_wp2_with fail
 refine hlab.mono ?_;rintro e w1 ⟨b,cap,rfl,hlc,hcm,htx,hbw⟩
 clear hlab;have HT:=hid htx;clear htx;unfold maxLen at hcm;rw [h4] at hlc ⊢;clear h4
 go_wp2_with fail
 go_loopw [5,6] (fun v i wr=> ∃ (k:Nat) (ms:List Nat),k≤4∧i = .int .i64 k∧ms.length=k∧wr.ownsRow w1.heap.size 2 1 v ms.length (cellsI ms)∧Below w1.heap.size w1 wr ∧ ∀ j (h:j<L.length),j<k→plainB L[j]=some (ms.getD j 0))
  (fun _ i _=>4 - (intOf i).toNat)
 case atStart=>exact ⟨0,[],Nat.zero_le _,rfl,rfl,own_nil _ _ _,Below.refl _ _,fun j h hj=>absurd hj (by omega)⟩
 case round=>
  obtain ⟨k,ms,hk,rfl,hml,hown,hb1,hnum⟩:=hrel
  have HO:=hid hown;have HNm:=hid hnum;have hbs:=hb1.size;have hbs0:=hbw.size;clear hown hnum;by_cases hlt:k<4
  ·have hlt':(k:Int)<4:=by omega
   have hkL:k<L.length:=by rw [HM.out];exact hlt
   obtain ⟨X,hX⟩: ∃ X:ByteArray,X=⟨(L[k]'hkL).toArray⟩:=⟨_,rfl⟩
   have hcell:=HT.out.kept hb1 k hkL;rw [← hX] at hcell;have HXd:=hid (show X.data.toList=L[k]'hkL by rw [hX]);have hXs:X.size≤1000000:=by
    have:=HLs.out _ (List.getElem_mem hkL);rw [hX];show (L[k]'hkL).toArray.size≤_
    simp;omega
   have HB:=hid (show plainB X.data.toList=none→dotL 0 (cutL 46 s.data.toList)=none by
    intro h;rw [HL.out];exact dotL_bad L 0 _ (List.getElem_mem hkL) (by rw [← HXd.out];exact h))
   clear hX;have HPl:=hid (plainB_go X.data.toList);have hcall:=hid (fun W=>rint2_any X W (by omega));have hpost:=hid (fun W=>show IntPost X.data.toList W=fun e w'=>e = .returned (.tuple #[.int .i64 (((valC big 10 0 X.data.toList).getD 0:Nat):Int),.bool ((valC big 10 0 X.data.toList).isSome && !X.data.toList.isEmpty)])∧W=w' from rfl);generalize (valC big 10 0 X.data.toList).getD 0=n at *
   generalize ((valC big 10 0 X.data.toList).isSome && !X.data.toList.isEmpty)=ok at *
   cases ok with
   | false=>
     have HN:=hid (HB.out (by rw [HPl.out];simp));clear HPl
     go_wp2_with (go_at_call 115;refine (hcall.out _).mono ?_;rw [hpost.out];rintro e w' ⟨rfl,rfl⟩)
     go_ret2
     exact .inl ⟨HN.out,rfl,below2 hbw hb1⟩
   | true=>
     by_cases h255:255<n
     ·have HN:=hid (HB.out (by rw [HPl.out,if_pos (.inr (.inl h255))]))
      have h255':(255:Int)<(n:Int):=by omega
      clear HPl
      go_wp2_with (go_at_call 115;refine (hcall.out _).mono ?_;rw [hpost.out];rintro e w' ⟨rfl,rfl⟩)
      go_ret2
      exact .inl ⟨HN.out,rfl,below2 hbw hb1⟩
     ·have h255': ¬ (255:Int)<(n:Int):=by omega
      by_cases h48:1<X.size∧X.data.toList.head? = some 48
      ·have HN:=hid (HB.out (by rw [HPl.out,if_pos (.inr (.inr ⟨by simpa using h48.1,h48.2⟩))]))
       have h1':(1:Int)<(X.size:Int):=by omega
       have hsz:0<X.size:=by omega
       have hx0:X[0]=48:=by
        have h:=h48.2;rw [List.head?_eq_getElem?,List.getElem?_eq_getElem (by simpa using hsz)] at h
        exact Option.some.inj h
       have hx0':(X[0].toNat:Int)=48:=by rw [hx0];rfl
       clear HPl h48 hx0
       go_wp2_with (go_at_call 115;refine (hcall.out _).mono ?_;rw [hpost.out];rintro e w' ⟨rfl,rfl⟩)
       go_ret2
       exact .inl ⟨HN.out,rfl,below2 hbw hb1⟩
      ·have HP2:=hid (show plainB (L[k]'hkL)=some n by
        rw [← HXd.out,HPl.out,if_neg];rintro (h | h | ⟨h,h'⟩)
        ·cases h
        ·exact h255 h
        ·exact h48 ⟨by simpa using h,h'⟩)
       have hcase: ¬ (1<(X.size:Int))∨(1<(X.size:Int) ∧ ∃ h:0<X.size,((X[0].toNat:Int)==48)=false):=by
        by_cases h1:1<X.size
        ·right
         refine ⟨by omega,by omega,?_⟩
         rw [beq_eq_false_iff_ne];intro e;apply h48;refine ⟨h1,?_⟩
         rw [List.head?_eq_getElem?,List.getElem?_eq_getElem (by simp;omega)]
         have:X[0]=48:=UInt8.toNat_inj.1 (by show X[0].toNat=48;omega)
         exact congrArg some this
        ·exact .inl (by omega)
       clear HPl h48;have happ:=hid (fun (v':Value) (w2:World) (hown':w2.ownsRow w1.heap.size 2 1 v' (ms.length+1) (cellsI ms++[.int .i64 n])) (hB:Below w1.heap.size w1 w2)=>show ∃ (k':Nat) (ms':List Nat),k'≤4∧Value.int .i64 ((k:Int)+1) = .int .i64 k'∧ms'.length=k'∧w2.ownsRow w1.heap.size 2 1 v' ms'.length (cellsI ms')∧Below w1.heap.size w1 w2 ∧ ∀ j (h:j<L.length),j<k'→plainB L[j]=some (ms'.getD j 0) by
        refine ⟨k+1,ms++[n],by omega,by simp,by simp;omega,?_,hB,fun j hj hjk=> ?_⟩
        ·rw [cellsI_app,List.length_append];exact hown'
        ·by_cases hjk2:j=k
         ·subst hjk2
          rw [HP2.out];simp [hml]
         ·rw [HNm.out j hj (by omega)]
          rw [List.getD_eq_getElem?_getD,List.getD_eq_getElem?_getD,List.getElem?_append_left (by omega)])
       rcases hcase with h1 | ⟨h1,h0,hx0⟩
       all_goals
        go_wp2_with (first | (go_at_call 115;refine (hcall.out _).mono ?_;rw [hpost.out];rintro e w' ⟨rfl,rfl⟩) | (at_builtin;go_must (refine wpList_append_own _ rfl _ _ 299 rfl w1.heap.size 2 i0 (.int .i64 0) 1 8 Tryz.underlying299 hi hz0 hz1 hz2 rfl (by decide) _ _ _ rfl (HO.out.alloc _) ⟨wr.heap.size,0,none⟩ 1 1 [.int .i64 n] rfl rfl ?c1 ?c2 ?c3 ?c4 ?c5 ?_)))
        try
         case c1=>
          intro q u hq
          match q,hq with
          | 0,hq=>simp at hq;subst hq;simp [Addr.add]
        case c2=>first | rfl | (intro u hu;simp at hu;subst hu;rfl)
        case c3=>unfold maxLen;omega
        case c4=>omega
        case c5=>first | omega | (simp;omega)
        intro v' w2 hown' hgrow hnil;have HO2:=hid hown';have HB2:=hid (show Below w1.heap.size w1 w2 from (hb1.alloc hb1.size _).grown hgrow (by simp;omega) (fun g hg=>(HO.out.lt g hg).1));clear hown' hgrow hnil
        go_wp2
        go_roundw
        case rel=>exact happ.out _ _ (by rw [hml];exact HO2.out) HB2.out
        case measure=>simp [intOf];omega
  ·have hke:k=4:=by omega
   subst hke;obtain ⟨g,cap',hg⟩: ∃ g cap',u5 = .slice (some ⟨g,0,none⟩) 4 cap':=by
    rcases HO.out.2 with ⟨_,hn⟩ | ⟨g,cap',cur,hv,_⟩
    ·omega
    ·exact ⟨g,cap',by rw [hv,hml]⟩
   subst hg;have hcells: ∀ j,j<4→wr.cell? ⟨g,j,none⟩=some (.int .i64 ((ms.getD j 0:Nat):Int)):=by
    intro j hj;have h1:=HO.out;rw [hml] at h1;rw [h1.cellAt j (by omega),cellsI,List.getElem?_map,List.getElem?_eq_getElem (by omega),List.getD_eq_getElem?_getD,List.getElem?_eq_getElem (by omega)];rfl
   have HP0:=hid (HNm.out 0 (by rw [HM.out];omega) (by omega));have HP1:=hid (HNm.out 1 (by rw [HM.out];omega) (by omega));have HP2:=hid (HNm.out 2 (by rw [HM.out];omega) (by omega));have HP3:=hid (HNm.out 3 (by rw [HM.out];omega) (by omega));have hc0:=hcells 0 (by omega)
   have hc1:=hcells 1 (by omega)
   have hc2:=hcells 2 (by omega)
   have hc3:=hcells 3 (by omega)
   clear hcells;generalize ms.getD 0 0=n0 at *
   generalize ms.getD 1 0=n1 at *
   generalize ms.getD 2 0=n2 at *
   generalize ms.getD 3 0=n3 at *
   have l0:=plainB_le HP0.out;have l1:=plainB_le HP1.out;have l2:=plainB_le HP2.out;have l3:=plainB_le HP3.out;have HD:=hid (dotL_four L HM.out n0 n1 n2 n3 HP0.out HP1.out HP2.out HP3.out);have ho1:=or8i n0 n1 l0 l1;have ho2:=or8i n2 n3 l2 l3
   go_wp2_with fail
   go_region
   go_wp2_with fail
   go_ret2
   refine .inr ⟨_,wr.heap.size,by rw [HL.out];exact HD.out,rfl,?_,?_,below2 hbw ((hb1.alloc hb1.size _).drew)⟩
   ·have e:((((n0*256+n1)*256+n2)*256+n3) / 65536:Nat)=n0*256+n1:=by omega
    rw [e];simp
   ·have e:((((n0*256+n1)*256+n2)*256+n3) % 65536:Nat)=n2*256+n3:=by omega
    rw [e];simp

end Go.Proofs.YtolioccofbhliaaGreatDoor
