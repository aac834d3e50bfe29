/- Walks and plain facts. -/
import Derived.Test.YtijpkalkfbejeaaGreatDoorQm12
set_option linter.unusedSimpArgs false
set_option linter.unusedVariables false
set_option maxHeartbeats 16000000
set_option maxRecDepth 100000

namespace Go.Proofs.YtijpkalkfbejeaaGreatDoor
open Go.RowKit
theorem get_bang (s:ByteArray) (i:Nat) (h:i<s.size):s.get! i=s[i]:=by
 show s.data[i]! = s.data[i];exact getElem!_pos s.data i h
theorem decode_skip (s:ByteArray) (i:Nat) (h:i<s.size) (ha:128<=(s[i]'h).toNat): ∃ r n,Utf8.decode s i=(r,n)/\128<=r/\r<=1114111/\1<=n/\i+n<=s.size /\ ∀ j,i<=j->j<i+n->128<=(s.get! j).toNat:=by
 have h0:128<=(s.get! i).toNat:=by rw [get_bang s i h];exact ha
 rw [Lib.decode_at];unfold Lib.decodeN;rw [if_neg (by omega)];have one: ∀ j,i<=j->j<i+1->128<=(s.get! j).toNat:=fun j h1 h2=>by
  have:j=i:=by omega
  rw [this];exact h0
 split
 ·split
  ·refine ⟨_,_,rfl,by omega,by omega,by omega,by omega,fun j h1 h2=> ?_⟩
   have:j=i∨j=i+1:=by omega
   rcases this with rfl | rfl
   ·exact h0
   ·omega
  ·exact ⟨_,_,rfl,by omega,by omega,by omega,by omega,one⟩
 ·split
  ·split
   ·refine ⟨_,_,rfl,by omega,by omega,by omega,by omega,fun j h1 h2=> ?_⟩
    have:j=i∨j=i+1∨j=i+2:=by omega
    rcases this with rfl | rfl | rfl
    ·exact h0
    ·omega
    ·omega
   ·exact ⟨_,_,rfl,by omega,by omega,by omega,by omega,one⟩
  ·split
   ·split
    ·refine ⟨_,_,rfl,by omega,by omega,by omega,by omega,fun j h1 h2=> ?_⟩
     have:j=i∨j=i+1∨j=i+2∨j=i+3:=by omega
     rcases this with rfl | rfl | rfl | rfl
     ·exact h0
     ·omega
     ·omega
     ·omega
    ·exact ⟨_,_,rfl,by omega,by omega,by omega,by omega,one⟩
   ·exact ⟨_,_,rfl,by omega,by omega,by omega,by omega,one⟩
theorem noAny_skip (s:ByteArray) (i n:Nat) (h:Lib.NoAny s.data.toList [47,63] i) (hn:i+n<=s.size) (hj: ∀ j,i<=j->j<i+n->128<=(s.get! j).toNat):Lib.NoAny s.data.toList [47,63] (i+n):=by
 intro j b hjn hb;by_cases h1:j<i
 ·exact h j b h1 hb
 ·have h2:=hj j (by omega) hjn
  have hjs:j<s.size:=by omega
  rw [get_bang s j hjs] at h2;rw [Lib.data_getElem? s j hjs] at hb
  cases hb
  simp;constructor<;>(intro e;rw [e] at h2;revert h2;decide)
theorem below_iter (w:World) (s:ByteArray) (i:Nat):Below w.heap.size w (w.iter s i):=(Below.refl _ w).alloc (Nat.le_refl _) _
theorem indexRune_high (r:Int) (w:World) (hr1:128<=r) (h2:r<=1114111):
 Calls Tryz.prog 83 #[.string ⟨#[47,63]⟩,.int .i32 r] w fun e w'=>e = .returned (.int .i64 (-1))/\Below w.heap.size w w':=by
 have hr0:(0:Int)<=r:=by omega
 by_cases he:r=65533
 ·subst he
  go_enter Tryz.func83,Tryz.ntmps83
  go_wp2
  go_loopg [5,6] 2 (fun g _ _ wx=> ∃ i:Nat,i+g=2/\wx=w.iter ⟨#[47,63]⟩ i)
  case atStart=>exact ⟨0,by omega,rfl⟩
  case round=>
   obtain ⟨i,hig,rfl⟩:=hrel
   match gk,hig with
   | 0,hig=>
     obtain rfl:i=2:=by omega
     have hnx:=run_next_end (P:=Tryz.prog) w ⟨#[47,63]⟩ 2
     go_wp2
     go_ret
     exact ⟨rfl,below_iter w _ _⟩
   | 1,hig=>
     obtain rfl:i=1:=by omega
     have hnx:=fun ty=>run_next_ascii (P:=Tryz.prog) w ⟨#[47,63]⟩ 1 ty (by decide) (by decide)
     go_wp2
     go_roundg 0
     case measure=>omega
     case rel=>exact ⟨2,by omega,rfl⟩
   | 2,hig=>
     obtain rfl:i=0:=by omega
     have hnx:=fun ty=>run_next_ascii (P:=Tryz.prog) w ⟨#[47,63]⟩ 0 ty (by decide) (by decide)
     go_wp2
     go_roundg 1
     case measure=>omega
     case rel=>exact ⟨1,by omega,rfl⟩
   | g+3,hig=>omega
 ·have he':(r==65533)=false:=by rw [beq_eq_false_iff_ne];exact he
  have hcv: ∀ w:World,Calls Tryz.prog 106 #[.int .i32 r] w fun e w'=>e = .returned (.bool (Lib.validRune r))/\w'=w:=fun w=>Tryz.utf8_ValidRune _ w
  have hvv:Lib.validRune r=true∨Lib.validRune r=false:=by cases Lib.validRune r<;>simp
  rcases hvv with hv | hv
  rotate_left
  ·rw [hv] at hcv
   clear hv h2 he
   go_enter Tryz.func83,Tryz.ntmps83
   go_wp2_with (go_at_call 106;refine (hcv _).mono ?_;rintro e w' ⟨rfl,rfl⟩)
   go_ret
   exact ⟨rfl,Below.refl _ _⟩
  ·obtain ⟨X,hX⟩: ∃ X,Utf8.encode r=X:=⟨_,rfl⟩
   have hvu:Utf8.valid r=true:=by
    have:=of_decide_eq_true hv;simp only [Utf8.valid,Bool.or_eq_true,Bool.and_eq_true,decide_eq_true_eq]
    omega
   have hf:=encode_facts r hvu (by omega)
   rw [hX] at hf;obtain ⟨f1,f2,f3⟩:=hf
   have HF:=hid f3;rw [hv] at hcv;clear f3 hv hvu h2 he;by_cases hx:X.size=2
   ·obtain ⟨a,b,rfl⟩: ∃ a b:UInt8,X=⟨#[a,b]⟩:=by
     obtain ⟨⟨L⟩⟩:=X
     match L,hx with
     | [a,b],_=>exact ⟨a,b,rfl⟩
    have hb:128<=b.toNat:=HF.out (show 1<2 by decide);have hb8:b.toNat<256:=b.toNat_lt;have hb1:((((⟨#[47,63]⟩:ByteArray)[1]'(show 1<2 by decide)).toNat:Int) != (((⟨#[a,b]⟩:ByteArray)[1]'(show 1<2 by decide)).toNat:Int))=true:=by
     show (((63:UInt8).toNat:Int) != (b.toNat:Int))=true;have:(63:UInt8).toNat=63:=rfl;simp only [bne_iff_ne,ne_eq]
     omega
    clear hx f1 f2 HF
    go_enter Tryz.func83,Tryz.ntmps83
    go_wp2_with (go_at_call 106;refine (hcv _).mono ?_;rintro e w' ⟨rfl,rfl⟩)
    go_step3
    go_wp2
    go_loop [9] (fun i=>i = .int .i64 1) (fun _=>0)
    case atStart=>rfl
    case round=>
     subst hrel
     go_wp2
     go_step3
     go_wp2
     go_region
     go_wp2
     go_region_with (go_at_call 105;refine (Tryz.strings_IndexByte _ _ _).mono ?_;rintro e w'' ⟨rfl,rfl⟩)
     all_goals
      go_wp2
      rw [Exit.noGoto_ret]
      go_wp2
      rw [Exit.noGoto_ret]
      go_wp2
      go_ret
      exact ⟨rfl,(Below.refl _ _).drew.drew⟩
   ·have f1':(3:Int)<=(X.size:Int):=by omega
    have f2':(X.size:Int)<=4:=by omega
    go_enter Tryz.func83,Tryz.ntmps83
    go_wp2_with (go_at_call 106;refine (hcv _).mono ?_;rintro e w' ⟨rfl,rfl⟩)
    go_step3
    go_wp2
    go_loop [9] (fun i=>i = .int .i64 ((X.size:Int) - 1)) (fun _=>0)
    case atStart=>rfl
    case round=>
     subst hrel
     go_wp2
     go_ret
     exact ⟨rfl,Below.refl _ _⟩
theorem indexAny2_short (s:ByteArray) (w:World) (h8:s.size<=8):
 Calls Tryz.prog 167 #[.string s,.string ⟨#[47,63]⟩] w fun e w'=>e = .returned (.int .i64 (Lib.indexAny s.data.toList [47,63]))/\Below w.heap.size w w':=by
 have h8z:decide ((8:Int)<(s.size:Int))=false:=decide_eq_false (by omega)
 go_enter Tryz.func167,Tryz.ntmps167
 go_wp2_with (go_at_call 199;refine (Tryz.strings_shouldUseASCIISet _ _).mono ?_;rintro e w' ⟨rfl,hw⟩;rw [hw,h8z])
 go_loopg [9,10] s.size (fun g _ _ wx=> ∃ i:Nat,i+g=s.size/\wx.heap[w.heap.size]? = some (.stringIter s i)/\Below w.heap.size w wx/\Lib.NoAny s.data.toList [47,63] i)
 case atStart=>exact ⟨0,by omega,by simp [World.iter_heap],below_iter w _ _,Lib.NoAny.zero _ _⟩
 case round=>
  obtain ⟨i,hig,hit,hbw,hno⟩:=hrel
  have HN:=hid hno;have HI:=hid hit;clear hno hit;by_cases hi:i<s.size
  ·obtain ⟨x,hx⟩: ∃ x:UInt8,s[i]'hi=x:=⟨_,rfl⟩
   have hxl:s.data.toList[i]? = some x:=by rw [<- hx];exact Lib.data_getElem? s i hi
   by_cases ha:x.toNat<128
   ·have hnx:=fun ty=>Lib.run_next_ascii_at (P:=Tryz.prog) wr w.heap.size s i ty HI.out hi (by rw [hx];exact ha)
    rw [hx] at hnx;have HK:=hid (Lib.iterAt_heap wr w.heap.size s i (i+1) HI.out);have HB2:=hid (Lib.below_iterAt hbw (Nat.le_refl _) s (i+1));have Hx:=hid hxl;clear hxl hx;have hcon:=Lib.contains_iff_indexByte [47,63] x
    have hback:((x.toNat:Int)).toNat.toUInt8=x:=by simp
    cases hin:[(47:UInt8),63].contains x
    ·rw [hin] at hcon
     have hlt: ¬ ((0:Int)<=Lib.indexByte [47,63] x):=of_decide_eq_false hcon.symm;have Hin:=hid hin;clear hcon hin
     go_wp2_with (go_at_call 83;refine (Tryz.strings_IndexRune_ascii _ _ _ (by omega) (by omega)).mono ?_;rintro e w' ⟨rfl,hw⟩;rw [hw,hback])
     go_roundg (gk - 1)
     case measure=>omega
     case rel=>exact ⟨i+1,by omega,HK.out,HB2.out,HN.out.succ Hx.out Hin.out⟩
    ·rw [hin] at hcon
     have hge:(0:Int)<=Lib.indexByte [47,63] x:=of_decide_eq_true hcon.symm
     have Hin:=hid hin;clear hcon hin
     go_wp2_with (go_at_call 83;refine (Tryz.strings_IndexRune_ascii _ _ _ (by omega) (by omega)).mono ?_;rintro e w' ⟨rfl,hw⟩;rw [hw,hback])
     go_ret
     exact ⟨by rw [Lib.indexAny_hit HN.out Hx.out Hin.out];rfl,HB2.out⟩
   ·obtain ⟨r,n,hd,hr1,hr2,hn1,hn2,hj⟩:=decode_skip s i hi (by rw [hx];omega)
    have hnx:=fun ty=>Lib.run_next_any_at (P:=Tryz.prog) wr w.heap.size s i ty HI.out hi
    rw [hd] at hnx;have HK:=hid (Lib.iterAt_heap wr w.heap.size s i (i+n) HI.out);have HB2:=hid (Lib.below_iterAt hbw (Nat.le_refl _) s (i+n));have HN2:=hid (noAny_skip s i n HN.out hn2 hj);clear hxl hx hj hd;have hr1':(128:Int)<=(r:Int):=by omega
    have HRx:=hid (show (r:Int)<=1114111 by omega);clear hr2
    go_wp2_with (go_at_call 83;refine (indexRune_high _ _ hr1' HRx.out).mono ?_;rintro e w2 ⟨rfl,hb2⟩)
    go_roundg (gk - n)
    case measure=>omega
    case rel=>
     refine ⟨i+n,by omega,?_,HB2.out.trans (hb2.mono ?_),HN2.out⟩
     ·rw [hb2.block _ (Array.getElem?_eq_some_iff.1 HK.out).1];exact HK.out
     ·exact HB2.out.size
  ·obtain rfl:i=s.size:=by omega
   have hnx:=fun ty=>Lib.run_next_end_at (P:=Tryz.prog) wr w.heap.size s s.size ty HI.out hi
   go_wp2
   go_ret
   exact ⟨by rw [Lib.indexAny_none (by rw [<- Lib.size_eq];exact HN.out)];rfl,hbw⟩
theorem zero87 (w:World):(zeroValue 207).run Tryz.prog w = .ok (.agg (Array.replicate 256 (.bool false))) w:=(zero_of_info (P:=Tryz.prog) (n:=256) (by kernel_rfl)).1 w
theorem indexAny2_any (s:ByteArray) (w:World) (hs:s.size<=4000000000):
 Calls Tryz.prog 167 #[.string s,.string ⟨#[47,63]⟩] w fun e w'=>e = .returned (.int .i64 (Lib.indexAny s.data.toList [47,63]))/\Below w.heap.size w w':=by
 by_cases h:s.size<=8
 ·exact indexAny2_short s w h
 ·refine (Tryz.strings_IndexAny_long zero87 s ⟨#[47,63]⟩ w (by decide) (by omega) (by omega) (by decide) ?_).mono ?_
  ·intro j b hb
   match j,hb with
   | 0,hb=>simp at hb;subst hb;decide
   | 1,hb=>simp at hb;subst hb;decide
   | j+2,hb=>simp at hb
  ·rintro e w' ⟨rfl,rfl⟩
   refine ⟨rfl,((Below.refl _ w).alloc (Nat.le_refl _) _).alloc ?_ _⟩
   simp
theorem indexAny1_any (s:ByteArray) (w:World):
 Calls Tryz.prog 167 #[.string s,.string ⟨#[63]⟩] w fun e w'=>e = .returned (.int .i64 (Lib.indexAny s.data.toList [63]))/\Below w.heap.size w w':=by
 refine (Tryz.strings_IndexAny_one s ⟨#[63]⟩ w (by decide) ?_).mono ?_
 ·intro j b hb
  match j,hb with
  | 0,hb=>simp at hb;subst hb;decide
  | j+1,hb=>simp at hb
 ·rintro e w' ⟨rfl,rfl⟩
  exact ⟨rfl,Below.refl _ _⟩
theorem ret_ss {a b c d:ByteArray} (h:a=b) (g:c=d):Ending.returned (.tuple #[.string a,.string c]) = .returned (.tuple #[.string b,.string d]):=by rw [h,g]
theorem cutAhead_gen (s ends:ByteArray) (w:World) (hs:s.size<=4000000000)
 (hI:Calls Tryz.prog 167 #[.string s,.string ends] w fun e w'=>e = .returned (.int .i64 (Lib.indexAny s.data.toList ends.data.toList))/\Below w.heap.size w w'):
 Calls Tryz.prog 152 #[.string s,.string ends] w fun e w'=>e = .returned (.tuple #[.string ⟨(aheadV ends.data.toList s.data.toList).1.toArray⟩,.string ⟨(aheadV ends.data.toList s.data.toList).2.toArray⟩])/\Below w.heap.size w w':=by
 have HI:=hid hI;clear hI;rcases ahead_index ends.data.toList s.data.toList with ⟨h1,h2⟩ | ⟨i,hi,h1,h2⟩
 ·have H2:=hid h2
  clear h2;have e0:s.extract 0 s.size=⟨s.data.toList.toArray⟩:=ba_ext (by rw [extract_drop];simp)
  have e1:s.extract s.size s.size=⟨#[]⟩:=ba_ext (by rw [extract_drop];simp)
  have HE0:=hid e0;have HE1:=hid e1;clear e0 e1;have hsz:(0:Int)<=(s.size:Int):=by omega
  go_enter Tryz.func152,Tryz.ntmps152
  go_wp2_with (go_at_call 167;refine HI.out.mono ?_;rintro e w1 ⟨rfl,hb1⟩;rw [h1])
  go_region
  all_goals
   go_wp2
   go_ret2
   refine ⟨?_,by first | exact hb1 | exact hb1.trans ((Below.refl _ w1).drew.mono hb1.size) | exact hb1.drew⟩
   rw [H2.out];refine ret_ss ?_ ?_
   ·first | exact HE0.out | (rw [<- HE0.out];simp) | simp
   ·first | exact HE1.out | (rw [<- HE1.out];simp) | simp
 ·have H2:=hid h2
  clear h2;have hi':(i:Int)<(s.size:Int):=by simp at hi;omega
  go_enter Tryz.func152,Tryz.ntmps152
  go_wp2_with (go_at_call 167;refine HI.out.mono ?_;rintro e w1 ⟨rfl,hb1⟩;rw [h1])
  go_region
  all_goals
   go_wp2
   go_ret2
   refine ⟨?_,by first | exact hb1 | exact hb1.drew⟩
   rw [H2.out];refine ret_ss ?_ ?_
   ·exact ba_ext (by rw [Lib.extract_data];simp)
   ·exact ba_ext (by rw [extract_drop])
theorem cutAhead1_any (s:ByteArray) (w:World) (hs:s.size<=4000000000):
 Calls Tryz.prog 152 #[.string s,.string ⟨#[63]⟩] w fun e w'=>e = .returned (.tuple #[.string ⟨(aheadV [63] s.data.toList).1.toArray⟩,.string ⟨(aheadV [63] s.data.toList).2.toArray⟩])/\Below w.heap.size w w':=
 cutAhead_gen s ⟨#[63]⟩ w hs (indexAny1_any s w)
theorem cutAhead2_any (s:ByteArray) (w:World) (hs:s.size<=4000000000):
 Calls Tryz.prog 152 #[.string s,.string ⟨#[47,63]⟩] w fun e w'=>e = .returned (.tuple #[.string ⟨(aheadV [47,63] s.data.toList).1.toArray⟩,.string ⟨(aheadV [47,63] s.data.toList).2.toArray⟩])/\Below w.heap.size w w':=
 cutAhead_gen s ⟨#[47,63]⟩ w hs (indexAny2_any s w hs)
theorem ret_str' {a b:ByteArray} (h:a=b):Ending.returned (.string a) = .returned (.string b):=by rw [h]
theorem slash_len (l:List UInt8):(slashV l).length=l.length:=by
 have:=congrArg List.length (ahead_app [63] l);rw [List.length_append] at this;rw [slashV,List.length_append,List.length_map,this]
theorem slashed_len (sc l:List UInt8):(slashedV sc l).length=l.length:=by
 unfold slashedV;split
 ·exact slash_len l
 ·rfl
theorem countB_le (s:ByteArray):Lib.countB s ⟨#[92]⟩<=s.size:=by
 show Lib.count s.data.toList [92]<=s.size;unfold Lib.count;rw [count_one 92 _ _ (by omega),Lib.size_eq];exact List.count_le_length
theorem slashed_any (s sc:ByteArray) (w:World) (hg:Gd w) (hs:s.size<=4000000000):
 Calls Tryz.prog 150 #[.string s,.string sc] w fun e w'=>e = .returned (.string ⟨(slashedV sc.data.toList s.data.toList).toArray⟩)/\Below w.heap.size w w':=by
 have HG:=hid hg;clear hg;by_cases hsp:specV sc.data.toList=true
 ·have HN:=hid (show slashedV sc.data.toList s.data.toList=(aheadV [63] s.data.toList).1.map slC++(aheadV [63] s.data.toList).2 by rw [slashedV,if_pos hsp];rfl)
  have hl:=ahead_le [63] s.data.toList;obtain ⟨A,hA⟩: ∃ A:ByteArray,A=⟨(aheadV [63] s.data.toList).1.toArray⟩:=⟨_,rfl⟩
  obtain ⟨R,hR⟩: ∃ R:ByteArray,R=⟨(aheadV [63] s.data.toList).2.toArray⟩:=⟨_,rfl⟩
  have hAl:A.data.toList=(aheadV [63] s.data.toList).1:=by rw [hA]
  have hRl:R.data.toList=(aheadV [63] s.data.toList).2:=by rw [hR]
  have hAs:A.size<=4000000000:=by rw [hA];exact size_le hl.1 hs
  have hRs:R.size<=4000000000:=by rw [hR];exact size_le hl.2 hs
  have HA:=hid hA;have HR:=hid hR;have HAl:=hid hAl;have HRl:=hid hRl;clear hA hR hl hAl hRl
  go_enter Tryz.func150,Tryz.ntmps150
  go_wp2_with fail
  refine (special_any _ _).mono ?_;rintro e w' ⟨rfl,rfl⟩
  rw [hsp]
  go_wp2_with fail
  refine (cutAhead1_any _ _ hs).mono ?_;rintro e w1 ⟨rfl,hb1⟩
  rw [<- HA.out,<- HR.out]
  go_wp2_with fail
  obtain ⟨⟨m,hm⟩,_,_⟩:=HG.out.kept hb1
  refine (Tryz.strings_ReplaceAll _ _ _ m _ (by omega) hm (by decide) ?_).mono ?_
  ·have:=countB_le A
   have e1:(⟨#[47]⟩:ByteArray).size=1:=rfl;rw [e1];omega
  rintro e w2 ⟨rfl,hb2⟩
  rw [show (⟨#[92]⟩:ByteArray).data.toList=[92] from rfl,show (⟨#[47]⟩:ByteArray).data.toList=[47] from rfl,repl_all]
  go_wp2
  go_ret
  refine ⟨?_,below2 hb1 hb2⟩
  rw [HN.out,<- HAl.out,<- HRl.out]
  show Ending.returned (.string (⟨(A.data.toList.map slC).toArray⟩++R))=_;refine ret_str' ?_;exact (congrArg (fun x=>(⟨(A.data.toList.map slC).toArray⟩:ByteArray)++x) (ba_ext rfl:R=⟨R.data.toList.toArray⟩)).trans (ba_app _ _)
 ·have hsp':specV sc.data.toList=false:=by simpa using hsp
  have HN:=hid (show slashedV sc.data.toList s.data.toList=s.data.toList by rw [slashedV,hsp'];rfl);clear hsp
  go_enter Tryz.func150,Tryz.ntmps150
  go_wp2_with (go_at_call 69;refine (special_any _ _).mono ?_;rintro e w' ⟨rfl,rfl⟩;rw [hsp'])
  go_ret
  rw [HN.out];exact ⟨by rw [Lib.mk_data];rfl,Below.refl _ _⟩
theorem readQuery_any (s:ByteArray) (special:Bool) (w:World) (hs:s.size<=4000000000):
 Calls Tryz.prog 156 #[.string s,.bool special] w fun e w'=>e = .returned (.string ⟨(querV special s.data.toList).toArray⟩)/\Below w.heap.size w w':=by
 cases special with
 | true=>
   have HN:=hid (show querV true s.data.toList=pct 4 s.data.toList from rfl)
   go_enter Tryz.func156,Tryz.ntmps156
   go_wp2_with (go_at_call 153;refine (percent_any _ _ _ (by omega)).mono ?_;rintro e w1 ⟨rfl,hb1⟩)
   go_ret
   rw [HN.out];exact ⟨rfl,hb1⟩
 | false=>
   have HN:=hid (show querV false s.data.toList=pct 3 s.data.toList from rfl)
   go_enter Tryz.func156,Tryz.ntmps156
   go_wp2_with (go_at_call 153;refine (percent_any _ _ _ (by omega)).mono ?_;rintro e w1 ⟨rfl,hb1⟩)
   go_ret
   rw [HN.out];exact ⟨rfl,hb1⟩
theorem dots_any (s:ByteArray) (w:World) (hs:s.size<=4000000000):
 Calls Tryz.prog 192 #[.string s] w fun e w'=>e = .returned (.int .i64 (dotsV s.data.toList:Nat))/\Below w.heap.size w w':=by
 obtain ⟨U,hU⟩: ∃ U:ByteArray,U=⟨(unpct s.data.toList).toArray⟩:=⟨_,rfl⟩
 have hUl:U.data.toList=unpct s.data.toList:=by rw [hU]
 have HU:=hid hU;clear hU;by_cases h1:unpct s.data.toList=[46]
 ·have HN:=hid (show dotsV s.data.toList=1 by rw [dotsV,if_pos h1])
  have e1:=beq_yes U [46] (hUl.trans h1);clear h1 hUl
  go_enter Tryz.func192,Tryz.ntmps192
  go_wp2_with (go_at_call 169;refine (unpercent_any _ _ (by omega)).mono ?_;rintro e w1 ⟨rfl,hb1⟩;rw [<- HU.out])
  go_ret
  rw [HN.out];exact ⟨rfl,hb1⟩
 ·have e1:=beq_no U [46] (fun h=>h1 (hUl.symm.trans h))
  by_cases h2:unpct s.data.toList=[46,46]
  ·have HN:=hid (show dotsV s.data.toList=2 by rw [dotsV,if_neg h1,if_pos h2])
   have e2:=beq_yes U [46,46] (hUl.trans h2)
   clear h1 h2 hUl
   go_enter Tryz.func192,Tryz.ntmps192
   go_wp2_with (go_at_call 169;refine (unpercent_any _ _ (by omega)).mono ?_;rintro e w1 ⟨rfl,hb1⟩;rw [<- HU.out])
   go_ret
   rw [HN.out];exact ⟨rfl,hb1⟩
  ·have e2:=beq_no U [46,46] (fun h=>h2 (hUl.symm.trans h))
   have HN:=hid (show dotsV s.data.toList=0 by rw [dotsV,if_neg h1,if_neg h2]);clear h1 h2 hUl
   go_enter Tryz.func192,Tryz.ntmps192
   go_wp2_with (go_at_call 169;refine (unpercent_any _ _ (by omega)).mono ?_;rintro e w1 ⟨rfl,hb1⟩;rw [<- HU.out])
   go_ret
   rw [HN.out];exact ⟨rfl,hb1⟩
theorem intV_range (l:List UInt8):0<=intV l/\intV l<=9223372036854775807:=by
 unfold intV;split
 ·rename_i h
  simp only [Bool.and_eq_true] at h;exact numI_range l h.1
 ·omega
theorem portV_bad {own:Int} {t:List UInt8} (h0:t≠[]) (h:intOk t=false):portV own t=none:=by rw [portV,if_neg h0,h];rfl
theorem portV_big {own:Int} {t:List UInt8} (h0:t≠[]) (h:65535<intV t):portV own t=none:=by
 rw [portV,if_neg h0,if_neg]
 simp;intro _;omega
theorem portV_own {own:Int} {t:List UInt8} (h0:t≠[]) (h:intOk t=true) (h1:intV t<=65535) (h2:intV t=own):portV own t=some (-1):=by
 rw [portV,if_neg h0,h,if_pos (by simp [h1]),if_pos h2]
theorem portV_num {own:Int} {t:List UInt8} (h0:t≠[]) (h:intOk t=true) (h1:intV t<=65535) (h2:intV t≠own):portV own t=some (intV t):=by
 rw [portV,if_neg h0,h,if_pos (by simp [h1]),if_neg h2]
theorem readPort_any (s:ByteArray) (own:Int) (w:World) (hs:s.size<=4000000000):
 Calls Tryz.prog 190 #[.string s,.int .i64 own] w fun e w'=>e = .returned (.tuple #[.int .i64 ((portV own s.data.toList).getD 0),.bool (portV own s.data.toList).isSome])/\w=w':=by
 by_cases h0:s.data.toList=[]
 ·have HN:=hid (show portV own s.data.toList=some (-1) by rw [portV,if_pos h0])
  have he:=empty_yes s h0;clear h0
  go_enter Tryz.func190,Tryz.ntmps190
  go_wp2
  go_ret2
  rw [HN.out];exact ⟨rfl,rfl⟩
 ·have he:=empty_no s h0
  have hr:=intV_range s.data.toList;by_cases h1:intOk s.data.toList=true
  ·by_cases h2:65535<intV s.data.toList
   ·have HN:=hid (portV_big (own:=own) h0 h2)
    clear h0
    go_enter Tryz.func190,Tryz.ntmps190
    go_wp2_with (go_at_call 168;refine (int_any _ _ (by omega)).mono ?_;rintro e w' ⟨rfl,rfl⟩;rw [h1])
    go_ret2
    rw [HN.out];exact ⟨rfl,rfl⟩
   ·have h2':intV s.data.toList<=65535:=by omega
    by_cases h3:intV s.data.toList=own
    ·have HN:=hid (portV_own h0 h1 h2' h3)
     clear h0 h2
     go_enter Tryz.func190,Tryz.ntmps190
     go_wp2_with (go_at_call 168;refine (int_any _ _ (by omega)).mono ?_;rintro e w' ⟨rfl,rfl⟩;rw [h1])
     go_ret2
     rw [HN.out];exact ⟨rfl,rfl⟩
    ·have HN:=hid (portV_num h0 h1 h2' h3)
     have h3':(intV s.data.toList==own)=false:=by rw [beq_eq_false_iff_ne];exact h3
     clear h0 h2 h3
     go_enter Tryz.func190,Tryz.ntmps190
     go_wp2_with (go_at_call 168;refine (int_any _ _ (by omega)).mono ?_;rintro e w' ⟨rfl,rfl⟩;rw [h1])
     go_ret2
     rw [HN.out];exact ⟨rfl,rfl⟩
  ·have h1':intOk s.data.toList=false:=by simpa using h1
   have HN:=hid (portV_bad (own:=own) h0 h1');clear h0 h1
   go_enter Tryz.func190,Tryz.ntmps190
   go_wp2_with (go_at_call 168;refine (int_any _ _ (by omega)).mono ?_;rintro e w' ⟨rfl,rfl⟩;rw [h1'])
   go_ret2
   rw [HN.out];exact ⟨rfl,rfl⟩
def cutS (l:List UInt8):List UInt8×List UInt8:=(schemeV l).getD ([],l)
theorem cutS_none {l:List UInt8} (h:((part 58 l).2.2&&schOk (part 58 l).1)=false):cutS l=([],l):=by rw [cutS,schemeV,h];rfl
theorem cutS_some {l:List UInt8} (h:((part 58 l).2.2&&schOk (part 58 l).1)=true):cutS l=(low (part 58 l).1,(part 58 l).2.1):=by rw [cutS,schemeV,if_pos h];rfl
theorem sch_yes {c:UInt8} (h:schC c=true):letterI c.toNat=true∨(letterI c.toNat=false/\(48:Int)<=c.toNat/\(c.toNat:Int)<=57)∨(letterI c.toNat=false/\(c.toNat:Int)<48/\(((c.toNat:Int) != 43)=false∨(((c.toNat:Int) != 43)=true/\((c.toNat:Int) != 45)=false)∨(((c.toNat:Int) != 43)=true/\((c.toNat:Int) != 45)=true/\((c.toNat:Int) != 46)=false))):=by
 have key: ∀ n<256,schC (UInt8.ofNat n)=true->letterI (UInt8.ofNat n).toNat=true∨(letterI (UInt8.ofNat n).toNat=false/\(48:Int)<=(UInt8.ofNat n).toNat/\((UInt8.ofNat n).toNat:Int)<=57)∨(letterI (UInt8.ofNat n).toNat=false/\((UInt8.ofNat n).toNat:Int)<48/\((((UInt8.ofNat n).toNat:Int) != 43)=false∨((((UInt8.ofNat n).toNat:Int) != 43)=true/\(((UInt8.ofNat n).toNat:Int) != 45)=false)∨((((UInt8.ofNat n).toNat:Int) != 43)=true/\(((UInt8.ofNat n).toNat:Int) != 45)=true/\(((UInt8.ofNat n).toNat:Int) != 46)=false))):=by decide +kernel
 have:=key c.toNat c.toNat_lt;have e:UInt8.ofNat c.toNat=c:=by simp
 rw [e] at this;exact this h
theorem sch_no {c:UInt8} (h:schC c=false):letterI c.toNat=false/\((c.toNat:Int)<48∨(48<=(c.toNat:Int)/\57<(c.toNat:Int)))/\((c.toNat:Int) != 43)=true/\((c.toNat:Int) != 45)=true/\((c.toNat:Int) != 46)=true:=by
 have key: ∀ n<256,schC (UInt8.ofNat n)=false->letterI (UInt8.ofNat n).toNat=false/\(((UInt8.ofNat n).toNat:Int)<48∨(48<=((UInt8.ofNat n).toNat:Int)/\57<((UInt8.ofNat n).toNat:Int)))/\(((UInt8.ofNat n).toNat:Int) != 43)=true/\(((UInt8.ofNat n).toNat:Int) != 45)=true/\(((UInt8.ofNat n).toNat:Int) != 46)=true:=by decide +kernel
 have:=key c.toNat c.toNat_lt;have e:UInt8.ofNat c.toNat=c:=by simp
 rw [e] at this;exact this h
theorem schOk_head (s:ByteArray) (h:0<s.size) (h2:letterI s[0].toNat=false):schOk s.data.toList=false:=by
 obtain ⟨r,e⟩:=list_one s h
 rw [e];show (letterI s[0].toNat&&_)=false;rw [h2];rfl
theorem schOk_bad (s:ByteArray) (k:Nat) (h:k<s.size) (h2:schC s[k]=false):schOk s.data.toList=false:=by
 unfold schOk;rw [all_at s k h h2,Bool.and_false]
theorem schOk_all (s:ByteArray) (h:0<s.size) (h2:letterI s[0].toNat=true) (h3:s.data.toList.all schC=true):schOk s.data.toList=true:=by
 obtain ⟨r,e⟩:=list_one s h
 unfold schOk;rw [h3,Bool.and_true,e];exact h2
theorem cutScheme_any (s:ByteArray) (w:World) (hg:Gd w) (hs:s.size<=4000000000):
 Calls Tryz.prog 179 #[.string s] w fun e w'=>e = .returned (.tuple #[.string ⟨(cutS s.data.toList).1.toArray⟩,.string ⟨(cutS s.data.toList).2.toArray⟩])/\Below w.heap.size w w':=by
 have HG:=hid hg;clear hg;have hl:=part_le 58 s.data.toList;obtain ⟨A,hA⟩: ∃ A:ByteArray,A=⟨(part 58 s.data.toList).1.toArray⟩:=⟨_,rfl⟩
 obtain ⟨R,hR⟩: ∃ R:ByteArray,R=⟨(part 58 s.data.toList).2.1.toArray⟩:=⟨_,rfl⟩
 obtain ⟨ok,hok⟩: ∃ ok,ok=(part 58 s.data.toList).2.2:=⟨_,rfl⟩
 have hAl:A.data.toList=(part 58 s.data.toList).1:=by rw [hA]
 have hRl:R.data.toList=(part 58 s.data.toList).2.1:=by rw [hR]
 have hAs:A.size<=4000000000:=by rw [hA];exact size_le hl.1 hs
 have HCut:Hid (∀ w:World,Gd w->Calls Tryz.prog 19 #[.string s,.string ⟨#[58]⟩] w fun e w'=>e = .returned (.tuple #[.string A,.string R,.bool ok])/\Below w.heap.size w w'):=fun w hg=>by
  have:=cut_any s ⟨#[58]⟩ w hg hs;rw [show (⟨#[58]⟩:ByteArray).data.toList=[58] from rfl,cut_part,<- hA,<- hR,<- hok] at this;exact this
 have HNo:Hid ((ok&&schOk A.data.toList)=false->cutS s.data.toList=([],s.data.toList)):=fun h=>cutS_none (by rw [<- hAl,<- hok];exact h)
 have HYes:Hid ((ok&&schOk A.data.toList)=true->cutS s.data.toList=(low A.data.toList,R.data.toList)):=fun h=>by
  rw [cutS_some (by rw [<- hAl,<- hok];exact h),<- hAl,<- hRl]
 clear hA hR hok hl hAl hRl
 cases hok2:ok with
 | false=>
   subst hok2;have HN:=hid (HNo.out rfl)
   go_enter Tryz.func179,Tryz.ntmps179
   go_wp2_with (go_at_call 19;refine (HCut.out _ HG.out).mono ?_;rintro e w1 ⟨rfl,hb1⟩)
   go_ret2
   rw [HN.out];exact ⟨ret_ss rfl (Lib.mk_data s).symm,hb1⟩
 | true=>
   subst hok2;by_cases h0:A.data.toList=[]
   ·have HN:=hid (HNo.out (by rw [h0];rfl))
    have he:=empty_yes A h0;clear h0
    go_enter Tryz.func179,Tryz.ntmps179
    go_wp2_with (go_at_call 19;refine (HCut.out _ HG.out).mono ?_;rintro e w1 ⟨rfl,hb1⟩)
    go_ret2
    rw [HN.out];exact ⟨ret_ss rfl (Lib.mk_data s).symm,hb1⟩
   ·have he:=empty_no A h0
    have hA0:0<A.size:=by
     rw [Lib.size_eq];exact List.length_pos_iff.2 h0
    have hA0':(0:Int)<(A.size:Int):=by omega
    clear h0;by_cases h1:letterI A[0].toNat=true
    ·have H1:=hid h1
     go_enter Tryz.func179,Tryz.ntmps179
     go_wp2_with (first | (go_at_call 19;refine (HCut.out _ HG.out).mono ?_;rintro e w1 ⟨rfl,hb1⟩) | (go_at_call 217;refine (uletter_any _ _).mono ?_;rintro e w' ⟨rfl,rfl⟩;rw [H1.out]))
     clear h1
     go_loop [30] (fun i=> ∃ k:Nat,k<=A.size/\i = .int .i64 k/\(A.data.toList.take k).all schC=true) (fun i=>A.size - (intOf i).toNat)
     case atStart=>exact ⟨0,Nat.zero_le _,rfl,rfl⟩
     case round=>
      obtain ⟨k,hk,rfl,hall⟩:=hrel
      have HA:=hid hall;clear hall;by_cases hlt:k<A.size
      ·have HT:=hid (take_snoc A k hlt)
       have hc8:A[k].toNat<256:=A[k].toNat_lt;by_cases hb:schC A[k]=true
       ·have HB:=hid hb
        rcases sch_yes hb with hL | ⟨hL,hd1,hd2⟩ | ⟨hL,hd0,hd⟩
        ·clear hb
         go_wp2_with (go_at_call 217;refine (uletter_any _ _).mono ?_;rintro e w' ⟨rfl,rfl⟩;rw [hL])
         go_round
         case rel=>exact ⟨k+1,by omega,by go_num,by rw [HT.out,List.all_append,HA.out];simp [HB.out]⟩
         case measure=>simp [intOf];omega
        ·have hz1:decide ((A[k].toNat:Int)<48)=false:=decide_eq_false (by omega)
         have hz2:decide ((57:Int)<(A[k].toNat:Int))=false:=decide_eq_false (by omega)
         clear hb hd1 hd2
         go_wp2_with (go_at_call 217;refine (uletter_any _ _).mono ?_;rintro e w' ⟨rfl,rfl⟩;rw [hL])
         go_round
         case rel=>exact ⟨k+1,by omega,by go_num,by rw [HT.out,List.all_append,HA.out];simp [HB.out]⟩
         case measure=>simp [intOf];omega
        ·have hz1:decide ((A[k].toNat:Int)<48)=true:=decide_eq_true hd0
         clear hb hd0;rcases hd with hd | ⟨hd,hd2⟩ | ⟨hd,hd2,hd3⟩
         all_goals
          go_wp2_with (go_at_call 217;refine (uletter_any _ _).mono ?_;rintro e w' ⟨rfl,rfl⟩;rw [hL])
          go_round
          case rel=>exact ⟨k+1,by omega,by go_num,by rw [HT.out,List.all_append,HA.out];simp [HB.out]⟩
          case measure=>simp [intOf];omega
       ·have hb':schC A[k]=false:=by simpa using hb
        have HN:=hid (HNo.out (by rw [schOk_bad A k hlt hb',Bool.and_false]));obtain ⟨hL,hd,h43,h45,h46⟩:=sch_no hb'
        clear hb hb';rcases hd with hd | ⟨hd1,hd2⟩
        ·have hz1:decide ((A[k].toNat:Int)<48)=true:=decide_eq_true hd
         clear hd
         go_wp2_with (go_at_call 217;refine (uletter_any _ _).mono ?_;rintro e w' ⟨rfl,rfl⟩;rw [hL])
         go_ret2
         rw [HN.out];exact ⟨ret_ss rfl (Lib.mk_data s).symm,hb1⟩
        ·have hz1:decide ((A[k].toNat:Int)<48)=false:=decide_eq_false (by omega)
         have hz2:decide ((57:Int)<(A[k].toNat:Int))=true:=decide_eq_true hd2;clear hd1 hd2
         go_wp2_with (go_at_call 217;refine (uletter_any _ _).mono ?_;rintro e w' ⟨rfl,rfl⟩;rw [hL])
         go_ret2
         rw [HN.out];exact ⟨ret_ss rfl (Lib.mk_data s).symm,hb1⟩
      ·have ha:=HA.out
       rw [take_all A k hlt] at ha;have HN:=hid (HYes.out (by rw [schOk_all A hA0 H1.out ha];rfl));clear ha
       go_wp2_with (go_at_call 37;refine (lower_any _ _ (by omega)).mono ?_;rintro e w2 ⟨rfl,hb2⟩)
       go_ret2
       rw [HN.out];exact ⟨ret_ss rfl (Lib.mk_data R).symm,below2 hb1 hb2⟩
    ·have h1':letterI A[0].toNat=false:=by simpa using h1
     have HN:=hid (HNo.out (by rw [schOk_head A hA0 h1'];rfl));clear h1
     go_enter Tryz.func179,Tryz.ntmps179
     go_wp2_with (first | (go_at_call 19;refine (HCut.out _ HG.out).mono ?_;rintro e w1 ⟨rfl,hb1⟩) | (go_at_call 217;refine (uletter_any _ _).mono ?_;rintro e w' ⟨rfl,rfl⟩;rw [h1']))
     go_ret2
     rw [HN.out];exact ⟨ret_ss rfl (Lib.mk_data s).symm,hb1⟩
theorem dropWhile_all (p:UInt8->Bool) (A M:List UInt8) (hA:A.all p=true):(A++M).dropWhile p=M.dropWhile p:=by
 rw [List.dropWhile_append_of_pos];intro x hx;exact List.all_eq_true.1 hA x hx
theorem trim_parts (A M B:List UInt8) (hA:A.all wsC=true) (hB:B.all wsC=true) (hM:M=[]∨((∃ c r,M=c::r/\wsC c=false)/\(∃ c r,M=r++[c]/\wsC c=false))):trimV (A++M++B)=M:=by
 unfold trimV;rcases hM with rfl | ⟨⟨c,r,h1,h2⟩,⟨d,q,h3,h4⟩⟩
 ·rw [List.append_nil,dropWhile_all wsC A B hA]
  have:B.dropWhile wsC=[]:=by
   have:=dropWhile_all wsC B [] hB;rw [List.append_nil] at this;exact this
  rw [this];rfl
 ·rw [List.append_assoc,dropWhile_all wsC A _ hA]
  have e1:(M++B).dropWhile wsC=M++B:=by rw [h1,List.cons_append,List.dropWhile_cons,h2];rfl
  have hB':B.reverse.all wsC=true:=by rw [List.all_reverse];exact hB
  have e2:M.reverse.dropWhile wsC=M.reverse:=by rw [h3,List.reverse_append,List.reverse_singleton,List.singleton_append,List.dropWhile_cons,h4];rfl
  rw [e1,List.reverse_append,dropWhile_all wsC _ _ hB',e2,List.reverse_reverse]
theorem trim_of (l:List UInt8) (k m:Nat) (hkm:k<=m) (hm:m<=l.length) (hA:(l.take k).all wsC=true) (hB:(l.drop m).all wsC=true) (hM:k=m∨((∃ h:k<l.length,wsC l[k]=false)/\(∃ h:m - 1<l.length,wsC l[m - 1]=false))):trimV l=(l.drop k).take (m - k):=by
 have e:l=l.take k++(l.drop k).take (m - k)++l.drop m:=by
  have h1:(l.drop k).drop (m - k)=l.drop m:=by rw [List.drop_drop];congr 1;omega
  rw [List.append_assoc,<- h1,List.take_append_drop,List.take_append_drop]
 have:=trim_parts (l.take k) ((l.drop k).take (m - k)) (l.drop m) hA hB ?_
 ·rw [<- e] at this;exact this
 ·by_cases hk:k=m
  ·left;rw [hk];simp
  ·rcases hM with h | ⟨⟨h1,h2⟩,⟨h3,h4⟩⟩
   ·exact absurd h hk
   ·right
    constructor
    ·refine ⟨l[k],(l.drop (k+1)).take (m - k - 1),?_,h2⟩
     rw [List.drop_eq_getElem_cons h1,show m - k=(m - k - 1)+1 by omega,List.take_succ_cons];rfl
    ·refine ⟨l[m - 1],(l.drop k).take (m - 1 - k),?_,h4⟩
     rw [show m - k=(m - 1 - k)+1 by omega,List.take_add_one]
     congr 1
     rw [List.getElem?_drop,show k+(m - 1 - k)=m - 1 by omega,List.getElem?_eq_getElem h3];rfl
def keepC (l:List UInt8):List UInt8:=l.filter (fun c=> !eyeC c)
theorem keepC_le (l:List UInt8):(keepC l).length<=l.length:=List.length_filter_le _ _
theorem keepC_yes (l:List UInt8) (c:UInt8) (h:eyeC c=true):keepC (l++[c])=keepC l:=by simp [keepC,h]
theorem keepC_no (l:List UInt8) (c:UInt8) (h:eyeC c=false):keepC (l++[c])=keepC l++[c]:=by simp [keepC,h]
theorem clean_keep (l:List UInt8):cleanV l=keepC (trimV l):=rfl
theorem clean_le (l:List UInt8):(cleanV l).length<=l.length:=by
 rw [clean_keep];refine Nat.le_trans (keepC_le _) ?_;unfold trimV;rw [List.length_reverse];refine Nat.le_trans (List.dropWhile_suffix wsC).length_le ?_;rw [List.length_reverse];exact (List.dropWhile_suffix wsC).length_le
theorem ws_yes {c:UInt8} (h:wsC c=true):(c.toNat:Int)<=32:=by
 have:=of_decide_eq_true h;omega
theorem ws_no {c:UInt8} (h:wsC c=false):32<(c.toNat:Int):=by
 have:=of_decide_eq_false h;omega
theorem eye_no {c:UInt8} (h:eyeC c=false):((c.toNat:Int) != 9)=true/\((c.toNat:Int) != 10)=true/\((c.toNat:Int) != 13)=true:=by
 have key: ∀ n<256,eyeC (UInt8.ofNat n)=false->(((UInt8.ofNat n).toNat:Int) != 9)=true/\(((UInt8.ofNat n).toNat:Int) != 10)=true/\(((UInt8.ofNat n).toNat:Int) != 13)=true:=by decide +kernel
 have:=key c.toNat c.toNat_lt;have e:UInt8.ofNat c.toNat=c:=by simp
 rw [e] at this;exact this h
theorem eye_yes {c:UInt8} (h:eyeC c=true):((c.toNat:Int) != 9)=false∨(((c.toNat:Int) != 9)=true/\((c.toNat:Int) != 10)=false)∨(((c.toNat:Int) != 9)=true/\((c.toNat:Int) != 10)=true/\((c.toNat:Int) != 13)=false):=by
 have key: ∀ n<256,eyeC (UInt8.ofNat n)=true->(((UInt8.ofNat n).toNat:Int) != 9)=false∨((((UInt8.ofNat n).toNat:Int) != 9)=true/\(((UInt8.ofNat n).toNat:Int) != 10)=false)∨((((UInt8.ofNat n).toNat:Int) != 9)=true/\(((UInt8.ofNat n).toNat:Int) != 10)=true/\(((UInt8.ofNat n).toNat:Int) != 13)=false):=by decide +kernel
 have:=key c.toNat c.toNat_lt;have e:UInt8.ofNat c.toNat=c:=by simp
 rw [e] at this;exact this h
theorem rowIs_same {w w':World} {g:Nat} {e:TypeId} {l:List UInt8} (h:rowIs w g e l) (hb:w'.heap[g]? = w.heap[g]?):rowIs w' g e l:=by
 unfold rowIs at *
 rw [hb];exact h
end Go.Proofs.YtijpkalkfbejeaaGreatDoor
