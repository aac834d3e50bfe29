/- Walks and plain facts. -/
import Derived.Test.YtijpkalkfbejeaaGreatDoorQm2
import Derived.Test.YtijpkalkfbejeaaGreatDoorQm3
set_option linter.unusedSimpArgs false
set_option linter.unusedVariables false
set_option maxHeartbeats 16000000
set_option maxRecDepth 100000

namespace Go.Proofs.YtijpkalkfbejeaaGreatDoor
open Go.RowKit
theorem below_iter10 (w:World) (s:ByteArray) (i:Nat):Below w.heap.size w (w.iter s i):=(Below.refl _ w).alloc (Nat.le_refl _) _
theorem indexRune10 (r:Int) (w:World) (hr1:128<=r) (h2:r<=1114111):
 Calls Tryz.prog 83 #[.string ⟨#[9,10,12,13,32]⟩,.int .i32 r] w fun e w'=>e = .returned (.int .i64 (-1))/\Below w.heap.size w w':=by
 have hr0:(0:Int)<=r:=by omega
 by_cases he:r=65533
 ·subst he
  go_enter Tryz.func83,Tryz.ntmps83
  go_wp2
  go_loopg [5,6] 5 (fun g _ _ wx=> ∃ i:Nat,i+g=5/\wx=w.iter ⟨#[9,10,12,13,32]⟩ i)
  case atStart=>exact ⟨0,by omega,rfl⟩
  case round=>
   obtain ⟨i,hig,rfl⟩:=hrel
   match gk,hig with
   | 0,hig=>
     obtain rfl:i=5:=by omega
     have hnx:=run_next_end (P:=Tryz.prog) w ⟨#[9,10,12,13,32]⟩ 5
     go_wp2
     go_ret
     exact ⟨rfl,below_iter10 w _ _⟩
   | 1,hig=>
     obtain rfl:i=4:=by omega
     have hnx:=fun ty=>run_next_ascii (P:=Tryz.prog) w ⟨#[9,10,12,13,32]⟩ 4 ty (by decide) (by decide)
     go_wp2
     go_roundg 0
     case measure=>omega
     case rel=>exact ⟨5,by omega,rfl⟩
   | 2,hig=>
     obtain rfl:i=3:=by omega
     have hnx:=fun ty=>run_next_ascii (P:=Tryz.prog) w ⟨#[9,10,12,13,32]⟩ 3 ty (by decide) (by decide)
     go_wp2
     go_roundg 1
     case measure=>omega
     case rel=>exact ⟨4,by omega,rfl⟩
   | 3,hig=>
     obtain rfl:i=2:=by omega
     have hnx:=fun ty=>run_next_ascii (P:=Tryz.prog) w ⟨#[9,10,12,13,32]⟩ 2 ty (by decide) (by decide)
     go_wp2
     go_roundg 2
     case measure=>omega
     case rel=>exact ⟨3,by omega,rfl⟩
   | 4,hig=>
     obtain rfl:i=1:=by omega
     have hnx:=fun ty=>run_next_ascii (P:=Tryz.prog) w ⟨#[9,10,12,13,32]⟩ 1 ty (by decide) (by decide)
     go_wp2
     go_roundg 3
     case measure=>omega
     case rel=>exact ⟨2,by omega,rfl⟩
   | 5,hig=>
     obtain rfl:i=0:=by omega
     have hnx:=fun ty=>run_next_ascii (P:=Tryz.prog) w ⟨#[9,10,12,13,32]⟩ 0 ty (by decide) (by decide)
     go_wp2
     go_roundg 4
     case measure=>omega
     case rel=>exact ⟨1,by omega,rfl⟩
   | g+6,hig=>omega
 ·have he':(r==65533)=false:=by rw [beq_eq_false_iff_ne];exact he
  have hcv: ∀ w:World,Calls Tryz.prog 106 #[.int .i32 r] w fun e w'=>e = .returned (.bool (Lib.validRune r))/\w'=w:=fun w=>Tryz.utf8_ValidRune _ w
  have hvv:Lib.validRune r=true∨Lib.validRune r=false:=by cases Lib.validRune r<;>simp
  rcases hvv with hv | hv
  rotate_left
  ·rw [hv] at hcv
   clear hv h2 he
   go_enter Tryz.func83,Tryz.ntmps83
   go_wp2_with (go_at_call 106;refine (hcv _).mono ?_;rintro e w' ⟨rfl,rfl⟩)
   go_ret
   exact ⟨rfl,Below.refl _ _⟩
  ·obtain ⟨X,hX⟩: ∃ X,Utf8.encode r=X:=⟨_,rfl⟩
   have hvu:Utf8.valid r=true:=by
    have:=of_decide_eq_true hv;simp only [Utf8.valid,Bool.or_eq_true,Bool.and_eq_true,decide_eq_true_eq]
    omega
   have hf:=encode_facts r hvu (by omega)
   rw [hX] at hf;obtain ⟨f1,f2,f3⟩:=hf
   have HF:=hid f3;rw [hv] at hcv;clear f3 hv hvu h2 he;have hx:X.size=2∨X.size=3∨X.size=4:=by omega
   rcases hx with hx | hx | hx
   ·obtain ⟨a,b,rfl⟩: ∃ a b:UInt8,X=⟨#[a,b]⟩:=by
     obtain ⟨⟨L⟩⟩:=X
     match L,hx with
     | [a,b],_=>exact ⟨a,b,rfl⟩
    have hb:128<=b.toNat:=HF.out (show 1<2 by decide);have hb8:b.toNat<256:=b.toNat_lt;have hb1:((((⟨#[9,10,12,13,32]⟩:ByteArray)[1]'(show 1<5 by decide)).toNat:Int) != (((⟨#[a,b]⟩:ByteArray)[1]'(show 1<2 by decide)).toNat:Int))=true:=by
     show (((10:UInt8).toNat:Int) != (b.toNat:Int))=true;have:(10:UInt8).toNat=10:=rfl;simp only [bne_iff_ne,ne_eq]
     omega
    have HIB:=hid (show Lib.indexByte ((⟨#[9,10,12,13,32]⟩:ByteArray).extract 2 5).data.toList ((((⟨#[a,b]⟩:ByteArray)[1]'(show 1<2 by decide)).toNat:Int)).toNat.toUInt8 = -1 by
     have e1:((⟨#[9,10,12,13,32]⟩:ByteArray).extract 2 5).data.toList=[12,13,32]:=by rw [Lib.extract_data];rfl
     have e2:((((⟨#[a,b]⟩:ByteArray)[1]'(show 1<2 by decide)).toNat:Int)).toNat.toUInt8=b:=by
      show ((b.toNat:Int)).toNat.toUInt8=b;simp
     rw [e1,e2]
     have n0:(12:UInt8)≠b:=fun e=>by rw [<- e] at hb;revert hb;decide
     have n1:(13:UInt8)≠b:=fun e=>by rw [<- e] at hb;revert hb;decide
     have n2:(32:UInt8)≠b:=fun e=>by rw [<- e] at hb;revert hb;decide
     simp [Lib.indexByte,n0,n1,n2])
    clear hx f1 f2 HF
    go_enter Tryz.func83,Tryz.ntmps83
    go_wp2_with (go_at_call 106;refine (hcv _).mono ?_;rintro e w' ⟨rfl,rfl⟩)
    go_step3
    go_wp2
    go_loop [9] (fun i=>i = .int .i64 1) (fun _=>0)
    case atStart=>rfl
    case round=>
     subst hrel
     go_wp2
     go_step3
     go_wp2
     go_region
     go_wp2
     go_region_with (go_at_call 105;refine (Tryz.strings_IndexByte _ _ _).mono ?_;rintro e w'' ⟨rfl,rfl⟩;rw [HIB.out])
     all_goals
      go_wp2
      rw [Exit.noGoto_ret]
      go_wp2
      rw [Exit.noGoto_ret]
      go_wp2
      go_ret
      exact ⟨rfl,(Below.refl _ _).drew.drew⟩
   ·obtain ⟨a,b,c,rfl⟩: ∃ a b c:UInt8,X=⟨#[a,b,c]⟩:=by
     obtain ⟨⟨L⟩⟩:=X
     match L,hx with
     | [a,b,c],_=>exact ⟨a,b,c,rfl⟩
    have hb:128<=c.toNat:=HF.out (show 2<3 by decide);have hb8:c.toNat<256:=c.toNat_lt;have hb1:((((⟨#[9,10,12,13,32]⟩:ByteArray)[2]'(show 2<5 by decide)).toNat:Int) != (((⟨#[a,b,c]⟩:ByteArray)[2]'(show 2<3 by decide)).toNat:Int))=true:=by
     show (((12:UInt8).toNat:Int) != (c.toNat:Int))=true;have:(12:UInt8).toNat=12:=rfl;simp only [bne_iff_ne,ne_eq]
     omega
    have HIB:=hid (show Lib.indexByte ((⟨#[9,10,12,13,32]⟩:ByteArray).extract 3 5).data.toList ((((⟨#[a,b,c]⟩:ByteArray)[2]'(show 2<3 by decide)).toNat:Int)).toNat.toUInt8 = -1 by
     have e1:((⟨#[9,10,12,13,32]⟩:ByteArray).extract 3 5).data.toList=[13,32]:=by rw [Lib.extract_data];rfl
     have e2:((((⟨#[a,b,c]⟩:ByteArray)[2]'(show 2<3 by decide)).toNat:Int)).toNat.toUInt8=c:=by
      show ((c.toNat:Int)).toNat.toUInt8=c;simp
     rw [e1,e2]
     have n0:(13:UInt8)≠c:=fun e=>by rw [<- e] at hb;revert hb;decide
     have n1:(32:UInt8)≠c:=fun e=>by rw [<- e] at hb;revert hb;decide
     simp [Lib.indexByte,n0,n1])
    clear hx f1 f2 HF
    go_enter Tryz.func83,Tryz.ntmps83
    go_wp2_with (go_at_call 106;refine (hcv _).mono ?_;rintro e w' ⟨rfl,rfl⟩)
    go_step3
    go_wp2
    go_loop [9] (fun i=>i = .int .i64 2) (fun _=>0)
    case atStart=>rfl
    case round=>
     subst hrel
     go_wp2
     go_step3
     go_wp2
     go_region
     go_wp2
     go_region_with (go_at_call 105;refine (Tryz.strings_IndexByte _ _ _).mono ?_;rintro e w'' ⟨rfl,rfl⟩;rw [HIB.out])
     all_goals
      go_wp2
      rw [Exit.noGoto_ret]
      go_wp2
      rw [Exit.noGoto_ret]
      go_wp2
      go_ret
      exact ⟨rfl,(Below.refl _ _).drew.drew⟩
   ·obtain ⟨a,b,c,d,rfl⟩: ∃ a b c d:UInt8,X=⟨#[a,b,c,d]⟩:=by
     obtain ⟨⟨L⟩⟩:=X
     match L,hx with
     | [a,b,c,d],_=>exact ⟨a,b,c,d,rfl⟩
    have hb:128<=d.toNat:=HF.out (show 3<4 by decide);have hb8:d.toNat<256:=d.toNat_lt;have hb1:((((⟨#[9,10,12,13,32]⟩:ByteArray)[3]'(show 3<5 by decide)).toNat:Int) != (((⟨#[a,b,c,d]⟩:ByteArray)[3]'(show 3<4 by decide)).toNat:Int))=true:=by
     show (((13:UInt8).toNat:Int) != (d.toNat:Int))=true;have:(13:UInt8).toNat=13:=rfl;simp only [bne_iff_ne,ne_eq]
     omega
    have HIB:=hid (show Lib.indexByte ((⟨#[9,10,12,13,32]⟩:ByteArray).extract 4 5).data.toList ((((⟨#[a,b,c,d]⟩:ByteArray)[3]'(show 3<4 by decide)).toNat:Int)).toNat.toUInt8 = -1 by
     have e1:((⟨#[9,10,12,13,32]⟩:ByteArray).extract 4 5).data.toList=[32]:=by rw [Lib.extract_data];rfl
     have e2:((((⟨#[a,b,c,d]⟩:ByteArray)[3]'(show 3<4 by decide)).toNat:Int)).toNat.toUInt8=d:=by
      show ((d.toNat:Int)).toNat.toUInt8=d;simp
     rw [e1,e2]
     have n0:(32:UInt8)≠d:=fun e=>by rw [<- e] at hb;revert hb;decide
     simp [Lib.indexByte,n0])
    clear hx f1 f2 HF
    go_enter Tryz.func83,Tryz.ntmps83
    go_wp2_with (go_at_call 106;refine (hcv _).mono ?_;rintro e w' ⟨rfl,rfl⟩)
    go_step3
    go_wp2
    go_loop [9] (fun i=>i = .int .i64 3) (fun _=>0)
    case atStart=>rfl
    case round=>
     subst hrel
     go_wp2
     go_step3
     go_wp2
     go_region
     go_wp2
     go_region_with (go_at_call 105;refine (Tryz.strings_IndexByte _ _ _).mono ?_;rintro e w'' ⟨rfl,rfl⟩;rw [HIB.out])
     all_goals
      go_wp2
      rw [Exit.noGoto_ret]
      go_wp2
      rw [Exit.noGoto_ret]
      go_wp2
      go_ret
      exact ⟨rfl,(Below.refl _ _).drew.drew⟩
theorem p9_low (x:Nat) (h:x<128):decide (0<=Lib.indexByte [9,10,12,13,32] ((x:Int).toNat.toUInt8))=p9 x:=by
 have h2: ∀ n:Fin 128,decide (0<=Lib.indexByte [9,10,12,13,32] ((n.val:Int).toNat.toUInt8))=p9 n.val:=by decide +kernel
 exact h2 ⟨x,h⟩
theorem contR10 (x:Nat) (w:World) (hx:x<=1114111):
 Calls Tryz.prog 62 #[.string ⟨#[9,10,12,13,32]⟩,.int .i32 (x:Int)] w fun e w'=>e = .returned (.bool (p9 x))/\Below w.heap.size w w':=by
 by_cases h:x<128
 ·have HC:=hid (Tryz.strings_IndexRune_ascii ⟨#[9,10,12,13,32]⟩ (x:Int) w (by omega) (by omega))
  have HP:=hid (show decide (0<=Lib.indexByte (⟨#[9,10,12,13,32]⟩:ByteArray).data.toList ((x:Int).toNat.toUInt8))=p9 x from p9_low x h);clear h hx
  go_enter Tryz.func62,Tryz.ntmps62
  go_wp2_with fail
  refine HC.out.mono ?_;rintro e w1 ⟨rfl,rfl⟩
  generalize Lib.indexByte (⟨#[9,10,12,13,32]⟩:ByteArray).data.toList ((x:Int).toNat.toUInt8)=z at HP ⊢
  go_wp2_with fail
  go_ret
  refine ⟨?_,Below.refl _ _⟩
  rw [<- HP.out];rfl
 ·have HC:=hid (indexRune10 (x:Int) w (by omega) (by omega))
  have HP:=hid (p9_high x (by omega));clear h hx
  go_enter Tryz.func62,Tryz.ntmps62
  go_wp2_with fail
  refine HC.out.mono ?_;rintro e w1 ⟨rfl,hb⟩
  have HB:=hid hb;clear hb
  go_wp2_with fail
  go_ret
  rw [HP.out];exact ⟨rfl,HB.out⟩
theorem blank10 (x:Nat) (w:World) (hx:x<=1114111):
 Calls Tryz.prog 36 #[.int .i32 (x:Int)] w fun e w'=>e = .returned (.bool (p9 x))/\Below w.heap.size w w':=by
 have HC:=hid (contR10 x w hx);clear hx
 go_enter Tryz.func36,Tryz.ntmps36
 go_wp2_with fail
 refine HC.out.mono ?_;rintro e w1 ⟨rfl,hb⟩
 have HB:=hid hb;clear hb
 go_wp2_with fail
 go_ret
 exact ⟨rfl,HB.out⟩
theorem cut10 (s:ByteArray) (c:UInt8) (w:World) (hs:s.size<=140737488351232):
 Calls Tryz.prog 19 #[.string s,.string ⟨#[c]⟩] w fun e w'=>e = .returned (.tuple #[.string ⟨(part9 c s.data.toList).1.toArray⟩,.string ⟨(part9 c s.data.toList).2.1.toArray⟩,.bool (part9 c s.data.toList).2.2])/\Below w.heap.size w w':=by
 have HI:=hid (fun X=>Tryz.stringslite_Index_one s c X);have hLC: ∀ X,Calls Tryz.prog 34 #[.string s,.string ⟨#[c]⟩] X fun e w'=>e = .returned (.tuple #[.string ⟨(part9 c s.data.toList).1.toArray⟩,.string ⟨(part9 c s.data.toList).2.1.toArray⟩,.bool (part9 c s.data.toList).2.2])/\Below X.heap.size X w':=by
  intro X;rcases first_split9 c s.data.toList with h | ⟨a,r,h,he⟩
  ·have HP:=hid (part_none9 c _ h)
   have h1:Lib.indexByte s.data.toList c = -1:=by rw [<- Lib.index_one];exact index_one_none9 _ _ h
   rw [h1] at HI;clear h h1
   go_enter Tryz.func34,Tryz.ntmps34
   go_wp2_with fail
   refine (HI.out _).mono ?_;rintro e w1 ⟨rfl,rfl⟩
   go_wp2_with fail
   go_ret3
   rw [HP.out];refine ⟨?_,Below.refl _ _⟩
   show _=Ending.returned (.tuple #[.string ⟨s.data.toList.toArray⟩,.string ⟨#[]⟩,.bool false]);rw [Lib.mk_data];rfl
  ·have HP:=hid (part_some9 c a r h)
   have h1:Lib.indexByte s.data.toList c=a.length:=by rw [<- Lib.index_one,he];exact index_one_some9 _ _ _ h
   rw [h1] at HI;have HE:=hid he;have hsz:s.size=a.length+r.length+1:=by rw [Lib.size_eq,he];simp;omega
   have hle:(a.length:Int)<=(s.size:Int):=by omega
   have hle2:(a.length:Int)+1<=(s.size:Int):=by omega
   have H1:=hid (show s.extract 0 a.length=⟨a.toArray⟩ by
    rw [<- Lib.mk_data (s.extract 0 a.length)]
    congr 2
    rw [Lib.extract_data,he]
    simp)
   have H2:=hid (show s.extract (a.length+1) s.size=⟨r.toArray⟩ by
    rw [<- Lib.mk_data (s.extract (a.length+1) s.size)]
    congr 2
    rw [Lib.extract_data,he,hsz]
    simp [List.take_of_length_le])
   clear h h1 he hsz
   go_enter Tryz.func34,Tryz.ntmps34
   go_wp2_with fail
   refine (HI.out _).mono ?_;rintro e w1 ⟨rfl,rfl⟩
   go_wp2_with fail
   go_region
   go_wp2_with fail
   go_ret3
   rw [HE.out,HP.out]
   refine ⟨?_,(Below.refl _ _).drew⟩
   rw [<- H1.out,<- H2.out];rfl
 have HC:=hid (hLC w);clear hLC HI
 go_enter Tryz.func19,Tryz.ntmps19
 go_wp2_with fail
 refine HC.out.mono ?_;rintro e w1 ⟨rfl,hb⟩
 have HB:=hid hb;clear hb
 go_wp2_with fail
 go_ret3
 exact ⟨rfl,HB.out⟩
def cellsT (L:List (List UInt8)):List Value:=L.map fun x=>Value.string ⟨x.toArray⟩
theorem cellsT_app (a b:List (List UInt8)):cellsT (a++b)=cellsT a++cellsT b:=by simp [cellsT]
theorem cellsT_len (a:List (List UInt8)):(cellsT a).length=a.length:=by simp [cellsT]
theorem cellsT_one (X:ByteArray):cellsT [X.data.toList]=[.string X]:=by
 show [Value.string ⟨X.data.toList.toArray⟩]=_;rw [Lib.mk_data]
def TxL (w:World) (b off:Nat) (L:List (List UInt8)):Prop:= ∀ j (h:j<L.length),w.cell? ⟨b,off+j,none⟩=some (.string ⟨L[j].toArray⟩)
def TxAt (w:World) (v:Value) (L:List (List UInt8)):Prop:=
 ∃ a cap,v = .slice a L.length cap/\L.length<=cap/\cap<=maxLen /\ ∀ j (hj:j<L.length),∃ b off,a=some ⟨b,off,none⟩/\w.cell? ⟨b,off+j,none⟩=some (.string ⟨L[j].toArray⟩)
theorem TxAt.view {w:World} {v:Value} {L:List (List UInt8)} (h:TxAt w v L): ∃ a cap,v = .slice a L.length cap/\L.length<=cap/\cap<=maxLen /\ ∀ j (hj:j<L.length),∃ b off,a=some ⟨b,off,none⟩/\w.cell? ⟨b,off+j,none⟩=some (.string ⟨L[j].toArray⟩):=h
theorem tx_of {w:World} {b off cap:Nat} {L:List (List UInt8)} (h1:L.length<=cap) (h2:cap<=maxLen) (h:TxL w b off L):TxAt w (.slice (some ⟨b,off,none⟩) L.length cap) L:=
 ⟨_,cap,rfl,h1,h2,fun j hj=>⟨b,off,rfl,h j hj⟩⟩
theorem tx_nil (w:World):TxAt w (.slice none 0 0) []:=⟨none,0,rfl,Nat.le_refl _,by decide,fun j hj=>by simp at hj⟩
theorem TxAt.kept {w w':World} {v:Value} {L:List (List UInt8)} (h:TxAt w v L) (hb:Below w.heap.size w w'):TxAt w' v L:=by
 obtain ⟨a,cap,h1,h2,h3,h4⟩:=h
 refine ⟨a,cap,h1,h2,h3,fun j hj=> ?_⟩
 obtain ⟨b,off,e,c1⟩:=h4 j hj
 exact ⟨b,off,e,(hb.cell (World.block_lt_of_cell? w _ c1)).trans c1⟩
theorem own_txt' {w:World} {B:Nat} {e:TypeId} {v:Value} {L:List (List UInt8)} (h:w.ownsRow B e 1 v L.length (cellsT L)):TxAt w v L:=by
 have h2:=h.2;rcases h2 with ⟨hv,hn⟩ | ⟨g,cap,cur,rfl,hg,hrow,hnc,hcm,hcs,htake⟩
 ·obtain rfl:=List.eq_nil_of_length_eq_zero hn
  rw [hv];exact tx_nil w
 ·refine tx_of hnc hcm fun j hj=> ?_
  rw [Nat.zero_add,h.cellAt j (by omega)]
  simp [cellsT,hj]
def SlV (w:World) (B:Nat) (T:TypeId) (v:Value) (us:List Value):Prop:=
 (v = .slice none 0 0/\us=[]) ∨ ∃ g o c cur,v = .slice (some ⟨g,o,none⟩) us.length c/\B<=g/\w.heap[g]? = some (.cells cur T (0,0))/\us.length<=c/\o+c<=cur.size/\c<=maxLen /\ ∀ j u,us[j]? = some u->cur[o+j]? = some u
theorem SlV.lt {w:World} {B:Nat} {T:TypeId} {v:Value} {us:List Value} (h:SlV w B T v us): ∀ k,v.ownBlock=some k->B<=k/\k<w.heap.size:=by
 intro k hk;rcases h with ⟨rfl,rfl⟩ | ⟨g,o,c,cur,rfl,hB,hg,_⟩
 ·simp [Value.ownBlock] at hk
 ·simp [Value.ownBlock] at hk
  subst hk;exact ⟨hB,(Array.getElem?_eq_some_iff.1 hg).1⟩
theorem SlV.same {w w':World} {B:Nat} {T:TypeId} {v:Value} {us:List Value} (h:SlV w B T v us) (hk: ∀ k,v.ownBlock=some k->w'.heap[k]? = w.heap[k]?):SlV w' B T v us:=by
 rcases h with h | ⟨g,o,c,cur,rfl,hB,hg,h1,h2,h3,h4⟩
 ·exact .inl h
 ·exact .inr ⟨g,o,c,cur,rfl,hB,(hk g rfl).trans hg,h1,h2,h3,h4⟩
theorem ownsRow_same {w w':World} {B:Nat} {e:TypeId} {size:Nat} {v:Value} {n:Nat} {xs:List Value} (h:w.ownsRow B e size v n xs) (hk: ∀ g,v.ownBlock=some g->w'.heap[g]? = w.heap[g]?):w'.ownsRow B e size v n xs:=by
 refine ⟨h.1,?_⟩
 rcases h.2 with hn | ⟨g,cap,cur,rfl,hb,hgg,rest⟩
 ·exact .inl hn
 ·exact .inr ⟨g,cap,cur,rfl,hb,(hk g rfl).trans hgg,rest⟩
theorem ownsRow_kind {w:World} {B:Nat} {e:TypeId} {size:Nat} {v:Value} {n:Nat} {xs:List Value} (h:w.ownsRow B e size v n xs) (g:Nat) (hg:v.ownBlock=some g): ∃ cur,w.heap[g]? = some (.cells cur e (0,0)):=by
 rcases h.2 with ⟨rfl,_⟩ | ⟨g',cap,cur,rfl,hb,hgg,rest⟩
 ·simp [Value.ownBlock] at hg
 ·simp [Value.ownBlock] at hg
  subst hg;exact ⟨cur,hgg⟩
theorem ownsRow_lower {w:World} {B B':Nat} {e:TypeId} {size:Nat} {v:Value} {n:Nat} {xs:List Value} (h:w.ownsRow B e size v n xs) (hB:B'<=B):w.ownsRow B' e size v n xs:=by
 refine ⟨h.1,?_⟩
 rcases h.2 with hn | ⟨g,cap,cur,rfl,hb,rest⟩
 ·exact .inl hn
 ·exact .inr ⟨g,cap,cur,rfl,Nat.le_trans hB hb,rest⟩
def AppAt (w:World) (v v':Value) (n:Nat):Prop:= ∃ g cap,v' = .slice (some ⟨g,0,none⟩) n cap/\(v.ownBlock=some g∨w.heap.size<=g)
theorem run_append_where {P:Program} (w:World) (base:Nat) (t ty e:TypeId) (i:TypeInfo) (z:Value) (size bytes:Nat) (ht:P.underlying t=some (.slice e)) (hi:P.info? e=some i) (hz:i.zero=some z)
 (hsize:i.size=size) (hby:i.bytes=bytes) (hzs:z.cells.size=size) (hsz:0<size)
 (v:Value) (n:Nat) (xs:List Value) (hown:w.ownsRow base e size v n xs)
 (a:Addr) (m c:Nat) (news:List Value) (hl:news.length=m*size) (hnews: ∀ j u,news[j]? = some u->w.cell? (a.add j)=some u) (h1: ∀ u ∈ news,u.oneCell'=true)
 (h63:n+m<=maxLen) (hbytes:(n+m)*bytes<=140737488355328) (hbase:base<=w.heap.size) (hm:0<m):
 ∃ v' w',(Builtin.append_ #[t,t] ty #[v,.slice (some a) m c]).run P w = .ok v' w'/\w'.ownsRow base e size v' (n+m) (xs++news)/\w.grownBy w' v.ownBlock /\
  AppAt w v v' (n+m):=by
 obtain ⟨v',w',hr,ho,hg,_⟩:=run_append_own (P:=P) w base t ty e i z size bytes ht hi hz hsize hby hzs hsz v n xs hown a m c news hl hnews h1 h63 hbytes hbase
 refine ⟨v',w',hr,ho,hg,?_⟩
 subst hsize;subst hby
 have hML:n+m<=9223372036854775807:=by simp only [maxLen] at h63;omega
 rcases hown.2 with ⟨rfl,rfl⟩ | ⟨g,cap,cur,rfl,hbg,hgg,hnc,hcm,hcs,htake⟩
 ·have hr2:=run_append_nil (P:=P) w t ty e i z ht hi hz a m c news hl hnews hm (by omega) (by have hb:=hbytes;simp only [Nat.zero_add] at hb;omega)
  rw [hr2] at hr;injection hr with e1 e2
  exact ⟨w.heap.size,_,by rw [<- e1];simp;rfl,.inr (Nat.le_refl _)⟩
 ·by_cases hroom:n+m<=cap
  ·have hfit:n*i.size+news.length<=cur.size:=by rw [hl,hcs,<- Nat.add_mul];exact Nat.mul_le_mul_right _ hroom
   have hr2:=run_append_room (P:=P) w t ty e i ht hi g n cap cur hgg a m c news hl hnews h1 hroom hfit;rw [hr2] at hr;injection hr with e1 e2
   exact ⟨g,cap,e1.symm,.inl rfl⟩
  ·have hr2:=run_append_grow (P:=P) w t ty e i z ht hi hz ⟨g,0,none⟩ n cap xs hown.1 (hown.cells (g:=g) rfl) a m c news hl hnews (by omega) (by omega) (growslice_fits (by omega) hbytes)
   rw [hr2] at hr;injection hr with e1 e2
   exact ⟨w.heap.size,_,e1.symm,.inr (Nat.le_refl _)⟩
theorem wp_append_where {P:Program} (w:World) {o:Oper} {a:Act} {K:Act->World->Prop} {Q:Exit->Act->World->Prop} (s x:Operand) (t:TypeId)
 (ho:o.op = .call { callee:= .builtin .append,args:= #[s,x],argTypes:= #[t,t] })
 (base:Nat) (e:TypeId) (i:TypeInfo) (z:Value) (size bytes:Nat) (ht:P.underlying t=some (.slice e)) (hi:P.info? e=some i) (hz:i.zero=some z)
 (hsize:i.size=size) (hby:i.bytes=bytes) (hzs:z.cells.size=size) (hsz:0<size)
 (v:Value) (n:Nat) (xs:List Value) (hs:a.eval s=v) (hown:w.ownsRow base e size v n xs)
 (ad:Addr) (m c:Nat) (news:List Value) (hx:a.eval x = .slice (some ad) m c) (hl:news.length=m*size) (hnews: ∀ j u,news[j]? = some u->w.cell? (ad.add j)=some u) (h1: ∀ u ∈ news,u.oneCell'=true)
 (h63:n+m<=maxLen) (hbytes:(n+m)*bytes<=140737488355328) (hbase:base<=w.heap.size) (hm:0<m)
 (h: ∀ v' w',w'.ownsRow base e size v' (n+m) (xs++news)->w.grownBy w' v.ownBlock->AppAt w v v' (n+m)->K (a.put o.dst v') w'):o.wp P a w K Q:=by
 obtain ⟨v',w',hr,h2,h3,h4⟩:=run_append_where (P:=P) w base t o.type e i z size bytes ht hi hz hsize hby hzs hsz v n xs hown ad m c news hl hnews h1 h63 hbytes hbase hm
 unfold Oper.wp;simp [execOp,ho,resolve,invoke,builtin,hs,hx,hr,Result.andThen]
 exact h v' w' h2 h3 h4
theorem wpList_append_where {P:Program} (w:World) {ops:Array Oper} {rest:List Oper} {o:Oper} {a:Act} {Q:Exit->Act->World->Prop} (hgd:o.guard=none) (s x:Operand) (t:TypeId)
 (ho:o.op = .call { callee:= .builtin .append,args:= #[s,x],argTypes:= #[t,t] })
 (base:Nat) (e:TypeId) (i:TypeInfo) (z:Value) (size bytes:Nat) (ht:P.underlying t=some (.slice e)) (hi:P.info? e=some i) (hz:i.zero=some z)
 (hsize:i.size=size) (hby:i.bytes=bytes) (hzs:z.cells.size=size) (hsz:0<size)
 (v:Value) (n:Nat) (xs:List Value) (hs:a.eval s=v) (hown:w.ownsRow base e size v n xs)
 (ad:Addr) (m c:Nat) (news:List Value) (hx:a.eval x = .slice (some ad) m c) (hl:news.length=m*size) (hnews: ∀ j u,news[j]? = some u->w.cell? (ad.add j)=some u) (h1: ∀ u ∈ news,u.oneCell'=true)
 (h63:n+m<=maxLen) (hbytes:(n+m)*bytes<=140737488355328) (hbase:base<=w.heap.size) (hm:0<m)
 (h: ∀ v' w',w'.ownsRow base e size v' (n+m) (xs++news)->w.grownBy w' v.ownBlock->AppAt w v v' (n+m)->wpList P ops Q rest (a.put o.dst v') w'):wpList P ops Q (o::rest) a w:=
 wpList_plain hgd fun _ hK=>wp_append_where w s x t ho base e i z size bytes ht hi hz hsize hby hzs hsz v n xs hs hown ad m c news hx hl hnews h1 h63 hbytes hbase hm fun v' w' h2 h3 h4=>hK _ _ (h v' w' h2 h3 h4)
theorem step_append_own0 {P:Program} {ops:Array Oper} {o:Oper} {a:Act} {w:World} {K:Act->World->Prop} {Q:Exit->Act->World->Prop} {E:Prop} (hgd:o.guard=none) (s x:Operand) (t:TypeId)
 (ho:o.op = .call { callee:= .builtin .append,args:= #[s,x],argTypes:= #[t,t] })
 (base:Nat) (e:TypeId) (i:TypeInfo) (z:Value) (size bytes:Nat) (ht:P.underlying t=some (.slice e)) (hi:P.info? e=some i) (hz:i.zero=some z)
 (hsize:i.size=size) (hby:i.bytes=bytes) (hzs:z.cells.size=size) (hsz:0<size)
 (v:Value) (n:Nat) (xs:List Value) (hs:a.eval s=v) (hown:w.ownsRow base e size v n xs)
 (ad:Addr) (m c:Nat) (news:List Value) (hx:a.eval x = .slice (some ad) m c) (hl:news.length=m*size) (hnews: ∀ j u,news[j]? = some u->w.cell? (ad.add j)=some u) (h1: ∀ u ∈ news,u.oneCell'=true)
 (h63:n+m<=maxLen) (hbytes:(n+m)*bytes<=140737488355328) (hbase:base<=w.heap.size)
 (h: ∀ v' w',w'.ownsRow base e size v' (n+m) (xs++news)->w.grownBy w' v.ownBlock->(v' = .slice none 0 0 ↔ v = .slice none 0 0/\m=0)->K (a.put o.dst v') w'):
 if Region.wanted o (yielded ops a.tmps)=true then Oper.wp P o a w K Q else E:=by
 rw [if_pos (by simp [Region.wanted,hgd])];exact wp_append_own w s x t ho base e i z size bytes ht hi hz hsize hby hzs hsz v n xs hs hown ad m c news hx hl hnews h1 h63 hbytes hbase h
def AptV (a b:Value):Prop:=a.ownBlock=none∨a.ownBlock≠b.ownBlock
theorem SlV.alloc0 {w:World} {B:Nat} {T:TypeId} {v:Value} {us:List Value} (h:SlV w B T v us) (o:Obj):SlV (w.alloc o) B T v us:=h.same fun k hk=>Lib.alloc_old w o k (h.lt k hk).2
theorem kind_nf {w:World} {k p:Nat} {a b:Array Value} {S T:TypeId} {f g:Nat×Nat} (h1:w.heap[k]? = some (.cells a S f)) (h2:w.heap[p]? = some (.cells b T g)) (hne:S≠T):k≠p:=fun e=>by
 rw [e,h2] at h1
 injection h1 with h1
 injection h1 with _ h1 _
 exact hne h1.symm
def cellsR (Q:List (ByteArray×Value)):List Value:=Q.flatMap fun q=>[.string q.1,q.2]
theorem cellsR_app (a b:List (ByteArray×Value)):cellsR (a++b)=cellsR a++cellsR b:=by simp [cellsR]
theorem cellsR_one (N:ByteArray) (V:Value):cellsR [(N,V)]=[.string N,V]:=rfl
theorem cellsR_at (L:List (ByteArray×Value)): ∀ j (h:j<L.length),(cellsR L)[j*2]? = some (.string L[j].1)/\(cellsR L)[j*2+1]? = some L[j].2:=by
 induction L with
 | nil=>intro j h;simp at h
 | cons a L ih=>
   intro j h;have e:cellsR (a::L) = .string a.1::a.2::cellsR L:=rfl
   cases j with
   | zero=>rw [e];exact ⟨rfl,rfl⟩
   | succ j=>
     have:=ih j (by simpa using h)
     rw [e,show (j+1)*2=j*2+1+1 by omega]
     simpa using this
def RdO (w:World) (B:Nat) (Q:List (ByteArray×Value)) (L:List Ru):Prop:=
 Q.length=L.length/\(∀ j (h1:j<Q.length) (h2:j<L.length),Q[j].1=⟨L[j].name.toArray⟩/\SlV w B 9 Q[j].2 (cellsT L[j].vals))/\(Q.map (·.2)).Pairwise AptV
theorem RdO.nil (w:World) (B:Nat):RdO w B [] []:=⟨rfl,fun j h=>by simp at h,List.Pairwise.nil⟩
theorem RdO.keptB {w w':World} {B:Nat} {Q:List (ByteArray×Value)} {L:List Ru} (h:RdO w B Q L) (hk: ∀ k:Nat,(∃ cur fz,w.heap[k]? = some (Obj.cells cur 9 fz))->w'.heap[k]? = w.heap[k]?):RdO w' B Q L:=by
 obtain ⟨h1,h2,h3⟩:=h
 refine ⟨h1,fun j a b=>⟨(h2 j a b).1,?_⟩,h3⟩
 have hs:=(h2 j a b).2;refine hs.same fun k hk2=>hk k ?_
 rcases hs with ⟨e,_⟩ | ⟨g,o,c,cur,e,_,hg,_⟩
 ·rw [e] at hk2;simp [Value.ownBlock] at hk2
 ·rw [e] at hk2
  simp [Value.ownBlock] at hk2;subst hk2;exact ⟨cur,_,hg⟩
theorem RdO.kept {w w':World} {B:Nat} {Q:List (ByteArray×Value)} {L:List Ru} (h:RdO w B Q L) (hb:Below w.heap.size w w'):RdO w' B Q L:=
 h.keptB fun k ⟨_,_,hk⟩=>hb.block k (Array.getElem?_eq_some_iff.1 hk).1
theorem RdO.old {w:World} {B:Nat} {Q:List (ByteArray×Value)} {L:List Ru} (h:RdO w B Q L): ∀ q ∈ Q,∀ k,q.2.ownBlock=some k->B<=k/\k<w.heap.size:=by
 intro q hq k hk;obtain ⟨j,hj,rfl⟩:=List.getElem_of_mem hq
 exact ((h.2.1 j hj (by rw [<- h.1];exact hj)).2).lt k hk
theorem RdO.snoc {w:World} {B:Nat} {Q:List (ByteArray×Value)} {L:List Ru} {r:Ru} {V:Value} (h:RdO w B Q L) (hV:SlV w B 9 V (cellsT r.vals)) (ha: ∀ q ∈ Q,AptV q.2 V):RdO w B (Q++[(⟨r.name.toArray⟩,V)]) (L++[r]):=by
 obtain ⟨h1,h2,h3⟩:=h
 refine ⟨by simp [h1],fun j a b=> ?_,?_⟩
 ·by_cases hj:j<Q.length
  ·rw [List.getElem_append_left hj,List.getElem_append_left (by omega)]
   exact h2 j hj (by omega)
  ·have e:j=Q.length:=by simp at a;omega
   subst e;rw [List.getElem_append_right (by omega),List.getElem_append_right (by omega)];simp [h1];exact hV
 ·rw [List.map_append,List.pairwise_append]
  refine ⟨h3,List.pairwise_singleton _ _,fun a ha2 b hb=> ?_⟩
  obtain ⟨q,hq,rfl⟩:=List.mem_map.1 ha2
  obtain rfl:=List.mem_singleton.1 hb;exact ha q hq
theorem slv_tx {w:World} {B:Nat} {T:TypeId} {v:Value} {L:List (List UInt8)} (h:SlV w B T v (cellsT L)):TxAt w v L:=by
 rcases h with ⟨rfl,e⟩ | ⟨g,o,c,cur,rfl,_,hg,h1,h2,h3,h4⟩
 ·have:L=[]:=by simpa [cellsT] using e
  subst this;exact tx_nil w
 ·rw [cellsT_len] at h1 ⊢
  refine tx_of h1 h3 fun j hj=> ?_
  rw [Lib.cell_of_heap hg];exact h4 j _ (by simp [cellsT,hj])
def PoAt (w:World) (v:Value) (L:List Ru):Prop:=
 ∃ a cap,v = .slice a L.length cap/\L.length<=cap/\cap<=maxLen /\ ∀ j (hj:j<L.length),∃ b off u,a=some ⟨b,off,none⟩/\w.cell? ⟨b,off+j*2,none⟩=some (.string ⟨L[j].name.toArray⟩)/\w.cell? ⟨b,off+j*2+1,none⟩=some u/\TxAt w u L[j].vals
theorem PoAt.view {w:World} {v:Value} {L:List Ru} (h:PoAt w v L): ∃ a cap,v = .slice a L.length cap/\L.length<=cap/\cap<=maxLen /\ ∀ j (hj:j<L.length),∃ b off u,a=some ⟨b,off,none⟩/\w.cell? ⟨b,off+j*2,none⟩=some (.string ⟨L[j].name.toArray⟩)/\w.cell? ⟨b,off+j*2+1,none⟩=some u/\TxAt w u L[j].vals:=h
theorem po_nil (w:World):PoAt w (.slice none 0 0) []:=⟨none,0,rfl,Nat.le_refl _,by decide,fun j hj=>by simp at hj⟩
theorem PoAt.kept {w w':World} {v:Value} {L:List Ru} (h:PoAt w v L) (hb:Below w.heap.size w w'):PoAt w' v L:=by
 obtain ⟨a,cap,h1,h2,h3,h4⟩:=h
 refine ⟨a,cap,h1,h2,h3,fun j hj=> ?_⟩
 obtain ⟨b,off,u,e,c1,c2,c3⟩:=h4 j hj
 exact ⟨b,off,u,e,kept_cell c1 hb,kept_cell c2 hb,c3.kept hb⟩
theorem own_po {w:World} {B B':Nat} {e:TypeId} {v:Value} {L:List Ru} {Q:List (ByteArray×Value)} (h:w.ownsRow B e 2 v L.length (cellsR Q)) (hq:RdO w B' Q L):PoAt w v L:=by
 have h2:=h.2;rcases h2 with ⟨hv,hn⟩ | ⟨g,cap,cur,rfl,hg,hrow,hnc,hcm,hcs,htake⟩
 ·obtain rfl:=List.eq_nil_of_length_eq_zero hn
  rw [hv];exact po_nil w
 ·refine ⟨_,cap,rfl,hnc,hcm,fun j hj=> ?_⟩
  have hjq:j<Q.length:=by rw [hq.1];exact hj
  obtain ⟨e1,e2⟩:=hq.2.1 j hjq hj
  refine ⟨g,0,Q[j].2,rfl,?_,?_,slv_tx e2⟩
  ·rw [Nat.zero_add,h.cellAt _ (by omega),<- e1];exact (cellsR_at Q j hjq).1
  ·rw [Nat.zero_add,h.cellAt _ (by omega)];exact (cellsR_at Q j hjq).2
theorem enters_blank10: ∀ args w,(callFunc 36 args).run Tryz.prog w = .ok (.enter 36 args) w:=enters_of Tryz.func36 (by kernel_rfl) rfl
theorem fields10 (s:ByteArray) (w:World) (hs:s.size<=4294967296):
 Calls Tryz.prog 35 #[.string s,.func (.func 36) #[] #[]] w fun e w'=> ∃ A,e = .returned (.slice (some ⟨A,0,none⟩) (words9 s.data.toList).length (words9 s.data.toList).length)/\w.heap.size<=A /\
  w'.ownsRow w.heap.size 9 1 (.slice (some ⟨A,0,none⟩) (words9 s.data.toList).length (words9 s.data.toList).length) (words9 s.data.toList).length (cellsT (words9 s.data.toList))/\Below w.heap.size w w':=by
 have h:=Tryz.strings_FieldsFunc_grows 36 #[] enters_blank10 p9 s w hs (fun W x hx hb=>blank10 x W hx);rw [fields_words,List.length_map,List.map_map] at h
 exact h
def idxR (L:List Ru) (n:List UInt8):Int:=match L.findIdx? fun r=>decide (r.name=n) with
 | some k=>(k:Int)
 | none=> -1
theorem idx_has (L:List Ru) (n:List UInt8):decide (idxR L n<0) = !hasR L n:=by
 unfold idxR hasR
 cases h:L.findIdx? fun r=>decide (r.name=n) with
 | none=>
   rw [List.findIdx?_eq_none_iff] at h;have:(L.any fun r=>decide (r.name=n))=false:=by rw [List.any_eq_false];intro r hr;simpa using h r hr
   simp [this]
 | some k=>
   rw [List.findIdx?_eq_some_iff_getElem] at h;obtain ⟨hk,h1,_⟩:=h
   have:(L.any fun r=>decide (r.name=n))=true:=List.any_eq_true.2 ⟨L[k],List.getElem_mem hk,h1⟩
   simp [this]
theorem ret_b10 {x y:Bool} (h:x=y):Ending.returned (.bool x) = .returned (.bool y):=by rw [h]
theorem str_beq10 (x y:ByteArray):(x.toList==y.toList)=decide (x.data.toList=y.data.toList):=by
 rw [Lib.toList_data,Lib.toList_data,Bool.eq_iff_iff];simp
theorem isName10 (p:Nat) (M N:ByteArray) (a:Option Addr) (n c:Nat) (w:World) (hp:w.cell? ⟨p,0,none⟩=some (.string M)):
 Calls Tryz.prog 39 #[.agg #[.string N,.slice a n c],.pointer (some ⟨p,0,none⟩)] w fun e w'=>e = .returned (.bool (decide (N.data.toList=M.data.toList)))/\Below w.heap.size w w':=by
 have hb:=(Below.refl _ w).alloc (Nat.le_refl _) (.cells #[.string N,.slice a n c] 55);have hp2:=kept_cell hp hb;have HB:=hid hb;have HE:=hid (str_beq10 N M);clear hb
 go_enter Tryz.func39,Tryz.ntmps39
 go_wp2_with fail
 go_ret
 exact ⟨ret_b10 (by rw [<- HE.out]),HB.out⟩
theorem enters_place10: ∀ args w,(callFunc 39 args).run Tryz.prog w = .ok (.enter 39 args) w:=enters_of Tryz.func39 (by kernel_rfl) rfl
theorem indexF10 (p:Nat) (M:ByteArray) (v:Value) (L:List Ru) (w:World) (hv:PoAt w v L) (hl:L.length<=1000000) (hp:w.cell? ⟨p,0,none⟩=some (.string M)):
 Calls Tryz.prog 38 #[v,.func (.func 39) #[] #[.pointer (some ⟨p,0,none⟩)]] w fun e w'=>e = .returned (.int .i64 (idxR L M.data.toList))/\Below w.heap.size w w':=by
 obtain ⟨a1,c1,rfl,hc1,hm1,hv1⟩:=hv.view
 have HV:=hid hv1;have HP:=hid hp;obtain ⟨n,hn⟩: ∃ n,n=L.length:=⟨_,rfl⟩
 have HN:=hid hn;rw [<- hn] at hc1 hl ⊢;have eg:=enters_place10;clear hv hv1 hn hp
 go_enter Tryz.func38,Tryz.ntmps38
 go_wp2_with fail
 go_loopw [8] (fun v8 wr=> ∃ k:Nat,k<=n/\v8 = .int .i64 k/\Hid ((∀ j (h:j<L.length),j<k->L[j].name≠M.data.toList)/\Below w.heap.size w wr)) (fun v8 _=>n - (intOf v8).toNat)
 case atStart=>exact ⟨0,Nat.zero_le _,rfl,fun j _ h=>by omega,Below.refl _ w⟩
 case round=>
  obtain ⟨k,hk,rfl,HR⟩:=hrel
  by_cases hlt:k<n
  ·have hkL:k<L.length:=by have:=HN.out;omega
   obtain ⟨b1,o1,u,rfl,e1,e2,e3⟩:=HV.out k hkL
   obtain ⟨ua,uc,rfl,q1,q2,q3⟩:=e3
   clear q1 q2 q3;obtain ⟨N,hNx⟩: ∃ V:ByteArray,V=⟨L[k].name.toArray⟩:=⟨_,rfl⟩
   obtain ⟨un,hun⟩: ∃ un,un=L[k].vals.length:=⟨_,rfl⟩
   rw [<- hNx] at e1;rw [<- hun] at e2;have hNl:N.data.toList=L[k].name:=by rw [hNx]
   have f1:=kept_cell e1 HR.out.2;have f2:=kept_cell e2 HR.out.2;have HCL:=hid (isName10 p M N ua un uc wr (kept_cell HP.out HR.out.2));have HKL:=hid hkL;have HNL:=hid (show ∃ h:k<L.length,N.data.toList=L[k].name from ⟨hkL,hNl⟩);obtain ⟨y,hy⟩: ∃ y,y=decide (N.data.toList=M.data.toList):=⟨_,rfl⟩
   have HY:=hid hy;rw [<- hy] at HCL;have hin:(k:Int)<(n:Int):=by omega
   clear e1 e2 hNx hNl hun hkL hy
   go_wp2_with fail
   refine HCL.out.mono ?_;rintro e w2 ⟨rfl,hb2⟩
   have HB2:=hid (below2 HR.out.2 hb2);clear hb2
   cases y with
   | false=>
     go_wp2_with fail
     go_roundw
     case rel=>
      have e4:(∀ j (h:j<L.length),j<k+1->L[j].name≠M.data.toList)/\Below w.heap.size w w2:=⟨fun j h hj=>by
       by_cases hjk:j=k
       ·subst hjk
        obtain ⟨_,hnl⟩:=HNL.out
        rw [<- hnl];have:=HY.out;simpa using this
       ·exact HR.out.1 j h (by omega),HB2.out⟩
      first
       | exact ⟨k+1,by omega,by go_num,e4⟩
       | ((repeat apply Exists.intro);refine ⟨?_,rfl⟩;exact ⟨k+1,by omega,by go_num,e4⟩)
       | ((repeat apply Exists.intro);exact ⟨⟨k+1,by omega,by go_num,e4⟩,rfl⟩)
     case measure=>simp [intOf];omega
   | true=>
     have HI:=hid (show idxR L M.data.toList=(k:Int) by
      unfold idxR;have:L.findIdx? (fun r=>decide (r.name=M.data.toList))=some k:=by
       rw [List.findIdx?_eq_some_iff_getElem];refine ⟨HKL.out,?_,fun j hj=> ?_⟩
       ·obtain ⟨_,hnl⟩:=HNL.out
        rw [<- hnl];have:=HY.out;simpa using this
       ·simpa using HR.out.1 j (by have:=HKL.out;omega) hj
      rw [this])
     go_wp2_with fail
     go_ret
     rw [HI.out];exact ⟨rfl,HB2.out⟩
  ·obtain rfl:k=n:=by omega
   have HI:=hid (show idxR L M.data.toList = -1 by
    unfold idxR;have:L.findIdx? (fun r=>decide (r.name=M.data.toList))=none:=by
     rw [List.findIdx?_eq_none_iff];intro r hr;obtain ⟨j,hj,rfl⟩:=List.getElem_of_mem hr
     simpa using HR.out.1 j hj (by have:=HN.out;omega)
    rw [this])
   have HB:=hid HR.out.2;clear HR hk hlt
   go_wp2_with fail
   go_ret
   rw [HI.out];exact ⟨rfl,HB.out⟩
theorem place10 (v:Value) (rp:Bool) (L:List Ru) (M:ByteArray) (w:World) (hv:PoAt w v L) (hl:L.length<=1000000):
 Calls Tryz.prog 21 #[.agg #[v,.bool rp],.string M] w fun e w'=>e = .returned (.int .i64 (idxR L M.data.toList))/\Below w.heap.size w w':=by
 obtain ⟨a1,c1,rfl,_,_,_⟩:=hv.view
 have hb1:=(Below.refl _ w).alloc (Nat.le_refl _) (.cells #[.slice a1 L.length c1,.bool rp] 39);have hb2:=below2 hb1 ((Below.refl _ _).alloc (Nat.le_refl _) (.cells #[.string M] 9));obtain ⟨n,hn⟩: ∃ n,n=L.length:=⟨_,rfl⟩
 obtain ⟨X,hX⟩: ∃ X,X=(w.alloc (.cells #[.slice a1 L.length c1,.bool rp] 39)).alloc (.cells #[.string M] 9):=⟨_,rfl⟩
 have hc:X.cell? ⟨w.heap.size+1,0,none⟩=some (.string M):=by rw [hX];simp
 rw [<- hX] at hb2;have HI:=hid (indexF10 (w.heap.size+1) M (.slice a1 L.length c1) L X (hv.kept hb2) hl hc);have HB:=hid hb2;rw [hX,<- hn] at HI
 rw [hX,<- hn] at HB
 rw [<- hn];clear hX hc hb1 hb2 hv hl hn
 go_enter Tryz.func21,Tryz.ntmps21
 go_wp2_with fail
 refine HI.out.mono ?_;rintro e w2 ⟨rfl,hb2⟩
 have HB2:=hid (below2 HB.out hb2);clear hb2
 go_wp2_with fail
 go_ret
 exact ⟨rfl,HB2.out⟩
def TwR (w:World) (b:Nat) (N:ByteArray) (V:Value):Prop:=w.heap[b]? = some (.cells #[.string N,V] 55 (0,0))
theorem TwR.range {w:World} {b:Nat} {N:ByteArray} {V:Value} (h:TwR w b N V):w.rangeAt b 0 [.string N,V]:=fun j u hu=>by
 rw [Nat.zero_add,Lib.cell_of_heap h]
 match j,hu with
 | 0,hu=>simpa using hu
 | 1,hu=>simpa using hu
 | j+2,hu=>simp at hu
theorem TwR.cells {w:World} {b:Nat} {N:ByteArray} {V:Value} (h:TwR w b N V):w.cell? ⟨b,0,none⟩=some (.string N)/\w.cell? ⟨b,1,none⟩=some V/\w.frozen? ⟨b,0,none⟩=false/\w.frozen? ⟨b,1,none⟩=false:=
 ⟨by rw [Lib.cell_of_heap h];rfl,by rw [Lib.cell_of_heap h];rfl,Lib.frozen_of_heap h 0,Lib.frozen_of_heap h 1⟩
theorem TwR.set {w:World} {b:Nat} {N N':ByteArray} {V V':Value} (h:TwR w b N V):TwR ((w.setCell ⟨b,0,none⟩ (.string N')).setCell ⟨b,1,none⟩ V') b N' V':=by
 have h1:=Lib.heap_setCell_same h (i:=0) (.string N');have h2:=Lib.heap_setCell_same h1 (i:=1) V';unfold TwR;rw [h2];rfl
theorem below_set2 {B:Nat} {w0 w:World} {b:Nat} {x y:Value} (h:Below B w0 w) (hb:B<=b):Below B w0 ((w.setCell ⟨b,0,none⟩ x).setCell ⟨b,1,none⟩ y):=
 (h.setCell (p:=⟨b,0,none⟩) hb x).setCell (p:=⟨b,1,none⟩) hb y
theorem results_r2 {fn:Func} {p q:Tmp} (h:fn.results = #[.cell p 55,.tmp q]) (tmps:Array Value) (w:World) (b:Nat) (N:ByteArray) (a:Option Addr) (n c:Nat) (hp:tmps.getD p undef = .pointer (some ⟨b,0,none⟩)) (hc:w.rangeAt b 0 [.string N,.slice a n c]):(results fn tmps).run Tryz.prog w = .ok (.tuple #[.agg #[.string N,.slice a n c],tmps.getD q undef]) w:=by
 rw [Array.getD_eq_getD_getElem?] at hp;simp only [results,h]
 simp [Sem.run_bind,Result.andThen,hp,asAddr,run_loadVar_mid w b 0 55 [.string N,.slice a n c] _ hc Tryz.underlying55 rfl (by kernel_rfl)]
def tlV (A n:Nat):Value:= .slice (some ⟨A,if n=1 then 0 else 1,none⟩) (n - 1) (n - 1)
theorem slice_words (A n:Nat) (w:World) (hn:1<=n):(Instr.sliceAt 22 (.slice (some ⟨A,0,none⟩) n n) (some (.int .i64 1)) none none).run Tryz.prog w = .ok (tlV A n) w:=by
 have und:Tryz.prog.underlying 22=some (.slice (Tryz.prog.elem 22)):=by kernel_rfl
 have sz:(sizeOf (Tryz.prog.elem 22)).run Tryz.prog w = .ok 1 w:=by kernel_rfl
 rw [run_sliceAt_slice (h:=und),run_slice_l (ht:=und) (h0:=by omega) (h1:=by omega),sz];simp only [Result.andThen,sliced,tlV]
 by_cases h:n=1
 ·simp [h]
 ·rw [if_neg (by simp;omega)]
  simp [h,Addr.add_lit]
theorem tl_slv {w:World} {B A n:Nat} {x:List UInt8} {t:List (List UInt8)} (h:w.ownsRow B 9 1 (.slice (some ⟨A,0,none⟩) n n) n (cellsT (x::t))) (hn:n=t.length+1):SlV w B 9 (tlV A n) (cellsT t):=by
 rcases h.2 with ⟨e,_⟩ | ⟨g,cap,cur,e,hg,hrow,hnc,hcm,hcs,htake⟩
 ·cases e
 ·injection e with e1 _ e3
  injection e1 with e1
  injection e1 with e4 _
  subst e4 e3;unfold tlV;refine .inr ⟨A,if n=1 then 0 else 1,n - 1,cur,by rw [cellsT_len];congr 1;omega,hg,hrow,by rw [cellsT_len];omega,by split<;>omega,by omega,fun j u hu=> ?_⟩
  have hj:j<t.length:=by have:=(List.getElem?_eq_some_iff.1 hu).1;simpa [cellsT] using this
  rw [if_neg (by omega)];have h1:=h.cellAt (g:=A) (1+j) (by omega)
  rw [Lib.cell_of_heap hrow] at h1;rw [h1,show 1+j=j+1 by omega]
  exact hu
theorem SlV.low0 {w:World} {B B':Nat} {T:TypeId} {v:Value} {us:List Value} (h:SlV w B T v us) (hb:B'<=B):SlV w B' T v us:=by
 rcases h with h | ⟨g,o,c,cur,e,hB,h1⟩
 ·exact .inl h
 ·exact .inr ⟨g,o,c,cur,e,Nat.le_trans hb hB,h1⟩
def RdPost10 (l:List UInt8) (w:World) (e:Ending) (w':World):Prop:=
 match words9 l with
 | []=>e = .returned (.tuple #[.agg #[.string ⟨#[]⟩,.slice none 0 0],.bool false])/\Below w.heap.size w w'
 | x::t=> ∃ a n c,e = .returned (.tuple #[.agg #[.string ⟨(low x).toArray⟩,.slice a n c],.bool true])/\SlV w' w.heap.size 9 (.slice a n c) (cellsT t)/\Below w.heap.size w w'
theorem read10 (s:ByteArray) (w:World) (hs:s.size<=1000000000):
 Calls Tryz.prog 20 #[.string s] w (RdPost10 s.data.toList w):=by
 have HF:=hid (fun X=>fields10 s X (by omega));have HB0:=hid (show Below w.heap.size w (w.alloc (.cells #[.string ⟨#[]⟩,.slice none 0 0] 55)) from (Below.refl _ w).alloc (Nat.le_refl _) _);have HT0:=hid (show TwR (w.alloc (.cells #[.string ⟨#[]⟩,.slice none 0 0] 55)) w.heap.size ⟨#[]⟩ (.slice none 0 0) from heap_alloc_new w _);unfold RdPost10
 cases hw:words9 s.data.toList with
 | nil=>
   rw [hw] at HF;clear hw hs
   go_enter Tryz.func20,Tryz.ntmps20
   go_wp2_with fail
   refine (HF.out _).mono ?_;rintro e w1 ⟨A,rfl,hA,hown,hb⟩
   have HB:=hid (below2 HB0.out hb);have HT:=hid (row_kept HT0.out hb);obtain ⟨c0,c1,z0,z1⟩:=TwR.cells HT.out
   clear hown hb HF HT0 hA
   go_wp2_with fail
   refine bodyPost_ret (results_r2 rfl _ _ w.heap.size ⟨#[]⟩ none 0 0 rfl (TwR.set HT.out).range) rfl ⟨rfl,below_set2 HB.out (Nat.le_refl _)⟩
 | cons x t=>
   have hx:x.length<=1000000000:=by
    have:=(wds_len s.data.toList []).2 x (by rw [show wdsF s.data.toList []=words9 s.data.toList from rfl,hw];simp)
    rw [<- Lib.size_eq] at this;simp at this;omega
   have htl:t.length<=1000000001:=by
    have:=(wds_len s.data.toList []).1;rw [show wdsF s.data.toList []=words9 s.data.toList from rfl,hw,<- Lib.size_eq] at this;simp at this;omega
   rw [hw] at HF;obtain ⟨X,hX⟩: ∃ X:ByteArray,X=⟨x.toArray⟩:=⟨_,rfl⟩
   have hXl:X.data.toList=x:=by rw [hX]
   have HLW:=hid (fun Z=>lower_any X Z (by rw [Lib.size_eq,hXl];omega));rw [hXl] at HLW;obtain ⟨N,hN⟩: ∃ N:ByteArray,N=⟨(low x).toArray⟩:=⟨_,rfl⟩
   rw [<- hN] at HLW;obtain ⟨n,hn⟩: ∃ n,n=(x::t).length:=⟨_,rfl⟩
   have HN:=hid (show n=t.length+1 by rw [hn];rfl);have hn1:1<=n:=by rw [hn];simp
   have hnb:n<=1000000002:=by rw [hn];simp;omega
   rw [<- hn] at HF;have HXC:=hid (show (cellsT (x::t))[0]? = some (.string X) by rw [hX];rfl);dsimp only;rw [<- hN];clear hn hw hs hX hXl hN hx htl
   go_enter Tryz.func20,Tryz.ntmps20
   go_wp2_with fail
   refine (HF.out _).mono ?_;rintro e w1 ⟨A,rfl,hA,hown,hb⟩
   have HB:=hid (below2 HB0.out hb);have HT:=hid (row_kept HT0.out hb);have HO:=hid hown;have cA:w1.cell? ⟨A,0,none⟩=some (.string X):=by
    have:=hown.cellAt (g:=A) 0 (by omega)
    rw [this];exact HXC.out
   have hsl: ∀ wx,(Instr.sliceAt 22 (.slice (some ⟨A,0,none⟩) n n) (some (.int .i64 1)) none none).run Tryz.prog wx = .ok (tlV A n) wx:=fun wx=>slice_words A n wx hn1
   obtain ⟨a,ln,lc,hV⟩: ∃ a ln lc,tlV A n = .slice a ln lc:=⟨_,_,_,rfl⟩
   have HV:=hid (tl_slv hown HN.out);rw [hV] at HV hsl;have hne1:((n:Int)==0)=false:=by rw [beq_eq_false_iff_ne];omega
   clear hown hb HF HT0 hA hV;have hbb:w.heap.size<w1.heap.size:=(Array.getElem?_eq_some_iff.1 HT.out).1
   go_wp2_with fail
   go_region_with (first | (go_at_call 37;refine (HLW.out _).mono ?_;rintro e w2 ⟨rfl,hb2x⟩;have hb2:Below w1.heap.size w1 w2:=(Below.refl _ w1).drew.trans hb2x;obtain ⟨c0,c1,z0,z1⟩:=TwR.cells (row_kept HT.out hb2)))
   all_goals
    have HS:=hid (show SlV ((w2.setCell ⟨w.heap.size,0,none⟩ (.string N)).setCell ⟨w.heap.size,1,none⟩ (.slice a ln lc)) w.heap.size 9 (.slice a ln lc) (cellsT t) from by
     have h1:=HV.out.same (w':=(w2.setCell ⟨w.heap.size,0,none⟩ (.string N)).setCell ⟨w.heap.size,1,none⟩ (.slice a ln lc)) fun k hk=>by
      have h2:=HV.out.lt k hk;have h3:k≠w.heap.size:=by have:=h2.1;simp at this;omega
      rw [heap_setCell_other _ ⟨w.heap.size,1,none⟩ k _ h3,heap_setCell_other _ ⟨w.heap.size,0,none⟩ k _ h3,hb2.block k h2.2]
     exact h1.low0 (by simp))
    have HB2:=hid (below_set2 (below2 HB.out hb2) (Nat.le_refl _) (x:= .string N) (y:= .slice a ln lc));have HT2:=hid (TwR.set (N':=N) (V':= .slice a ln lc) (row_kept HT.out hb2))
    go_wp2_with fail
    exact bodyPost_ret (results_r2 rfl _ _ w.heap.size N a ln lc rfl (TwR.range HT2.out)) rfl ⟨a,ln,lc,rfl,HS.out,HB2.out⟩
end Go.Proofs.YtijpkalkfbejeaaGreatDoor
