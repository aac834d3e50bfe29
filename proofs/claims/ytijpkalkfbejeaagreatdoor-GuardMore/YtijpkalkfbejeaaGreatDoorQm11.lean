/- Walks and plain facts. -/
import Derived.Test.YtijpkalkfbejeaaGreatDoorQm10
set_option linter.unusedSimpArgs false
set_option linter.unusedVariables false
set_option maxHeartbeats 16000000
set_option maxRecDepth 100000

namespace Go.Proofs.YtijpkalkfbejeaaGreatDoor
open Go.RowKit
theorem nums_row {w:World} {g:Nat} {x:List Nat} {t:TypeId} {f:Nat×Nat} (h:w.heap[g]? = some (.cells (cells16 x).toArray t f)):Nums w g 0 x:=fun j hj=>by
 rw [Nat.zero_add,cell_of_row w g j _ t f h]
 simp [cells16,hj]
theorem zeros_le (l:List Nat):zeros l<=l.length:=by
 induction l with
 | nil=>simp [zeros]
 | cons a l ih=>rw [zeros];split<;>simp<;>omega
theorem zeros_hit {l:List Nat} {e:Nat} (h:e<l.length) (h0:l[e]=0):zeros (l.drop e)=zeros (l.drop (e+1))+1:=by
 rw [List.drop_eq_getElem_cons h,zeros,if_pos h0]
theorem zeros_miss {l:List Nat} {e:Nat} (h:e<l.length) (h0:l[e]≠0):zeros (l.drop e)=0:=by
 rw [List.drop_eq_getElem_cons h,zeros,if_neg h0]
theorem lrunN_take {i fr tu:Nat} {x:List Nat} (h:i<x.length) (hz:max (tu - fr) 1<zeros (x.drop i)):lrunN 0 i fr tu (x.drop i)=lrunN 0 (i+1) i (i+zeros (x.drop i)) (x.drop (i+1)):=by
 rw [List.drop_eq_getElem_cons h] at hz ⊢;rw [lrunN,if_pos hz]
theorem lrunN_skip {i fr tu:Nat} {x:List Nat} (h:i<x.length) (hz: ¬ max (tu - fr) 1<zeros (x.drop i)):lrunN 0 i fr tu (x.drop i)=lrunN 0 (i+1) fr tu (x.drop (i+1)):=by
 rw [List.drop_eq_getElem_cons h] at hz ⊢;rw [lrunN,if_neg hz]
theorem ret_ii {a b c d:Int} (h:a=b) (g:c=d):Ending.returned (.tuple #[.int .i64 a,.int .i64 c]) = .returned (.tuple #[.int .i64 b,.int .i64 d]):=by rw [h,g]
theorem longestRun_any (x:List Nat) (w:World) (h8:x.length=8):
 Calls Tryz.prog 248 #[agg8 x] w fun e w'=>e = .returned (.tuple #[.int .i64 ((lrun x).1:Nat),.int .i64 ((lrun x).2:Nat)])/\Below w.heap.size w w':=by
 have HN0:=hid (nums_row (x:=x) (heap_alloc_new w (.cells (cells16 x).toArray 152 (0,0))));unfold agg8
 go_enter Tryz.func248,Tryz.ntmps248
 go_wp2
 have HB0:=hid ((Below.refl _ w).alloc (Nat.le_refl _) (.cells (cells16 x).toArray 152 (0,0)))
 go_loopg [4,5,8] 8 (fun g fv tv iv wr=> ∃ i fr tu:Nat,i+g=8/\fv = .int .i64 fr/\tv = .int .i64 tu/\iv = .int .i64 i/\fr<=tu/\tu<=8/\lrunN 0 i fr tu (x.drop i)=lrun x/\Nums wr w.heap.size 0 x/\Below w.heap.size w wr)
 case atStart=>exact ⟨0,0,0,by omega,rfl,rfl,rfl,by omega,by omega,rfl,HN0.out,HB0.out⟩
 case round=>
  obtain ⟨i,fr,tu,hig,rfl,rfl,rfl,hft,ht8,hlr,hnums,hbw⟩:=hrel
  have HL:=hid hlr;have HN:=hid hnums;clear hlr hnums
  cases gk with
  | zero=>
    have HR:=hid (show lrun x=(fr,tu) by rw [<- HL.out,List.drop_eq_nil_of_le (by omega)];rfl)
    go_wp2
    go_ret2
    exact ⟨ret_ii (by rw [HR.out]) (by rw [HR.out]),hbw⟩
  | succ g=>
    have hi8:(i:Int)<8:=by omega
    go_wp2
    go_loopg [7] (8 - i) (fun h ev wx=> ∃ e:Nat,i<=e/\e+h=8/\ev = .int .i64 e/\e+zeros (x.drop e)=i+zeros (x.drop i)/\wx=wr)
    case atStart=>exact ⟨i,by omega,by omega,rfl,rfl,rfl⟩
    case round=>
     obtain ⟨e,hie,heh,rfl,hze,rfl⟩:=hrel
     have HZ:=hid hze;clear hze;by_cases hstop:e<8/\x.getD e 0=0
     ·obtain ⟨he8,hx0⟩:=hstop
      have hex:e<x.length:=by omega
      have hx0':x[e]=0:=by simpa [List.getD,hex] using hx0
      have hcell:=HN.out e hex;rw [hx0',Nat.zero_add] at hcell
      have HZ2:=hid (show e+1+zeros (x.drop (e+1))=i+zeros (x.drop i) by rw [<- HZ.out,zeros_hit hex hx0'];omega);have he8':(e:Int)<8:=by omega
      clear hx0 hx0'
      go_wp2
      go_roundg (8 - (e+1))
      case measure=>omega
      case rel=>exact ⟨e+1,by omega,by omega,by go_num,HZ2.out,rfl⟩
     ·have hz0:zeros (x.drop e)=0:=by
       by_cases he8:e<8
       ·have hex:e<x.length:=by omega
        refine zeros_miss hex (fun h=>hstop ⟨he8,?_⟩);simp [List.getD,hex,h]
       ·rw [List.drop_eq_nil_of_le (by omega)];rfl
      have hend:e=i+zeros (x.drop i):=by rw [<- HZ.out,hz0];omega
      have hei:e - i=zeros (x.drop i):=by omega
      have hte:e<=8:=by omega
      by_cases hA:max (tu - fr) 1<zeros (x.drop i)
      ·have HT:=hid (show lrunN 0 (i+1) i e (x.drop (i+1))=lrun x by
        have h:=lrunN_take (x:=x) (i:=i) (fr:=fr) (tu:=tu) (by omega) hA
        rw [HL.out,<- hend] at h
        exact h.symm)
       have hA1:(tu:Int) - (fr:Int)<(e:Int) - (i:Int):=by omega
       have hA2:(1:Int)<(e:Int) - (i:Int):=by omega
       have hA':max ((tu:Int) - (fr:Int)) 1<(e:Int) - (i:Int):=by omega
       clear hend hei hz0 hA;by_cases he8:e<8
       ·have hex:e<x.length:=by omega
        have hcell:=HN.out e hex;have hx0:((x[e]:Int)==0)=false:=by
         rw [beq_eq_false_iff_ne];intro h;apply hstop;refine ⟨he8,?_⟩
         simp [List.getD,hex];omega
        rw [Nat.zero_add] at hcell;generalize x[e]=xe at hcell hx0;have he8':(e:Int)<8:=by omega
        clear hstop
        go_wp2
        go_roundg g
        case measure=>omega
        case rel=>exact ⟨i+1,i,e,by omega,rfl,rfl,by go_num,hie,by omega,HT.out,HN.out,hbw⟩
       ·have he8':decide ((e:Int)<8)=false:=decide_eq_false (by omega)
        clear hstop
        go_wp2
        go_roundg g
        case measure=>omega
        case rel=>exact ⟨i+1,i,e,by omega,rfl,rfl,by go_num,hie,by omega,HT.out,HN.out,hbw⟩
      ·have HT:=hid (show lrunN 0 (i+1) fr tu (x.drop (i+1))=lrun x by
        have h:=lrunN_skip (x:=x) (i:=i) (fr:=fr) (tu:=tu) (by omega) hA
        rw [HL.out] at h;exact h.symm)
       have hA': ¬ (max ((tu:Int) - (fr:Int)) 1<(e:Int) - (i:Int)):=by omega
       clear hend hei hz0 hA;by_cases he8:e<8
       ·have hex:e<x.length:=by omega
        have hcell:=HN.out e hex;have hx0:((x[e]:Int)==0)=false:=by
         rw [beq_eq_false_iff_ne];intro h;apply hstop;refine ⟨he8,?_⟩
         simp [List.getD,hex];omega
        rw [Nat.zero_add] at hcell;generalize x[e]=xe at hcell hx0;have he8':(e:Int)<8:=by omega
        clear hstop
        go_wp2
        go_roundg g
        case measure=>omega
        case rel=>exact ⟨i+1,fr,tu,by omega,rfl,rfl,by go_num,hft,ht8,HT.out,HN.out,hbw⟩
       ·have he8':decide ((e:Int)<8)=false:=decide_eq_false (by omega)
        clear hstop
        go_wp2
        go_roundg g
        case measure=>omega
        case rel=>exact ⟨i+1,fr,tu,by omega,rfl,rfl,by go_num,hft,ht8,HT.out,HN.out,hbw⟩
theorem lrunN_le: ∀ (l:List Nat) (i fr tu:Nat),fr<=tu->tu<=i+l.length->(lrunN 0 i fr tu l).1<=(lrunN 0 i fr tu l).2/\(lrunN 0 i fr tu l).2<=i+l.length
 | [],i,fr,tu,h,h2=>⟨h,h2⟩
 | n::l,i,fr,tu,h,h2=>by
   rw [lrunN];have hz:=zeros_le (n::l);simp only [List.length_cons] at hz h2 ⊢;split
   ·have:=lrunN_le l (i+1) i (i+zeros (n::l)) (by omega) (by omega)
    omega
   ·have:=lrunN_le l (i+1) fr tu h (by omega)
    omega
theorem lrun_le (x:List Nat):(lrun x).1<=(lrun x).2/\(lrun x).2<=x.length:=by
 have:=lrunN_le x 0 0 0 (by omega) (by omega)
 rw [Nat.zero_add] at this;exact this
theorem slice8_to (b k:Nat) (hk:k<=8) (w:World):(Instr.sliceAt 152 (.pointer (some ⟨b,0,none⟩)) none (some (.int .i64 (k:Int))) none).run Tryz.prog w = .ok (.slice (some ⟨b,0,none⟩) k 8) w:=by
 have e8:Tryz.prog.arrayLen 152=8:=by kernel_rfl
 have es:(sizeOf (Tryz.prog.elem 152)).run Tryz.prog w = .ok 1 w:=by kernel_rfl
 rw [run_sliceAt_array_h w 152 ⟨b,0,none⟩ (by kernel_rfl) .i64 _ (by omega) (by rw [e8];omega),es,e8];simp only [Result.andThen,slicedAt]
 simp [Addr.add_mid]
def fromAd (b k:Nat):Addr:=if k=8 then ⟨b,0,none⟩ else ⟨b,k,none⟩
theorem slice8_rest (b k:Nat) (hk:k<=8) (w:World):(Instr.sliceAt 152 (.pointer (some ⟨b,0,none⟩)) (some (.int .i64 (k:Int))) none none).run Tryz.prog w = .ok (.slice (some (fromAd b k)) (8 - k) (8 - k)) w:=by
 have e8:Tryz.prog.arrayLen 152=8:=by kernel_rfl
 have es:(sizeOf (Tryz.prog.elem 152)).run Tryz.prog w = .ok 1 w:=by kernel_rfl
 rw [run_sliceAt_array_l w 152 ⟨b,0,none⟩ (by kernel_rfl) .i64 _ (by omega) (by rw [e8];omega),es,e8];simp only [Result.andThen,slicedAt]
 have e3:(if 8=(k:Int).toNat then (⟨b,0,none⟩:Addr) else (⟨b,0,none⟩:Addr).add ((k:Int).toNat*1))=fromAd b k:=by
  unfold fromAd;by_cases h:k=8
  ·subst h;rfl
  ·rw [if_neg (by omega),if_neg h,Addr.add_mid];simp
 rw [e3];simp
theorem Nums.take {w:World} {b:Nat} {x:List Nat} (h:Nums w b 0 x) (k:Nat):Nums w b 0 (x.take k):=fun j hj=>by
 have hj':j<x.length:=by simp at hj;omega
 rw [List.getElem_take];exact h j hj'
theorem Nums.drop {w:World} {b:Nat} {x:List Nat} (h:Nums w b 0 x) (k:Nat):Nums w b k (x.drop k):=fun j hj=>by
 have hj':k+j<x.length:=by simp at hj;omega
 rw [List.getElem_drop];have:=h (k+j) hj'
 rwa [Nat.zero_add] at this
theorem text6_same {x:List Nat} (h:(lrun x).1=(lrun x).2):text6 x=joined x:=by rw [text6,if_pos h]
theorem text6_run {x:List Nat} (h:(lrun x).1≠(lrun x).2):text6 x=joined (x.take (lrun x).1)++([58,58]++joined (x.drop (lrun x).2)):=by rw [text6,if_neg h]
theorem text6_any (x:List Nat) (w:World) (hg:Gd w) (h8:x.length=8) (h16: ∀ n ∈ x,n<65536):
 Calls Tryz.prog 238 #[agg8 x] w fun e w'=>e = .returned (.string ⟨(text6 x).toArray⟩)/\Below w.heap.size w w':=by
 have hrow:=heap_alloc_new w (.cells (cells16 x).toArray 152 (0,0));have hi8:(Tryz.prog.info? 152).map (·.size)=some (cells16 x).length:=by rw [cells16_len,h8];exact size8
 have HR0:=hid hrow;have HG0:=hid (hg.kept ((Below.refl _ w).alloc (Nat.le_refl _) (.cells (cells16 x).toArray 152 (0,0))));have HB0:=hid ((Below.refl _ w).alloc (Nat.le_refl _) (.cells (cells16 x).toArray 152 (0,0)));have H16:=hid h16;clear hg hrow h16;unfold agg8
 go_enter Tryz.func238,Tryz.ntmps238
 go_wp2_with (refine wpList_load_mid rfl 152 (.tmp 1) rfl w.heap.size 0 rfl (cells16 x) _ (range_row HR0.out) Tryz.underlying152 rfl hi8 ?_)
 refine (longestRun_any x _ h8).mono ?_;rintro e w1 ⟨rfl,hb1⟩
 have HN1:=hid ((nums_row HR0.out).kept hb1);have HG1:=hid (HG0.out.kept hb1);have HB1:=hid (below2 HB0.out hb1);clear hb1;obtain ⟨hle1,hle2⟩:=lrun_le x
 obtain ⟨fr,hfr⟩: ∃ fr,fr=(lrun x).1:=⟨_,rfl⟩
 obtain ⟨tu,hto⟩: ∃ tu,tu=(lrun x).2:=⟨_,rfl⟩
 rw [<- hfr,<- hto] at hle1;rw [<- hto,h8] at hle2;rw [<- hfr,<- hto];have HFr:=hid hfr;have HTo:=hid hto;clear hfr hto;by_cases hft:fr=tu
 ·have HT:=hid (text6_same (x:=x) (by rw [<- HFr.out,<- HTo.out];exact hft))
  have hft':((fr:Int)==(tu:Int))=true:=by rw [hft];simp
  have HJ:=hid (show Calls Tryz.prog 249 #[.slice (some ⟨w.heap.size,0,none⟩) 8 8] w1 fun e w'=>e = .returned (.string ⟨(joined x).toArray⟩)/\Below w1.heap.size w1 w' by
   have:=joined_any w.heap.size 0 8 x w1 HG1.out (by omega) (by omega) H16.out HN1.out
   rw [h8] at this;exact this)
  go_wp2_with (go_at_call 249;refine HJ.out.mono ?_;rintro e w2 ⟨rfl,hb2⟩)
  go_ret
  rw [HT.out];exact ⟨rfl,below2 HB1.out hb2⟩
 ·have HT:=hid (text6_run (x:=x) (by rw [<- HFr.out,<- HTo.out];exact hft))
  rw [<- HFr.out,<- HTo.out] at HT;have hft':((fr:Int)==(tu:Int))=false:=by rw [beq_eq_false_iff_ne];omega
  have HJ1:=hid (show ∀ W,Below w1.heap.size w1 W->Calls Tryz.prog 249 #[.slice (some ⟨w.heap.size,0,none⟩) fr 8] W fun e w'=>e = .returned (.string ⟨(joined (x.take fr)).toArray⟩)/\Below W.heap.size W w' by
   intro W hW;have hl:(x.take fr).length=fr:=by simp;omega
   have:=joined_any w.heap.size 0 8 (x.take fr) W (HG1.out.kept hW) (by omega) (by omega) (fun n hn=>H16.out n (List.mem_of_mem_take hn)) ((HN1.out.kept hW).take fr)
   rw [hl] at this;exact this)
  have HJ2:=hid (show ∀ W,Below w1.heap.size w1 W->Calls Tryz.prog 249 #[.slice (some (fromAd w.heap.size tu)) (8 - tu) (8 - tu)] W fun e w'=>e = .returned (.string ⟨(joined (x.drop tu)).toArray⟩)/\Below W.heap.size W w' by
   intro W hW;have hl:(x.drop tu).length=8 - tu:=by simp;omega
   by_cases ht:tu=8
   ·have hx0:x.drop tu=[]:=List.drop_eq_nil_of_le (by omega)
    have:=joined_any w.heap.size 0 0 ([]:List Nat) W (HG1.out.kept hW) (by simp) (by simp) (by simp) (by intro j hj;simp at hj)
    rw [hx0,fromAd,if_pos ht,ht]
    exact this
   ·have:=joined_any w.heap.size tu (8 - tu) (x.drop tu) W (HG1.out.kept hW) (by omega) (by omega) (fun n hn=>H16.out n (List.mem_of_mem_drop hn)) ((HN1.out.kept hW).drop tu)
    rw [hl] at this;rw [fromAd,if_neg ht]
    exact this)
  have hs1:=slice8_to w.heap.size fr (by omega)
  have hs2:=slice8_rest w.heap.size tu (by omega)
  have hj1:=joined_le (x.take fr);have hj2:=joined_le (x.drop tu);have hl1:(x.take fr).length<=8:=by simp;omega
  have hl2:(x.drop tu).length<=8:=by simp;omega
  have hj1':(joined (x.take fr)).length<=48:=by omega
  have hj2':(joined (x.drop tu)).length<=48:=by omega
  clear hj1 hj2 hl1 hl2;generalize joined (x.take fr)=A at *
  generalize joined (x.drop tu)=B at *
  generalize fromAd w.heap.size tu=ad2 at *
  generalize 8 - tu=r2 at *
  go_wp2
  go_region_with (first | (go_at_call 249;refine (HJ2.out _ ((Below.refl _ w1).drew.trans (hb2.mono (Nat.le_refl _)))).mono ?_;rintro e w3 ⟨rfl,hb3⟩) | (go_at_call 249;refine (HJ1.out _ (Below.refl _ w1).drew).mono ?_;rintro e w2 ⟨rfl,hb2⟩))
  all_goals
   go_wp2
   go_ret
   rw [HT.out];refine ⟨?_,below2 (below2 (below2 HB1.out ((Below.refl _ w1).drew)) hb2) hb3⟩
   have e:(⟨A.toArray⟩:ByteArray)++⟨#[58,58]⟩++⟨B.toArray⟩=⟨(A++([58,58]++B)).toArray⟩:=by
    rw [show (⟨#[58,58]⟩:ByteArray)=⟨[58,58].toArray⟩ from rfl,ba_app,ba_app,List.append_assoc]
   rw [<- e];rfl
theorem ret_pcd {a:UInt8} {x:Int} {p:UInt8×Bool} {b:Bool} (h:p=(a,b)) (e:(a.toNat:Int)=x):Ending.returned (.tuple #[.int .u8 x,.bool b]) = .returned (.tuple #[.int .u8 p.1.toNat,.bool p.2]):=by
 rw [h,<- e]
theorem percented_any (s:ByteArray) (w:World) (h0:0<s.size) (hs:s.size<=140737488351232):
 Calls Tryz.prog 203 #[.string s] w fun e w'=>e = .returned (.tuple #[.int .u8 (pcd s.data.toList).1.toNat,.bool (pcd s.data.toList).2])/\w=w':=by
 by_cases h3:s.size<3
 ·have h3':(s.size:Int)<3:=by omega
  go_enter Tryz.func203,Tryz.ntmps203
  go_wp2
  go_ret2
  obtain ⟨r,hr⟩:=list_one s h0
  refine ⟨ret_pcd ?_ rfl,rfl⟩;rw [hr];refine pcd_short _ _ ?_;rw [<- hr];simpa using h3
 ·have h3':(3:Int)<=(s.size:Int):=by omega
  obtain ⟨r,hr⟩:=list_three s (by omega)
  have HR:=hid hr;clear hr;by_cases h37:s[0]=37
  ·have h37':(((s[0]).toNat:Int) != 37)=false:=by rw [h37];rfl
   have HP:Hid (pcd s.data.toList=if is16I s[1].toNat&&is16I s[2].toNat then (UInt8.ofNat (val16I s[1].toNat*16+val16I s[2].toNat).toNat,true) else (37,false)):=by
    rw [HR.out,h37];exact pcd_three _ _ _
   have H37:=hid h37;clear h37;have hv:=val16_lt s[1].toNat;have ho:=or16 s[1].toNat s[2].toNat;have hl1:s[1].toNat<256:=s[1].toNat_lt;have hl2:s[2].toNat<256:=s[2].toNat_lt;by_cases ha:is16I (s[1].toNat:Int)=true
   ·by_cases hb:is16I (s[2].toNat:Int)=true
    ·go_enter Tryz.func203,Tryz.ntmps203
     go_wp2_with (go_at_call 227;refine (value16_any _ _ (by omega) (by omega)).mono ?_;rintro e w' ⟨rfl,rfl⟩)
     go_ret2
     refine ⟨ret_pcd (by rw [HP.out,ha,hb];rfl) ?_,rfl⟩;simp
    ·have hb':is16I (s[2].toNat:Int)=false:=by simpa using hb
     clear hb
     go_enter Tryz.func203,Tryz.ntmps203
     go_wp2_with (go_at_call 227;refine (value16_any _ _ (by omega) (by omega)).mono ?_;rintro e w' ⟨rfl,rfl⟩)
     go_ret2
     refine ⟨ret_pcd (by rw [HP.out,ha,hb'];rfl) ?_,rfl⟩;rw [H37.out]
   ·have ha':is16I (s[1].toNat:Int)=false:=by simpa using ha
    clear ha
    go_enter Tryz.func203,Tryz.ntmps203
    go_wp2_with (go_at_call 227;refine (value16_any _ _ (by omega) (by omega)).mono ?_;rintro e w' ⟨rfl,rfl⟩)
    go_ret2
    refine ⟨ret_pcd (by rw [HP.out,ha'];rfl) ?_,rfl⟩;rw [H37.out]
  ·have h37':(((s[0]).toNat:Int) != 37)=true:=by
    rw [bne_iff_ne];intro e;apply h37;have:s[0].toNat=37:=by omega
    exact UInt8.toNat_inj.1 this
   have H37:=hid h37;clear h37
   go_enter Tryz.func203,Tryz.ntmps203
   go_wp2
   go_ret2
   refine ⟨ret_pcd ?_ rfl,rfl⟩;rw [HR.out];exact pcd_other _ _ H37.out
theorem unpercent_any (s:ByteArray) (w:World) (hs:s.size<=140737488351232):
 Calls Tryz.prog 169 #[.string s] w fun e w'=>e = .returned (.string ⟨(unpct s.data.toList).toArray⟩)/\Below w.heap.size w w':=by
 go_enter Tryz.func169,Tryz.ntmps169
 go_wp2
 go_loopw [4] (fun i wr=> ∃ (k:Nat) (acc:List UInt8),k<=s.size/\i = .int .i64 k/\Lib.IsBuilderF 131 5 w.heap.size w.heap.size (Lib.byteCells acc) wr/\Below w.heap.size w wr/\acc++unpct (s.data.toList.drop k)=unpct s.data.toList/\acc.length<=k)
  (fun i _=>s.size - (intOf i).toNat)
 case atStart=>
  exact ⟨0,[],Nat.zero_le _,rfl,Lib.IsBuilderF.of (Lib.fresh_isBuilder 131 5 w),(Below.refl _ w).alloc (Nat.le_refl _) _,rfl,Nat.le_refl _⟩
 case round=>
  obtain ⟨k,acc,hk,rfl,hI,hbw,hacc,hal⟩:=hrel
  have HA:=hid hacc;clear hacc;by_cases hlt:k<s.size
  ·have HD:=hid (drop_cons s k hlt)
   have HU:=hid (unpct_cons s[k] (s.data.toList.drop (k+1)));have hex:=extract_drop s k;have hes:(s.extract k s.size).size=s.size - k:=by simp
   have HE:=hid hex;have hct:=percented_any (s.extract k s.size) wr (by omega) (by omega)
   rw [hex] at hct;have HC:=hid hct;clear hct hex;have hlen:(pcd (s.data.toList.drop k)).2=true->k+3<=s.size:=fun h=>by
    have:=pcd_len _ h;simp at this;omega
   have HL:=hid hlen;clear hlen;by_cases hok:(pcd (s.data.toList.drop k)).2=true
   ·have h3:=HL.out hok
    go_wp2_with (go_at_call 203;refine HC.out.mono ?_;rintro e w' ⟨rfl,rfl⟩)
    refine (writeByte_k w.heap.size w.heap.size _ _ _ hI (by rw [Lib.byteCells_length];omega) hbw.size).mono ?_;rintro e w1 ⟨rfl,h1,b1,_⟩
    go_wp2
    go_roundw
    case rel=>
     refine ⟨k+3,acc++[(pcd (s.data.toList.drop k)).1],by omega,by go_num,?_,hbw.trans b1,?_,by simp;omega⟩
     ·rw [Lib.byteCells_append];exact .inr h1
     ·rw [<- HA.out,HD.out,HU.out,<- HD.out,if_pos hok,List.drop_drop,List.append_assoc];rfl
    case measure=>simp [intOf];omega
   ·have hok':(pcd (s.data.toList.drop k)).2=false:=by simpa using hok
    go_wp2_with (go_at_call 203;refine HC.out.mono ?_;rintro e w' ⟨rfl,rfl⟩)
    refine (writeByte_k w.heap.size w.heap.size _ _ _ hI (by rw [Lib.byteCells_length];omega) hbw.size).mono ?_;rintro e w1 ⟨rfl,h1,b1,_⟩
    go_wp2
    go_roundw
    case rel=>
     refine ⟨k+1,acc++[(pcd (s.data.toList.drop k)).1],by omega,by go_num,?_,hbw.trans b1,?_,by simp;omega⟩
     ·rw [Lib.byteCells_append];exact .inr h1
     ·rw [<- HA.out,HD.out,HU.out,<- HD.out,if_neg hok,List.append_assoc];rfl
    case measure=>simp [intOf];omega
  ·have hd:=drop_none s k hlt
   have he:acc=unpct s.data.toList:=by rw [<- HA.out,hd];simp [unpct,unpctN]
   rw [he] at hI;clear hd he
   go_wp2_with (go_at_call 90;refine (Tryz.Builder_String_any_k w.heap.size w.heap.size _ _ hI hbw.size).mono ?_)
   rintro e w1 ⟨rfl,_,b1,_⟩
   go_wp2
   go_ret
   exact ⟨rfl,hbw.trans b1⟩
theorem dotN_lt: ∀ (r h:Nat) (l:List UInt8) (n:Nat),r<=4->h<2 ^ (8*(4 - r))->dotN r h l=some n->n<4294967296
 | 0,h,_,n,_,hh,e=>by
   rw [dotN] at e
   cases e
   exact hh
 | r+1,h,l,n,hr,hh,e=>by
   rw [dotN] at e;split at e
   ·cases e
   ·rename_i b hb
    split at e
    ·refine dotN_lt r _ _ n (by omega) ?_ e
     have e2:8*(4 - r)=8*(4 - (r+1))+8:=by omega
     have:=plainB_le hb;rw [e2,Nat.pow_add]
     omega
    ·cases e
theorem scanP_lt (whole:Option Nat) (last:Bool) (hw: ∀ m,whole=some m->m<4294967296): ∀ (l:List UInt8) (i n:Nat) (ns:List Nat),i<=4->n<16 ^ i->scanP whole last i n l=some ns->ns.length<=2 /\ ∀ m ∈ ns,m<65536
 | [],i,n,ns,hi,hn,e=>by
   rw [scanP] at e;split at e
   ·cases e
   ·cases e
    have h4:16 ^ i<=16 ^ 4:=Nat.pow_le_pow_right (by omega) hi
    rw [show 16 ^ 4=65536 from rfl] at h4;refine ⟨by simp,fun m hm=> ?_⟩
    rw [List.mem_singleton] at hm;omega
 | c::l,i,n,ns,hi,hn,e=>by
   rw [scanP] at e;split at e
   ·cases hwh:whole with
    | none=>rw [hwh] at e;cases e
    | some m=>
      rw [hwh] at e
      cases e
      have:=hw m hwh;refine ⟨by simp,fun k hk=> ?_⟩
      simp at hk;omega
   ·split at e
    ·rename_i h
     refine scanP_lt whole last hw l (i+1) _ ns (by omega) ?_ e
     rw [Nat.pow_succ];omega
    ·cases e
theorem piecesN_lt (atEnd:Bool): ∀ (f:Nat) (out:List Nat) (l:List UInt8) (m:Bool) (r:List Nat),(∀ n ∈ out,n<65536)->piecesN atEnd f out l m=some r -> ∀ n ∈ r,n<65536
 | f,out,l,false,r,ho,e=>by
   rw [piecesN_done] at e
   cases e;exact ho
 | 0,out,l,true,r,ho,e=>by cases e
 | f+1,out,l,true,r,ho,e=>by
   rw [piecesN] at e;split at e
   ·cases e
   ·rename_i ns hns
    refine piecesN_lt atEnd f _ _ _ r ?_ e;intro n hn;rcases List.mem_append.1 hn with h | h
    ·exact ho n h
    ·exact (scanP_lt _ _ (fun m hm=>dotN_lt 4 0 _ m (by omega) (by decide) hm) _ 0 0 ns (by omega) (by decide) hns).2 n h
theorem sixV_ok {l:List UInt8} {x:List Nat} (h:sixV l=some x):x.length=8 /\ ∀ n ∈ x,n<65536:=by
 unfold sixV at h;split at h
 ·rename_i a b ha hb
  split at h
  ·rename_i hc
   cases h
   refine ⟨by simp;omega,fun n hn=> ?_⟩
   rcases List.mem_append.1 hn with hn | hn
   ·rcases List.mem_append.1 hn with hn | hn
    ·exact piecesN_lt _ _ _ _ _ a (by simp) ha n hn
    ·have:=List.eq_of_mem_replicate hn;omega
   ·exact piecesN_lt _ _ _ _ _ b (by simp) hb n hn
  ·cases h
 ·cases h
theorem bracketV_open {l:List UInt8} (h:Lib.hasSuffix l [93]=false):bracketV l=none:=by rw [bracketV,h];rfl
theorem bracketV_none {l:List UInt8} (h:Lib.hasSuffix l [93]=true) (h2:sixV (Lib.trimSuffix l [93])=none):bracketV l=none:=by rw [bracketV,if_pos h,h2];rfl
theorem bracketV_some {l:List UInt8} {x:List Nat} (h:Lib.hasSuffix l [93]=true) (h2:sixV (Lib.trimSuffix l [93])=some x):bracketV l=some (91::(text6 x++[93])):=by rw [bracketV,if_pos h,h2];rfl
theorem text6_le (x:List Nat) (h8:x.length=8):(text6 x).length<=100:=by
 unfold text6;have h1:=joined_le x;have h2:=joined_le (x.take (lrun x).1);have h3:=joined_le (x.drop (lrun x).2);have e1:(x.take (lrun x).1).length<=8:=by simp;omega
 have e2:(x.drop (lrun x).2).length<=8:=by simp;omega
 split
 ·omega
 ·simp;omega
theorem parseSix_any (s:ByteArray) (w:World) (hg:Gd w) (hs:s.size<=4000000000):
 Calls Tryz.prog 222 #[.string s] w fun e w'=>e = .returned (.tuple #[.string ⟨((bracketV s.data.toList).getD []).toArray⟩,.int .i64 (er (bracketV s.data.toList))])/\Below w.heap.size w w':=by
 have HG:=hid hg;clear hg;by_cases hc:Lib.hasSuffix s.data.toList [93]=true
 ·obtain ⟨t,ht⟩: ∃ t:ByteArray,t=⟨(Lib.trimSuffix s.data.toList [93]).toArray⟩:=⟨_,rfl⟩
  have htl:t.data.toList=Lib.trimSuffix s.data.toList [93]:=by rw [ht]
  have hts:t.size<=4000000000:=by rw [ht];exact size_le (Lib.trimSuffix_le _ _) hs
  have HTe:=hid ht;clear ht;obtain ⟨Y,hY⟩: ∃ Y,Y=(sixV t.data.toList).getD zero8:=⟨_,rfl⟩
  have hY8:(cells16 Y).length=8:=by
   rw [cells16_len,hY]
   cases h:sixV t.data.toList with
   | none=>rfl
   | some x=>exact (sixV_ok h).1
  have hi8:(Tryz.prog.info? 152).map (·.size)=some (cells16 Y).length:=by rw [hY8];exact size8
  have hi8':(Tryz.prog.info? 152).map (·.size)=some (cells16 Y).toArray.size:=by rw [List.size_toArray,hY8];exact size8
  have HY:=hid hY;clear hY;have h6:=six_any t w HG.out hts;rw [<- HY.out] at h6;have H6:=hid h6;clear h6
  cases hsx:sixV t.data.toList with
  | none=>
    have HN:=hid (bracketV_none (l:=s.data.toList) hc (by rw [<- htl];exact hsx));have e6:=er_none hsx;clear hsx htl
    go_enter Tryz.func222,Tryz.ntmps222
    go_wp2_with (first | (go_at_call 236;refine (Tryz.strings_CutSuffix _ _ _ (by omega)).mono ?_;rintro e w' ⟨rfl,rfl⟩;rw [show (⟨#[93]⟩:ByteArray).data.toList=[93] from rfl,hc,<- HTe.out]) | (go_at_call 237;refine H6.out.mono ?_;rintro e w1 ⟨rfl,hb1⟩;rw [e6,agg8]) | refine wpList_store_mid rfl 152 (.tmp 6) (.tmp 18) rfl w1.heap.size 0 (cells16 Y).toArray rfl rfl (there_row (heap_alloc_new w1 _) (by rw [List.size_toArray,hY8];decide)) hi8' (all_oneCell_toArray (cells16_one _)) ?_)
    go_ret2
    exact ⟨ret_se (txt_none HN.out) (er_none HN.out).symm,below2 hb1 (below_setCells (Nat.le_refl _) _ _ _ ((Below.refl _ w1).alloc (Nat.le_refl _) _))⟩
  | some x=>
    have HN:=hid (bracketV_some (l:=s.data.toList) hc (by rw [<- htl];exact hsx));have e6:=er_some hsx;have hYx:Y=x:=by rw [HY.out,hsx];rfl
    have hok:=sixV_ok hsx;subst hYx;obtain ⟨hok1,hok2⟩:=hok
    have HOk:=hid hok2;have htl2:=text6_le Y hok1;clear hsx htl hok2
    go_enter Tryz.func222,Tryz.ntmps222
    go_wp2_with (first | (go_at_call 236;refine (Tryz.strings_CutSuffix _ _ _ (by omega)).mono ?_;rintro e w' ⟨rfl,rfl⟩;rw [show (⟨#[93]⟩:ByteArray).data.toList=[93] from rfl,hc,<- HTe.out]) | (go_at_call 237;refine H6.out.mono ?_;rintro e w1 ⟨rfl,hb1⟩;rw [e6,agg8]) | refine wpList_store_mid rfl 152 (.tmp 6) (.tmp 18) rfl w1.heap.size 0 (cells16 Y).toArray rfl rfl (there_row (heap_alloc_new w1 _) (by rw [List.size_toArray,hY8];decide)) hi8' (all_oneCell_toArray (cells16_one _)) ?_ | refine wpList_load_mid rfl 152 (.tmp 6) rfl w1.heap.size 0 rfl (cells16 Y) _ (World.rangeAt_setCells_same _ _ _ _ (there_row (heap_alloc_new w1 _) (by rw [hY8];decide))) Tryz.underlying152 rfl hi8 ?_)
    have hb2:=below2 hb1 (below_setCells (Nat.le_refl _) (cells16 Y) 0 _ ((Below.refl _ w1).alloc (Nat.le_refl _) (.cells (cells16 zero8).toArray 152 (0,0))));refine (text6_any Y _ (HG.out.kept hb2) hok1 HOk.out).mono ?_;rintro e w2 ⟨rfl,hb3⟩
    generalize text6 Y=T at *
    go_wp2
    go_ret2
    refine ⟨ret_se ?_ (er_some HN.out).symm,below2 hb2 hb3⟩;rw [HN.out];show (⟨[91].toArray⟩:ByteArray)++⟨T.toArray⟩++⟨[93].toArray⟩=⟨(91::(T++[93])).toArray⟩;rw [ba_app,ba_app]
    simp
 ·have hc':Lib.hasSuffix s.data.toList [93]=false:=by simpa using hc
  clear hc;have HN:=hid (bracketV_open hc')
  go_enter Tryz.func222,Tryz.ntmps222
  go_wp2_with (first | (go_at_call 236;refine (Tryz.strings_CutSuffix _ _ _ (by omega)).mono ?_;rintro e w' ⟨rfl,rfl⟩;rw [show (⟨#[93]⟩:ByteArray).data.toList=[93] from rfl,hc']))
  go_ret2
  exact ⟨ret_se (txt_none HN.out) (er_none HN.out).symm,Below.refl _ _⟩
theorem parseV_six {l:List UInt8} {b:Bool} (h:Lib.hasPrefix l [91]=true):parseV l b=bracketV (l.drop 1):=by rw [parseV,if_pos h]
theorem parseV_name {l:List UInt8} (h:Lib.hasPrefix l [91]=false):parseV l true=nameV (low (unpct l)):=by rw [parseV,h];rfl
theorem parseV_other {l:List UInt8} (h:Lib.hasPrefix l [91]=false):parseV l false=otherV l:=by rw [parseV,h];rfl
theorem unpct_le (l:List UInt8):(unpct l).length<=l.length:=by
 have key: ∀ (f:Nat) (l:List UInt8),(unpctN f l).length<=l.length:=by
  intro f
  induction f with
  | zero=>intro l;simp [unpctN]
  | succ f ih=>
    intro l
    cases l with
    | nil=>simp [unpctN]
    | cons c l=>
      rw [unpctN,List.length_cons,List.length_cons]
      have:=ih (if (pcd (c::l)).2 then l.drop 2 else l);split at this
      ·rename_i h;rw [if_pos h];simp at this;omega
      ·rename_i h;rw [if_neg h];omega
 exact key _ _
theorem low_length (l:List UInt8):(low l).length=l.length:=by simp [low]
theorem parse_any (s:ByteArray) (special:Bool) (w:World) (hg:Gd w) (hs:s.size<=4000000000):
 Calls Tryz.prog 191 #[.string s,.bool special] w fun e w'=>e = .returned (.tuple #[.string ⟨((parseV s.data.toList special).getD []).toArray⟩,.int .i64 (er (parseV s.data.toList special))])/\Below w.heap.size w w':=by
 have HG:=hid hg;clear hg;by_cases hp:Lib.hasPrefix s.data.toList [91]=true
 ·have HN:=hid (parseV_six (b:=special) hp)
  have h1:1<=s.data.toList.length:=by
   have:[91].isPrefixOf s.data.toList=true:=hp;rw [List.isPrefixOf_iff_prefix] at this;simpa using this.length_le
  have h1':(1:Int)<=(s.size:Int):=by simp at h1;omega
  obtain ⟨t,ht⟩: ∃ t:ByteArray,t=s.extract 1 s.size:=⟨_,rfl⟩
  have htl:t.data.toList=s.data.toList.drop 1:=by rw [ht,extract_drop]
  have hts:t.size<=4000000000:=by rw [ht];simp;omega
  have HTe:=hid ht.symm;have HTl:=hid htl;clear ht htl h1
  go_enter Tryz.func191,Tryz.ntmps191
  go_wp2_with (first | (go_at_call 122;refine (hasPrefix_any _ _ _).mono ?_;rintro e w' ⟨rfl,rfl⟩;rw [show (⟨#[91]⟩:ByteArray).data.toList=[91] from rfl,hp]) | (go_at_call 222;rw [HTe.out];refine (parseSix_any _ _ HG.out hts).mono ?_;rintro e w1 ⟨rfl,hb1⟩;rw [HTl.out]))
  go_ret2
  rw [HN.out,List.drop_one]
  exact ⟨rfl,hb1⟩
 ·have hp':Lib.hasPrefix s.data.toList [91]=false:=by simpa using hp
  clear hp
  cases special with
  | true=>
    have HN:=hid (parseV_name hp');have hu:=size_le (unpct_le s.data.toList) hs;have hl:(⟨(low (unpct s.data.toList)).toArray⟩:ByteArray).size<=4000000000:=size_le (by rw [low_length];exact unpct_le _) hs
    go_enter Tryz.func191,Tryz.ntmps191
    go_wp2_with (first | (go_at_call 122;refine (hasPrefix_any _ _ _).mono ?_;rintro e w' ⟨rfl,rfl⟩;rw [show (⟨#[91]⟩:ByteArray).data.toList=[91] from rfl,hp']) | (go_at_call 169;refine (unpercent_any _ _ (by omega)).mono ?_;rintro e w1 ⟨rfl,hb1⟩) | (go_at_call 37;refine (lower_any _ _ (by omega)).mono ?_;rintro e w2 ⟨rfl,hb2⟩;rw [show (⟨(unpct s.data.toList).toArray⟩:ByteArray).data.toList=unpct s.data.toList from rfl]) | (go_at_call 223;refine (parseName_any _ _ (HG.out.kept (below2 hb1 hb2)) hl).mono ?_;rintro e w3 ⟨rfl,hb3⟩;rw [show (⟨(low (unpct s.data.toList)).toArray⟩:ByteArray).data.toList=low (unpct s.data.toList) from rfl]))
    go_ret2
    rw [HN.out];exact ⟨rfl,below2 (below2 hb1 hb2) hb3⟩
  | false=>
    have HN:=hid (parseV_other hp')
    go_enter Tryz.func191,Tryz.ntmps191
    go_wp2_with (first | (go_at_call 122;refine (hasPrefix_any _ _ _).mono ?_;rintro e w' ⟨rfl,rfl⟩;rw [show (⟨#[91]⟩:ByteArray).data.toList=[91] from rfl,hp']) | (go_at_call 224;refine (parseOther_any _ _ hs).mono ?_;rintro e w1 ⟨rfl,hb1⟩))
    go_ret2
    rw [HN.out];exact ⟨rfl,hb1⟩
def digs (base n:Nat):List UInt8:=digsN base 40 n []
theorem digsN_all (p:UInt8->Bool) (base:Nat) (hb:1<=base) (hp: ∀ n<base,p (digC n)=true): ∀ (f u:Nat) (T:List UInt8),T.all p=true->(digsN base f u T).all p=true
 | 0,_,T,h=>by rw [digsN];exact h
 | f+1,u,T,h=>by
   rw [digsN];split
   ·rename_i hu
    rw [List.all_cons,hp u hu,h];rfl
   ·refine digsN_all p base hb hp f _ _ ?_
    rw [List.all_cons,hp _ (Nat.mod_lt _ (by omega)),h];rfl
theorem digsN_ne (base:Nat): ∀ (f u:Nat) (T:List UInt8),T≠[]∨f≠0->digsN base f u T≠[]
 | 0,_,T,h=>by rw [digsN];exact h.resolve_right (by simp)
 | f+1,u,T,_=>by
   rw [digsN];split
   ·simp
   ·exact digsN_ne base f _ _ (.inl (by simp))
theorem digs_ne (base n:Nat):digs base n≠[]:=digsN_ne _ _ _ _ (.inr (by decide))
theorem index_one_none (l:List UInt8) (c:UInt8) (h:c ∉ l):Lib.index l [c] = -1:=by
 induction l with
 | nil=>rfl
 | cons a l ih=>
   have ha:a≠c:=fun e=>h (by simp [e])
   have hl:c ∉ l:=fun e=>h (by simp [e])
   unfold Lib.index;rw [ih hl];have:[c].isPrefixOf (a::l)=false:=by simp [List.isPrefixOf];exact fun e=>ha e.symm
   rw [this];rfl
theorem index_one_some (a r:List UInt8) (c:UInt8) (h:c ∉ a):Lib.index (a++c::r) [c]=a.length:=by
 induction a with
 | nil=>unfold Lib.index;simp [List.isPrefixOf]
 | cons x a ih=>
   have hx:x≠c:=fun e=>h (by simp [e])
   have ha:c ∉ a:=fun e=>h (by simp [e])
   rw [List.cons_append];unfold Lib.index;rw [ih ha];have:[c].isPrefixOf (x::(a++c::r))=false:=by simp [List.isPrefixOf];exact fun e=>hx e.symm
   rw [this];have h1:((a.length:Int) == -1)=false:=by rw [beq_eq_false_iff_ne];omega
   simp [h1]
theorem cut_none (l:List UInt8) (c:UInt8) (h:c ∉ l):Lib.cut l [c]=(l,[],false):=by
 unfold Lib.cut;rw [index_one_none l c h];rfl
theorem cut_some (a r:List UInt8) (c:UInt8) (h:c ∉ a):Lib.cut (a++c::r) [c]=(a,r,true):=by
 unfold Lib.cut;rw [index_one_some a r c h];simp
theorem noDot_dot (l:List UInt8):noDot (l++[46])=l:=by
 unfold noDot Lib.trimSuffix;rw [if_pos]
 ·simp
 ·unfold Lib.hasSuffix
  rw [List.isSuffixOf_iff_suffix];exact ⟨l,rfl⟩
theorem noDot_of (l:List UInt8) (h: ∀ t,l≠t++[46]):noDot l=l:=by
 unfold noDot Lib.trimSuffix;rw [if_neg];unfold Lib.hasSuffix;rw [List.isSuffixOf_iff_suffix];rintro ⟨t,ht⟩
 exact h t ht.symm
theorem dec8_digs: ∀ n<256,dec8 n=digs 10 n:=by decide +kernel
theorem dec8_ne (n:Nat) (h:n<256):dec8 n≠[]:=by rw [dec8_digs n h];exact digs_ne 10 n
theorem hexs_at (d:Nat) (h:d<16):((⟨#[48,49,50,51,52,53,54,55,56,57,97,98,99,100,101,102]⟩:ByteArray).extract d (d+1)).data.toList=[digC d]:=by
 rcases (show d=0∨d=1∨d=2∨d=3∨d=4∨d=5∨d=6∨d=7∨d=8∨d=9∨d=10∨d=11∨d=12∨d=13∨d=14∨d=15 from by omega) with
  rfl | rfl | rfl | rfl | rfl | rfl | rfl | rfl | rfl | rfl | rfl | rfl | rfl | rfl | rfl | rfl<;>(rw [Lib.extract_data];rfl)
theorem hexs_app (d:Nat) (h:d<16) (T:List UInt8):(⟨#[48,49,50,51,52,53,54,55,56,57,97,98,99,100,101,102]⟩:ByteArray).extract d (d+1)++⟨T.toArray⟩=⟨(digC d::T).toArray⟩:=by
 refine ba_ext ?_;rw [ByteArray.data_append,Array.toList_append,hexs_at d h];simp
def DigInv (base n f u:Nat) (T:List UInt8):Prop:=
 u<base ^ f/\f<=40/\T.length+f=40/\((digsN base f u T=digs base n/\(0<u∨T=[]))∨(u=0/\T=digs base n/\T≠[]))
theorem DigInv.step {base n f u:Nat} {T:List UInt8} (h2:2<=base) (h:DigInv base n f u T) (hp:0<u∨T=[]): ∃ g,f=g+1/\DigInv base n g (u / base) (digC (u % base)::T):=by
 obtain ⟨h1,hf,hT,hc⟩:=h
 have hd:digsN base f u T=digs base n:=by
  rcases hc with ⟨h,_⟩ | ⟨h0,_,hne⟩
  ·exact h
  ·rcases hp with hp | hp
   ·omega
   ·exact absurd hp hne
 cases f with
 | zero=>
   simp at h1;rcases hp with hp | hp
   ·omega
   ·subst hp;simp at hT
 | succ g=>
   refine ⟨g,rfl,?_,by omega,by simp;omega,?_⟩
   ·rw [Nat.div_lt_iff_lt_mul (by omega)];rw [Nat.pow_succ] at h1;exact h1
   ·by_cases hu:u<base
    ·right
     rw [digsN_last _ _ _ _ hu] at hd;refine ⟨Nat.div_eq_of_lt hu,by rw [Nat.mod_eq_of_lt hu];exact hd,by simp⟩
    ·left
     rw [digsN_more _ _ _ _ hu] at hd;exact ⟨hd,.inl (Nat.div_pos (by omega) (by omega))⟩
theorem DigInv.done {base n f u:Nat} {T:List UInt8} (h:DigInv base n f u T) (h0:u=0) (hT:T≠[]):T=digs base n:=by
 obtain ⟨_,_,_,hc⟩:=h
 rcases hc with ⟨_,hp | hp⟩ | ⟨_,h,_⟩
 ·omega
 ·exact absurd hp hT
 ·exact h
theorem tens_at (d:Nat) (h:d<10):((⟨#[48,49,50,51,52,53,54,55,56,57]⟩:ByteArray).extract d (d+1)).data.toList=[digC d]:=by
 rcases (show d=0∨d=1∨d=2∨d=3∨d=4∨d=5∨d=6∨d=7∨d=8∨d=9 from by omega) with
  rfl | rfl | rfl | rfl | rfl | rfl | rfl | rfl | rfl | rfl<;>(rw [Lib.extract_data];rfl)
theorem tens_app (d:Nat) (h:d<10) (T:List UInt8):(⟨#[48,49,50,51,52,53,54,55,56,57]⟩:ByteArray).extract d (d+1)++⟨T.toArray⟩=⟨(digC d::T).toArray⟩:=by
 refine ba_ext ?_;rw [ByteArray.data_append,Array.toList_append,tens_at d h];simp
theorem digsN_fuel (base:Nat) (h2:2<=base): ∀ (f g n:Nat) (T:List UInt8),f≠0->g≠0->n<base ^ f->n<base ^ g->digsN base f n T=digsN base g n T
 | 0,_,_,_,h,_,_,_=>absurd rfl h
 | _,0,_,_,_,h,_,_=>absurd rfl h
 | f+1,g+1,n,T,_,_,hf,hg=>by
   by_cases hn:n<base
   ·rw [digsN_last _ _ _ _ hn,digsN_last _ _ _ _ hn]
   ·rw [digsN_more _ _ _ _ hn,digsN_more _ _ _ _ hn]
    have hd:0<base:=by omega
    have h1:n / base<base ^ f:=by rw [Nat.div_lt_iff_lt_mul hd];rw [Nat.pow_succ] at hf;exact hf
    have h3:n / base<base ^ g:=by rw [Nat.div_lt_iff_lt_mul hd];rw [Nat.pow_succ] at hg;exact hg
    have h0:n / base≠0:=Nat.pos_iff_ne_zero.1 (Nat.div_pos (by omega) hd);refine digsN_fuel base h2 f g _ _ ?_ ?_ h1 h3
    ·rintro rfl;simp at h1;omega
    ·rintro rfl;simp at h3;omega
theorem hex16_digs (n:Nat) (h:n<65536):hex16 n=digs 16 n:=by
 unfold hex16 digs;refine digsN_fuel 16 (by omega) 4 40 n [] (by omega) (by omega) (by omega) ?_
 have h1:16 ^ 4<=16 ^ 40:=Nat.pow_le_pow_right (by omega) (by omega)
 omega
theorem rdigits_any (n:Nat) (w:World) (hn:n<65536):
 Calls Tryz.prog 144 #[.int .u16 n] w fun e w'=>e = .returned (.string ⟨(hex16 n).toArray⟩)/\w=w':=by
 rw [hex16_digs n hn];have h40:n<16 ^ 40:=by
  have h1:16 ^ 4<=16 ^ 40:=Nat.pow_le_pow_right (by omega) (by omega)
  omega
 have H0:=hid (show DigInv 16 n 40 n [] from ⟨h40,by omega,rfl,.inl ⟨rfl,.inr rfl⟩⟩);clear h40
 go_enter Tryz.func144,Tryz.ntmps144
 go_wp2
 go_loopg [0,3] 40 (fun f nv sv wr=> ∃ (u:Nat) (T:List UInt8),nv = .int .u16 u/\sv = .string ⟨T.toArray⟩/\u<65536/\DigInv 16 n f u T/\wr=w)
 case atStart=>exact ⟨n,[],rfl,rfl,hn,H0.out,rfl⟩
 case round=>
  obtain ⟨u,T,rfl,rfl,hu,hinv,rfl⟩:=hrel
  have hTl:T.length<=40:=by have:=hinv.2.2.1;omega
  have HI:=hid hinv;clear hinv;have hm:u % 16<16:=by omega
  by_cases hp:0<u∨T=[]
  ·obtain ⟨g,rfl,hnext⟩:=HI.out.step (by omega) hp
   have HN:=hid hnext;have HX:=hid (hexs_app (u % 16) hm T);have hul:u / 16<65536:=by omega
   clear hnext;by_cases h0:0<u
   ·have h0':(0:Int)<(u:Int):=by omega
    clear hp
    go_wp2
    go_roundg g
    case measure=>omega
    case rel=>exact ⟨_,_,by go_num,by rw [HX.out],hul,HN.out,rfl⟩
   ·have hT0:T=[]:=hp.resolve_left h0
    have hu0:u=0:=by omega
    subst hT0;subst hu0;clear hp h0
    go_wp2
    go_roundg g
    case measure=>omega
    case rel=>exact ⟨_,_,by go_num,by rw [HX.out],hul,HN.out,rfl⟩
  ·have hu0:u=0:=by omega
   have hT:T≠[]:=fun h=>hp (.inr h)
   have HD:=hid (HI.out.done hu0 hT);have he:T.isEmpty=false:=by simpa using hT
   subst hu0;clear hp hT
   go_wp2
   go_ret
   rw [HD.out];exact ⟨rfl,rfl⟩
theorem numeral_nat (n:Nat) (w:World) (hn:n<=9223372036854775807):
 Calls Tryz.prog 148 #[.int .i64 n] w fun e w'=>e = .returned (.string ⟨(digs 10 n).toArray⟩)/\w=w':=by
 have h40:n<10 ^ 40:=by
  have h3:(9223372036854775807:Nat)<10 ^ 40:=by decide
  omega
 have H0:=hid (show DigInv 10 n 40 n [] from ⟨h40,by omega,rfl,.inl ⟨rfl,.inr rfl⟩⟩);clear h40;have hq1:((n:Int) == -9223372036854775808)=false:=by rw [beq_eq_false_iff_ne];omega
 have hq2:decide ((n:Int)<0)=false:=decide_eq_false (by omega)
 go_enter Tryz.func148,Tryz.ntmps148
 go_wp2
 go_loopg [0,3] 40 (fun f nv sv wr=> ∃ (u:Nat) (T:List UInt8),nv = .int .i64 u/\sv = .string ⟨T.toArray⟩/\u<=9223372036854775807/\DigInv 10 n f u T/\wr=w)
 case atStart=>exact ⟨n,[],rfl,rfl,hn,H0.out,rfl⟩
 case round=>
  obtain ⟨u,T,rfl,rfl,hu,hinv,rfl⟩:=hrel
  have hTl:T.length<=40:=by have:=hinv.2.2.1;omega
  have HI:=hid hinv;clear hinv;have hm:u % 10<10:=by omega
  have ht1:(u:Int).tmod 10=((u % 10:Nat):Int):=by rw [Int.tmod_eq_emod_of_nonneg (by omega)];omega
  have ht2:(u:Int).tdiv 10=((u / 10:Nat):Int):=by rw [Int.tdiv_eq_ediv_of_nonneg (by omega)];omega
  by_cases hp:0<u∨T=[]
  ·obtain ⟨g,rfl,hnext⟩:=HI.out.step (by omega) hp
   have HN:=hid hnext;have HX:=hid (tens_app (u % 10) hm T);have hul:u / 10<=9223372036854775807:=by omega
   clear hnext;by_cases h0:0<u
   ·have h0':(0:Int)<(u:Int):=by omega
    clear hp
    go_wp2
    go_roundg g
    case measure=>omega
    case rel=>exact ⟨_,_,by go_num,by rw [HX.out],hul,HN.out,rfl⟩
   ·have hT0:T=[]:=hp.resolve_left h0
    have hu0:u=0:=by omega
    subst hT0;subst hu0;clear hp h0
    go_wp2
    go_roundg g
    case measure=>omega
    case rel=>exact ⟨_,_,by go_num,by rw [HX.out],hul,HN.out,rfl⟩
  ·have hu0:u=0:=by omega
   have hT:T≠[]:=fun h=>hp (.inr h)
   have HD:=hid (HI.out.done hu0 hT);have he:T.isEmpty=false:=by simpa using hT
   subst hu0;clear hp hT
   go_wp2
   go_ret
   rw [HD.out];exact ⟨rfl,rfl⟩
end Go.Proofs.YtijpkalkfbejeaaGreatDoor
