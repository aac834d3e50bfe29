/- Walks and plain facts. -/
import Derived.Test.YtijpkalkfbejeaaGreatDoorQm31
set_option linter.unusedSimpArgs false
set_option linter.unusedVariables false
set_option maxHeartbeats 16000000
set_option maxRecDepth 100000

namespace Go.Proofs.YtijpkalkfbejeaaGreatDoor
open Go.RowKit
def itC (x:It):List Value:=[.int .i64 x.bits,.string ⟨x.want.toArray⟩,.string ⟨x.opt.toArray⟩]
def cellsI9 (L:List It):List Value:=L.flatMap itC
theorem cellsI_app9 (a b:List It):cellsI9 (a++b)=cellsI9 a++cellsI9 b:=by simp [cellsI9]
theorem cellsI_at (L:List It): ∀ j (h:j<L.length),(cellsI9 L)[j*3]? = some (.int .i64 L[j].bits)/\(cellsI9 L)[j*3+1]? = some (.string ⟨L[j].want.toArray⟩)/\(cellsI9 L)[j*3+2]? = some (.string ⟨L[j].opt.toArray⟩):=by
 induction L with
 | nil=>intro j h;simp at h
 | cons a L ih=>
   intro j h;have e:cellsI9 (a::L) = .int .i64 a.bits :: .string ⟨a.want.toArray⟩ :: .string ⟨a.opt.toArray⟩::cellsI9 L:=rfl
   cases j with
   | zero=>rw [e];exact ⟨rfl,rfl,rfl⟩
   | succ j=>
     have:=ih j (by simpa using h)
     rw [e,show (j+1)*3=j*3+1+1+1 by omega]
     simpa using this
def ItAt (w:World) (v:Value) (L:List It):Prop:=
 ∃ a cap,v = .slice a L.length cap/\L.length<=cap/\cap<=maxLen /\ ∀ j (hj:j<L.length),∃ b off,a=some ⟨b,off,none⟩/\w.cell? ⟨b,off+j*3,none⟩=some (.int .i64 L[j].bits)/\w.cell? ⟨b,off+j*3+1,none⟩=some (.string ⟨L[j].want.toArray⟩)/\w.cell? ⟨b,off+j*3+2,none⟩=some (.string ⟨L[j].opt.toArray⟩)
theorem ItAt.view {w:World} {v:Value} {L:List It} (h:ItAt w v L): ∃ a cap,v = .slice a L.length cap/\L.length<=cap/\cap<=maxLen /\ ∀ j (hj:j<L.length),∃ b off,a=some ⟨b,off,none⟩/\w.cell? ⟨b,off+j*3,none⟩=some (.int .i64 L[j].bits)/\w.cell? ⟨b,off+j*3+1,none⟩=some (.string ⟨L[j].want.toArray⟩)/\w.cell? ⟨b,off+j*3+2,none⟩=some (.string ⟨L[j].opt.toArray⟩):=h
theorem it_nil (w:World):ItAt w (.slice none 0 0) []:=⟨none,0,rfl,Nat.le_refl _,by decide,fun j hj=>by simp at hj⟩
theorem own_it {w:World} {B:Nat} {e:TypeId} {v:Value} {L:List It} (h:w.ownsRow B e 3 v L.length (cellsI9 L)):ItAt w v L:=by
 have h2:=h.2;rcases h2 with ⟨hv,hn⟩ | ⟨g,cap,cur,rfl,hg,hrow,hnc,hcm,hcs,htake⟩
 ·obtain rfl:=List.eq_nil_of_length_eq_zero hn
  rw [hv];exact it_nil w
 ·refine ⟨_,cap,rfl,hnc,hcm,fun j hj=>⟨g,0,rfl,?_⟩⟩
  rw [Nat.zero_add,h.cellAt _ (by omega),h.cellAt _ (by omega),h.cellAt _ (by omega)]
  exact cellsI_at L j hj
def Gm (w:World):Prop:= ∃ m,w.cell? ⟨0,0,none⟩=some (.int .i64 m)
theorem Gm.kept {w w':World} (h:Gm w) (hb:Below w.heap.size w w'):Gm w':=by
 obtain ⟨m,hm⟩:=h
 exact ⟨m,kept_cell hm hb⟩
theorem beq_no9 (a:ByteArray) (l:List UInt8) (h:a.data.toList≠l):(a.toList==l)=false:=by
 rw [Lib.toList_data,beq_eq_false_iff_ne];exact h
theorem beq_yes9 (a:ByteArray) (l:List UInt8) (h:a.data.toList=l):(a.toList==l)=true:=by
 rw [Lib.toList_data,h];exact beq_self_eq_true _
theorem cut9 (s:ByteArray) (c:UInt8) (w:World) (hg:Gm w) (hs:s.size<=4000000000):
 Calls Tryz.prog 19 #[.string s,.string ⟨#[c]⟩] w fun e w'=>e = .returned (.tuple #[.string ⟨(part9 c s.data.toList).1.toArray⟩,.string ⟨(part9 c s.data.toList).2.1.toArray⟩,.bool (part9 c s.data.toList).2.2])/\Below w.heap.size w w':=by
 obtain ⟨m,hm⟩:=hg
 have h:=Tryz.strings_Cut s ⟨#[c]⟩ m w (by omega) hm
 rw [show (⟨#[c]⟩:ByteArray).data.toList=[c] from rfl,cut_part9] at h;refine h.mono ?_;rintro e w' ⟨rfl,n,rfl⟩
 exact ⟨rfl,Go.below_drewN (Below.refl _ _) n⟩
theorem blank9_any (x:Nat) (w:World):Calls Tryz.prog 140 #[.int .i32 (x:Int)] w fun e w'=>e = .returned (.bool (p9 x))/\w=w':=by
 by_cases h:p9 x=true
 ·have h':x=9∨x=10∨x=12∨x=13∨x=32:=by unfold p9 at h;simp at h;omega
  clear h;rcases h' with rfl | rfl | rfl | rfl | rfl<;>
   (go_enter Tryz.func140,Tryz.ntmps140
    go_wp2
    go_ret
    exact ⟨rfl,rfl⟩)
 ·have HP:=hid (show p9 x=false by simpa using h)
  have h':x≠9/\x≠10/\x≠12/\x≠13/\x≠32:=by unfold p9 at h;simp at h;omega
  have e1:((x:Int)==9)=false:=by rw [beq_eq_false_iff_ne];omega
  have e2:((x:Int)==10)=false:=by rw [beq_eq_false_iff_ne];omega
  have e3:((x:Int)==12)=false:=by rw [beq_eq_false_iff_ne];omega
  have e4:((x:Int)==13)=false:=by rw [beq_eq_false_iff_ne];omega
  have e5:((x:Int)==32)=false:=by rw [beq_eq_false_iff_ne];omega
  clear h h'
  go_enter Tryz.func140,Tryz.ntmps140
  go_wp2
  go_ret
  rw [HP.out];exact ⟨rfl,rfl⟩
theorem ret_nb9 {a b:Int} {x y:Bool} (h:a=b) (g:x=y):Ending.returned (.tuple #[.int .i64 a,.bool x]) = .returned (.tuple #[.int .i64 b,.bool y]):=by rw [h,g]
theorem size9_any (s:ByteArray) (w:World) (hs:s.size<=4000000000):
 Calls Tryz.prog 176 #[.string s] w fun e w'=>e = .returned (.tuple #[.int .i64 (bitsV s.data.toList),.bool (bitsV s.data.toList != 0)])/\Below w.heap.size w w':=by
 obtain ⟨L,hL⟩: ∃ L:ByteArray,L=⟨(low s.data.toList).toArray⟩:=⟨_,rfl⟩
 have HLw:=hid (show Calls Tryz.prog 37 #[.string s] w fun e w'=>e = .returned (.string L)/\Below w.heap.size w w' by rw [hL];exact lower_any s w (by omega));have hLl:L.data.toList=low s.data.toList:=by rw [hL]
 by_cases h1:low s.data.toList=sha2
 ·have HN:=hid (show bitsV s.data.toList=256 by unfold bitsV;rw [if_pos h1])
  have e1:=beq_yes9 L [115,104,97,50,53,54] (hLl.trans h1)
  clear h1 hL hLl
  go_enter Tryz.func176,Tryz.ntmps176
  go_wp2_with fail
  refine HLw.out.mono ?_;rintro e w1 ⟨rfl,hb⟩
  have HB:=hid hb
  go_wp2_with fail
  go_ret2
  exact ⟨ret_nb9 HN.out.symm (by rw [HN.out];rfl),HB.out⟩
 ·have e1:=beq_no9 L [115,104,97,50,53,54] (fun h=>h1 (hLl.symm.trans h))
  by_cases h2:low s.data.toList=sha3
  ·have HN:=hid (show bitsV s.data.toList=384 by unfold bitsV;rw [if_neg h1,if_pos h2])
   have e2:=beq_yes9 L [115,104,97,51,56,52] (hLl.trans h2)
   clear h1 h2 hL hLl
   go_enter Tryz.func176,Tryz.ntmps176
   go_wp2_with fail
   refine HLw.out.mono ?_;rintro e w1 ⟨rfl,hb⟩
   have HB:=hid hb
   go_wp2_with fail
   go_ret2
   exact ⟨ret_nb9 HN.out.symm (by rw [HN.out];rfl),HB.out⟩
  ·have e2:=beq_no9 L [115,104,97,51,56,52] (fun h=>h2 (hLl.symm.trans h))
   by_cases h3:low s.data.toList=sha5
   ·have HN:=hid (show bitsV s.data.toList=512 by unfold bitsV;rw [if_neg h1,if_neg h2,if_pos h3])
    have e3:=beq_yes9 L [115,104,97,53,49,50] (hLl.trans h3)
    clear h1 h2 h3 hL hLl
    go_enter Tryz.func176,Tryz.ntmps176
    go_wp2_with fail
    refine HLw.out.mono ?_;rintro e w1 ⟨rfl,hb⟩
    have HB:=hid hb
    go_wp2_with fail
    go_ret2
    exact ⟨ret_nb9 HN.out.symm (by rw [HN.out];rfl),HB.out⟩
   ·have HN:=hid (show bitsV s.data.toList=0 by unfold bitsV;rw [if_neg h1,if_neg h2,if_neg h3])
    have e3:=beq_no9 L [115,104,97,53,49,50] (fun h=>h3 (hLl.symm.trans h))
    clear h1 h2 h3 hL hLl
    go_enter Tryz.func176,Tryz.ntmps176
    go_wp2_with fail
    refine HLw.out.mono ?_;rintro e w1 ⟨rfl,hb⟩
    have HB:=hid hb
    go_wp2_with fail
    go_ret2
    exact ⟨ret_nb9 HN.out.symm (by rw [HN.out];rfl),HB.out⟩
def itVal (x:It):Value:= .agg (itC x).toArray
def ItmPost (l:List UInt8) (w:World) (e:Ending) (w':World):Prop:=
 e = .returned (.tuple #[(match itemV l with | some x=>itVal x | none=> .agg #[.int .i64 0,.string ⟨#[]⟩,.string ⟨#[]⟩]),.bool (itemV l).isSome])/\Below w.heap.size w w'
def TriI (w:World) (b:Nat) (n:Int) (v o:ByteArray):Prop:=w.heap[b]? = some (.cells #[.int .i64 n,.string v,.string o] 145 (0,0))
theorem TriI.range {w:World} {b:Nat} {n:Int} {v o:ByteArray} (h:TriI w b n v o):w.rangeAt b 0 [.int .i64 n,.string v,.string o]:=fun j u hu=>by
 rw [Nat.zero_add,Lib.cell_of_heap h]
 match j,hu with
 | 0,hu=>simpa using hu
 | 1,hu=>simpa using hu
 | 2,hu=>simpa using hu
 | j+3,hu=>simp at hu
theorem TriI.cells {w:World} {b:Nat} {n:Int} {v o:ByteArray} (h:TriI w b n v o):w.cell? ⟨b,0,none⟩=some (.int .i64 n)/\w.cell? ⟨b,1,none⟩=some (.string v)/\w.cell? ⟨b,2,none⟩=some (.string o)/\w.frozen? ⟨b,0,none⟩=false/\w.frozen? ⟨b,1,none⟩=false/\w.frozen? ⟨b,2,none⟩=false:=
 ⟨by rw [Lib.cell_of_heap h];rfl,by rw [Lib.cell_of_heap h];rfl,by rw [Lib.cell_of_heap h];rfl,Lib.frozen_of_heap h 0,Lib.frozen_of_heap h 1,Lib.frozen_of_heap h 2⟩
theorem TriI.set {w:World} {b:Nat} {n n':Int} {v v' o o':ByteArray} (h:TriI w b n v o):TriI (((w.setCell ⟨b,0,none⟩ (.int .i64 n')).setCell ⟨b,1,none⟩ (.string v')).setCell ⟨b,2,none⟩ (.string o')) b n' v' o':=by
 have h1:=Lib.heap_setCell_same h (i:=0) (.int .i64 n');have h2:=Lib.heap_setCell_same h1 (i:=1) (.string v');have h3:=Lib.heap_setCell_same h2 (i:=2) (.string o');unfold TriI;rw [h3];rfl
theorem below_set3 {B:Nat} {w0 w:World} {b:Nat} {x y z:Value} (h:Below B w0 w) (hb:B<=b):Below B w0 (((w.setCell ⟨b,0,none⟩ x).setCell ⟨b,1,none⟩ y).setCell ⟨b,2,none⟩ z):=
 ((h.setCell (p:=⟨b,0,none⟩) hb x).setCell (p:=⟨b,1,none⟩) hb y).setCell (p:=⟨b,2,none⟩) hb z
theorem results_i2 {fn:Func} {p q:Tmp} (h:fn.results = #[.cell p 145,.tmp q]) (tmps:Array Value) (w:World) (b:Nat) (n:Int) (v o:ByteArray) (hp:tmps.getD p undef = .pointer (some ⟨b,0,none⟩)) (hc:w.rangeAt b 0 [.int .i64 n,.string v,.string o]):(results fn tmps).run Tryz.prog w = .ok (.tuple #[.agg #[.int .i64 n,.string v,.string o],tmps.getD q undef]) w:=by
 rw [Array.getD_eq_getD_getElem?] at hp;simp only [results,h]
 simp [Sem.run_bind,Result.andThen,hp,asAddr,run_loadVar_mid w b 0 145 [.int .i64 n,.string v,.string o] _ hc Tryz.underlying145 rfl (by kernel_rfl)]
theorem item9_any (s:ByteArray) (w:World) (hg:Gm w) (hs:s.size<=4000000000):
 Calls Tryz.prog 141 #[.string s] w (ItmPost s.data.toList w):=by
 have hp1:=part_le9 63 s.data.toList;have hp2:=part_le9 45 (part9 63 s.data.toList).1;obtain ⟨A,hA⟩: ∃ A:ByteArray,A=⟨(part9 63 s.data.toList).1.toArray⟩:=⟨_,rfl⟩
 obtain ⟨O,hO⟩: ∃ A:ByteArray,A=⟨(part9 63 s.data.toList).2.1.toArray⟩:=⟨_,rfl⟩
 have hAl:A.data.toList=(part9 63 s.data.toList).1:=by rw [hA]
 obtain ⟨N,hN⟩: ∃ A':ByteArray,A'=⟨(part9 45 A.data.toList).1.toArray⟩:=⟨_,rfl⟩
 obtain ⟨V,hV⟩: ∃ A':ByteArray,A'=⟨(part9 45 A.data.toList).2.1.toArray⟩:=⟨_,rfl⟩
 obtain ⟨d,hd⟩: ∃ d,d=(part9 45 A.data.toList).2.2:=⟨_,rfl⟩
 have hNl:N.data.toList=nameV9 s.data.toList:=by rw [hN];show (part9 45 A.data.toList).1=_;rw [hAl];rfl
 have hAs:A.size<=4000000000:=by rw [Lib.size_eq,hAl];rw [Lib.size_eq] at hs;omega
 have hNs:N.size<=4000000000:=by rw [Lib.size_eq,hN];show (part9 45 A.data.toList).1.length<=_;rw [hAl];rw [Lib.size_eq] at hs;omega
 obtain ⟨q,hq⟩: ∃ q,q=(part9 63 s.data.toList).2.2:=⟨_,rfl⟩
 have HC1:=hid (show ∀ X,Below w.heap.size w X->Calls Tryz.prog 19 #[.string s,.string ⟨#[63]⟩] X fun e w'=>e = .returned (.tuple #[.string A,.string O,.bool q])/\Below X.heap.size X w' from fun X hX=>by rw [hA,hO,hq];exact cut9 s 63 X (hg.kept hX) hs);have HC2:=hid (show ∀ X,Below w.heap.size w X->Calls Tryz.prog 19 #[.string A,.string ⟨#[45]⟩] X fun e w'=>e = .returned (.tuple #[.string N,.string V,.bool d])/\Below X.heap.size X w' from fun X hX=>by rw [hN,hV,hd];exact cut9 A 45 X (hg.kept hX) hAs);obtain ⟨b,hb⟩: ∃ b,b=bitsV N.data.toList:=⟨_,rfl⟩
 obtain ⟨k,hk⟩: ∃ k,k=(bitsV N.data.toList != 0):=⟨_,rfl⟩
 have HSZ:=hid (show ∀ X,Calls Tryz.prog 176 #[.string N] X fun e w'=>e = .returned (.tuple #[.int .i64 b,.bool k])/\Below X.heap.size X w' from fun X=>by rw [hb,hk];exact size9_any N X hNs);have HOK:=hid (show okV9 s.data.toList=(d&&k) by unfold okV9;rw [hd,hk,hNl,hAl]);have HIT:=hid (show (⟨bitsV (nameV9 s.data.toList),wantV9 s.data.toList,optV9 s.data.toList⟩:It)=⟨b,V.data.toList,O.data.toList⟩ by
  rw [hb,hNl,hV,hO,hAl];rfl)
 clear hp1 hp2 hA hO hAl hN hV hd hNl hAs hNs hq hb hk hg;have hfin:(d&&k)=true∨(d&&k)=false:=by cases (d&&k)<;>simp
 rcases hfin with hf | hf
 ·have HI:=hid (show itemV s.data.toList=some ⟨b,V.data.toList,O.data.toList⟩ by unfold itemV;rw [HOK.out,hf,if_pos rfl,HIT.out])
  obtain ⟨rfl,rfl⟩:d=true/\k=true:=by simpa using hf
  clear hf HOK HIT
  go_enter Tryz.func141,Tryz.ntmps141
  go_wp2_with fail
  refine (HC1.out _ ((Below.refl _ w).alloc (Nat.le_refl _) _)).mono ?_;rintro e w1 ⟨rfl,hb1⟩
  have HB1:=hid (below2 ((Below.refl _ w).alloc (Nat.le_refl _) _) hb1);have HR1:=hid (row_kept (heap_alloc_new w _) hb1);clear hb1
  go_wp2_with fail
  refine (HC2.out _ HB1.out).mono ?_;rintro e w2 ⟨rfl,hb2⟩
  have HB2:=hid (below2 HB1.out hb2);have HR2:=hid (row_kept HR1.out hb2);clear hb2 HR1
  go_wp2_with fail
  refine (HSZ.out _).mono ?_;rintro e w3 ⟨rfl,hb3⟩
  have HB3:=hid (below2 HB2.out hb3);have HR3:=hid (row_kept HR2.out hb3);clear hb3 HR2;obtain ⟨c0,c1,c2,z0,z1,z2⟩:=TriI.cells HR3.out
  go_wp2_with fail
  refine bodyPost_ret (results_i2 rfl _ _ w.heap.size b V O rfl (TriI.set HR3.out).range) rfl ⟨?_,below_set3 HB3.out (Nat.le_refl _)⟩
  rw [HI.out];show _=Ending.returned (.tuple #[.agg #[.int .i64 b,.string ⟨V.data.toList.toArray⟩,.string ⟨O.data.toList.toArray⟩],.bool true]);rw [Lib.mk_data,Lib.mk_data]
  rfl
 ·have HI:=hid (show itemV s.data.toList=none by unfold itemV;rw [HOK.out,hf];rfl)
  clear HOK HIT
  cases d with
  | false=>
    clear hf
    go_enter Tryz.func141,Tryz.ntmps141
    go_wp2_with fail
    refine (HC1.out _ ((Below.refl _ w).alloc (Nat.le_refl _) _)).mono ?_;rintro e w1 ⟨rfl,hb1⟩
    have HB1:=hid (below2 ((Below.refl _ w).alloc (Nat.le_refl _) _) hb1);have HR1:=hid (row_kept (heap_alloc_new w _) hb1);clear hb1
    go_wp2_with fail
    refine (HC2.out _ HB1.out).mono ?_;rintro e w2 ⟨rfl,hb2⟩
    have HB2:=hid (below2 HB1.out hb2);have HR2:=hid (row_kept HR1.out hb2);clear hb2 HR1
    go_wp2_with fail
    refine (HSZ.out _).mono ?_;rintro e w3 ⟨rfl,hb3⟩
    have HB3:=hid (below2 HB2.out hb3);have HR3:=hid (row_kept HR2.out hb3);clear hb3 HR2;obtain ⟨c0,c1,c2,z0,z1,z2⟩:=TriI.cells HR3.out
    go_wp2_with fail
    refine bodyPost_ret (results_i2 rfl _ _ w.heap.size 0 ⟨#[]⟩ ⟨#[]⟩ rfl (TriI.set HR3.out).range) rfl ⟨?_,below_set3 HB3.out (Nat.le_refl _)⟩
    rw [HI.out];rfl
  | true=>
    obtain rfl:k=false:=by simpa using hf
    clear hf
    go_enter Tryz.func141,Tryz.ntmps141
    go_wp2_with fail
    refine (HC1.out _ ((Below.refl _ w).alloc (Nat.le_refl _) _)).mono ?_;rintro e w1 ⟨rfl,hb1⟩
    have HB1:=hid (below2 ((Below.refl _ w).alloc (Nat.le_refl _) _) hb1);have HR1:=hid (row_kept (heap_alloc_new w _) hb1);clear hb1
    go_wp2_with fail
    refine (HC2.out _ HB1.out).mono ?_;rintro e w2 ⟨rfl,hb2⟩
    have HB2:=hid (below2 HB1.out hb2);have HR2:=hid (row_kept HR1.out hb2);clear hb2 HR1
    go_wp2_with fail
    refine (HSZ.out _).mono ?_;rintro e w3 ⟨rfl,hb3⟩
    have HB3:=hid (below2 HB2.out hb3);have HR3:=hid (row_kept HR2.out hb3);clear hb3 HR2;obtain ⟨c0,c1,c2,z0,z1,z2⟩:=TriI.cells HR3.out
    go_wp2_with fail
    refine bodyPost_ret (results_i2 rfl _ _ w.heap.size 0 ⟨#[]⟩ ⟨#[]⟩ rfl (TriI.set HR3.out).range) rfl ⟨?_,below_set3 HB3.out (Nat.le_refl _)⟩
    rw [HI.out];rfl
theorem infoIt:(Tryz.prog.info? 145).map (fun i=>(i.zero,i.size,i.bytes))=some (some (.agg #[.int .i64 0,.string ByteArray.empty,.string ByteArray.empty]),3,40):=by kernel_rfl
theorem enters_blank: ∀ args w,(callFunc 140 args).run Tryz.prog w = .ok (.enter 140 args) w:=enters_of Tryz.func140 (by kernel_rfl) rfl
theorem fields9 (s:ByteArray) (w:World) (hs:s.size<=4294967296):
 Calls Tryz.prog 35 #[.string s,.func (.func 140) #[] #[]] w fun e w'=> ∃ A,e = .returned (.slice (some ⟨A,0,none⟩) (words9 s.data.toList).length (words9 s.data.toList).length) /\
  (∀ j (hj:j<(words9 s.data.toList).length),w'.cell? ⟨A,j,none⟩=some (.string ⟨(words9 s.data.toList)[j].toArray⟩))/\Below w.heap.size w w':=by
 have h:=Tryz.strings_FieldsFunc_runes 140 #[] enters_blank p9 s w hs (fun W x hx hb=>by
  refine (blank9_any x W).mono ?_;rintro e w' ⟨rfl,rfl⟩
  exact ⟨rfl,0,rfl⟩)
 rw [fields_words,List.length_map,List.map_map] at h
 refine h.mono ?_;rintro e w' ⟨A,rfl,hA,hown,hb⟩
 refine ⟨A,rfl,fun j hj=> ?_,hb⟩
 rw [hown.cellAt j (by omega)];simp [hj]
theorem own_lower9 {w:World} {B B':Nat} {e:TypeId} {size:Nat} {v:Value} {n:Nat} {xs:List Value} (h:w.ownsRow B e size v n xs) (hB:B'<=B):w.ownsRow B' e size v n xs:=by
 refine ⟨h.1,?_⟩
 rcases h.2 with h | ⟨g,cap,cur,hv,h1,h2⟩
 ·exact .inl h
 ·exact .inr ⟨g,cap,cur,hv,by omega,h2⟩
def ParsePost9 (l:List UInt8) (w:World) (e:Ending) (w':World):Prop:=
 ∃ v,e = .returned v/\w'.ownsRow w.heap.size 145 3 v (parse9 l).length (cellsI9 (parse9 l))/\Below w.heap.size w w'
theorem words_at (l:List UInt8) (k:Nat) (hk:k<(words9 l).length):(words9 l)[k].length<=l.length:=by
 have:=(wds_len l []).2 _ (List.getElem_mem hk);simpa using this
theorem parse9_any (s:ByteArray) (w:World) (hg:Gm w) (hs:s.size<=1000000000):
 Calls Tryz.prog 100 #[.string s] w (ParsePost9 s.data.toList w):=by
 obtain ⟨i0,hi,hz0,hz1,hz2⟩:=info_parts infoIt
 obtain ⟨W,hW⟩: ∃ W,W=words9 s.data.toList:=⟨_,rfl⟩
 have HWL:=hid (show W.length<=1000000001 by rw [hW];have:=(wds_len s.data.toList []).1;rw [<- Lib.size_eq] at this;unfold words9;omega);have HWA:=hid (show ∀ k (hk:k<W.length),W[k].length<=1000000000 by subst hW;intro k hk;have:=words_at s.data.toList k hk;rw [<- Lib.size_eq] at this;omega);have HPE:=hid (show parse9 s.data.toList=W.filterMap itemV by rw [hW];rfl);have HG:=hid hg;obtain ⟨n,hn⟩: ∃ n,n=W.length:=⟨_,rfl⟩
 have HN:=hid hn;have HF:=hid (show Calls Tryz.prog 35 #[.string s,.func (.func 140) #[] #[]] w fun e w'=> ∃ A,e = .returned (.slice (some ⟨A,0,none⟩) n n)/\(∀ j (hj:j<W.length),w'.cell? ⟨A,j,none⟩=some (.string ⟨W[j].toArray⟩))/\Below w.heap.size w w' by
  subst hW;rw [hn];exact fields9 s w (by omega))
 rw [<- hn] at HWL;clear hW hg hn
 go_enter Tryz.func100,Tryz.ntmps100
 go_wp2_with fail
 refine HF.out.mono ?_;rintro e w1 ⟨A,rfl,hA,hb1⟩
 have HA:=hid hA;have HB1:=hid hb1;clear hA hb1 HF;have hnb:n<=1000000001:=HWL.out
 go_wp2_with fail
 go_loopw [3,11] (fun v3 v11 wr=> ∃ k m:Nat,k<=n/\m<=k/\v11 = .int .i64 k/\Hid (m=((W.take k).filterMap itemV).length/\wr.ownsRow w1.heap.size 145 3 v3 m (cellsI9 ((W.take k).filterMap itemV))/\Below w1.heap.size w1 wr/\Below w.heap.size w wr)) (fun _ v11 _=>n - (intOf v11).toNat)
 case atStart=>exact ⟨0,0,Nat.zero_le _,Nat.zero_le _,rfl,rfl,World.ownsRow_nil _ _ _ _,Below.refl _ _,HB1.out⟩
 case round=>
  obtain ⟨k,m,hk,hmk,rfl,HR⟩:=hrel
  by_cases hlt:k<n
  ·have hkW:k<W.length:=by have:=HN.out;omega
   obtain ⟨X,hX⟩: ∃ X:ByteArray,X=⟨W[k].toArray⟩:=⟨_,rfl⟩
   have cA:wr.cell? ⟨A,k,none⟩=some (.string X):=by rw [hX];exact kept_cell (HA.out k hkW) HR.out.2.2.1
   have hXs:X.size<=4000000000:=by have:=HWA.out k hkW;rw [Lib.size_eq,hX];show W[k].length<=_;omega
   have HT:=hid (show (W.take (k+1)).filterMap itemV=(W.take k).filterMap itemV++(match itemV X.data.toList with | some x=>[x] | none=>[]) by
    rw [List.take_succ_eq_append_getElem hkW,List.filterMap_append,hX]
    congr 1
    show List.filterMap itemV [W[k]]=_
    cases h:itemV W[k]<;>simp [h])
   have HI:=hid (item9_any X wr (HG.out.kept HR.out.2.2.2) hXs);have hin:(k:Int)<(n:Int):=by omega
   clear hX hXs hkW;rcases hiv:itemV X.data.toList with _ | x
   ·have HV:=hid hiv
    have HI2:=hid (show Calls Tryz.prog 141 #[.string X] wr fun e w'=>e = .returned (.tuple #[.agg #[.int .i64 0,.string ⟨#[]⟩,.string ⟨#[]⟩],.bool false])/\Below wr.heap.size wr w' by
     refine HI.out.mono ?_;rintro e w' ⟨rfl,hb⟩
     rw [HV.out];exact ⟨rfl,hb⟩)
    rw [HV.out] at HT;clear hiv HI
    go_wp2_with fail
    refine HI2.out.mono ?_;rintro e w2 ⟨rfl,hb2⟩
    have HB2:=hid hb2;clear hb2
    go_wp2_with fail
    go_roundw
    case rel=>
     have hbw:Below wr.heap.size wr (w2.alloc (.cells #[.int .i64 0,.string ⟨#[]⟩,.string ⟨#[]⟩] 145)):=below2 HB2.out ((Below.refl _ _).alloc (Nat.le_refl _) _);have e3:=HR.out;have e4:(m=((W.take (k+1)).filterMap itemV).length/\(w2.alloc (.cells #[.int .i64 0,.string ⟨#[]⟩,.string ⟨#[]⟩] 145)).ownsRow w1.heap.size 145 3 u3 m (cellsI9 ((W.take (k+1)).filterMap itemV))/\Below w1.heap.size w1 (w2.alloc (.cells #[.int .i64 0,.string ⟨#[]⟩,.string ⟨#[]⟩] 145))/\Below w.heap.size w (w2.alloc (.cells #[.int .i64 0,.string ⟨#[]⟩,.string ⟨#[]⟩] 145))):=by
      rw [HT.out,List.append_nil]
      exact ⟨e3.1,own_kept e3.2.1 hbw,below2 e3.2.2.1 hbw,below2 e3.2.2.2 hbw⟩
     first
      | exact ⟨k+1,m,by omega,by omega,by go_num,e4⟩
      | ((repeat apply Exists.intro);refine ⟨?_,rfl⟩;exact ⟨k+1,m,by omega,by omega,by go_num,e4⟩)
      | ((repeat apply Exists.intro);exact ⟨⟨k+1,m,by omega,by omega,by go_num,e4⟩,rfl⟩)
    case measure=>simp [intOf];omega
   ·have HV:=hid hiv
    obtain ⟨b,hbx⟩: ∃ b,b=x.bits:=⟨_,rfl⟩
    obtain ⟨V,hVx⟩: ∃ V:ByteArray,V=⟨x.want.toArray⟩:=⟨_,rfl⟩
    obtain ⟨O,hOx⟩: ∃ V:ByteArray,V=⟨x.opt.toArray⟩:=⟨_,rfl⟩
    have HI2:=hid (show Calls Tryz.prog 141 #[.string X] wr fun e w'=>e = .returned (.tuple #[.agg #[.int .i64 b,.string V,.string O],.bool true])/\Below wr.heap.size wr w' by
     refine HI.out.mono ?_;rintro e w' ⟨rfl,hb⟩
     rw [HV.out,hbx,hVx,hOx]
     exact ⟨rfl,hb⟩)
    have HCE:=hid (show cellsI9 [x]=[.int .i64 b,.string V,.string O] by rw [hbx,hVx,hOx];rfl);rw [HV.out] at HT;clear hiv HI hbx hVx hOx
    go_wp2_with fail
    refine HI2.out.mono ?_;rintro e w2 ⟨rfl,hb2⟩
    have HB2:=hid hb2;clear hb2;have HX3:=hid (show Below wr.heap.size wr (w2.alloc (.cells #[.int .i64 b,.string V,.string O] 145)) from below2 HB2.out ((Below.refl _ _).alloc (Nat.le_refl _) _));have HO3:=hid (own_kept HR.out.2.1 HX3.out);have HSZ:=hid (show w1.heap.size<=w2.heap.size from Nat.le_trans HR.out.2.2.1.size HB2.out.size)
    go_wp2_with (at_builtin;refine wpList_append_own _ rfl _ _ 142 rfl w1.heap.size 145 i0 _ 3 40 Tryz.underlying142 hi hz0 hz1 hz2 rfl (by decide) _ _ _ rfl (HO3.out.alloc _) ⟨w2.heap.size+1,0,none⟩ 1 1 [.int .i64 b,.string V,.string O] rfl rfl ?c1 ?c2 (by unfold maxLen;omega) (by omega) (by have:=HSZ.out;simp;omega) ?_)
    case c1=>
     intro q u hq
     match q,hq with
     | 0,hq=>simp at hq;subst hq;simp [Addr.add]
     | 1,hq=>simp at hq;subst hq;simp [Addr.add]
     | 2,hq=>simp at hq;subst hq;simp [Addr.add]
    case c2=>intro u hu;simp at hu;rcases hu with rfl | rfl | rfl<;>rfl
    intro v4 w4 hown hgrow hnil;have HR4:=hid (show m+1=((W.take (k+1)).filterMap itemV).length/\w4.ownsRow w1.heap.size 145 3 v4 (m+1) (cellsI9 ((W.take (k+1)).filterMap itemV))/\Below w1.heap.size w1 w4/\Below w.heap.size w w4 by
     have e1:Below w1.heap.size w1 w4:=((below2 HR.out.2.2.1 HX3.out).alloc (by have:=HSZ.out;simp;omega) _).grown hgrow (by have:=HSZ.out;simp;omega) (fun k hk=>(HO3.out.lt k hk).1)
     refine ⟨?_,?_,e1,below2 HB1.out e1⟩
     ·rw [HT.out,List.length_append,<- HR.out.1];rfl
     ·rw [HT.out,cellsI_app9,HCE.out]
      exact hown)
    go_wp2_with fail
    go_roundw
    case rel=>
     first
      | exact ⟨k+1,m+1,by omega,by omega,by go_num,HR4.out⟩
      | ((repeat apply Exists.intro);refine ⟨?_,rfl⟩;exact ⟨k+1,m+1,by omega,by omega,by go_num,HR4.out⟩)
      | ((repeat apply Exists.intro);exact ⟨⟨k+1,m+1,by omega,by omega,by go_num,HR4.out⟩,rfl⟩)
    case measure=>simp [intOf];omega
  ·obtain rfl:k=n:=by omega
   have HFN:=hid (show wr.ownsRow w.heap.size 145 3 u3 (parse9 s.data.toList).length (cellsI9 (parse9 s.data.toList)) by
    have h:=HR.out;rw [List.take_of_length_le (by have:=HN.out;omega),<- HPE.out] at h;rw [<- h.1];exact own_lower9 h.2.1 HB1.out.size)
   have HBF:=hid HR.out.2.2.2;clear HR hk hmk hlt
   go_wp2_with fail
   go_ret
   exact ⟨u3,rfl,HFN.out,HBF.out⟩
theorem indexS_any (f:Nat) (lb:Array Value) (eg: ∀ args w,(callFunc f args).run Tryz.prog w = .ok (.enter f args) w) (q:List UInt8->Bool) (v:Value) (L:List (List UInt8)) (w:World) (hv:TxAt w v L) (hl:L.length<=1000000) (hq: ∀ (X:World) (x:List UInt8),x ∈ L->Below w.heap.size w X->Calls Tryz.prog f (#[.string ⟨x.toArray⟩]++lb) X fun e w'=>e = .returned (.bool (q x))/\Below X.heap.size X w'):
 Calls Tryz.prog 93 #[v,.func (.func f) #[] lb] w fun e w'=> ∃ z:Int,e = .returned (.int .i64 z)/\decide (0<=z)=L.any q/\Below w.heap.size w w':=by
 obtain ⟨a1,c1,rfl,hc1,hm1,hv1⟩:=hv.view
 have HV:=hid hv1;have HQ:=hid hq;obtain ⟨n,hn⟩: ∃ n,n=L.length:=⟨_,rfl⟩
 have HN:=hid hn;rw [<- hn] at hc1 hl ⊢;clear hv hv1 hq hn
 go_enter Tryz.func93,Tryz.ntmps93
 go_wp2_with fail
 go_loopw [8] (fun v8 wr=> ∃ k:Nat,k<=n/\v8 = .int .i64 k/\Hid (((L.take k).any q)=false/\Below w.heap.size w wr)) (fun v8 _=>n - (intOf v8).toNat)
 case atStart=>exact ⟨0,Nat.zero_le _,rfl,rfl,Below.refl _ w⟩
 case round=>
  obtain ⟨k,hk,rfl,HR⟩:=hrel
  by_cases hlt:k<n
  ·have hkL:k<L.length:=by have:=HN.out;omega
   obtain ⟨b1,o1,rfl,e1⟩:=HV.out k hkL
   obtain ⟨x,hx⟩: ∃ x,x=L[k]:=⟨_,rfl⟩
   rw [<- hx] at e1;have HXM:=hid (show x ∈ L by rw [hx];exact List.getElem_mem hkL);obtain ⟨V,hVx⟩: ∃ V:ByteArray,V=⟨x.toArray⟩:=⟨_,rfl⟩
   rw [<- hVx] at e1;have f1:=keptC e1 HR.out.2;have HCL:=hid (show Calls Tryz.prog f (#[.string V]++lb) wr fun e w'=>e = .returned (.bool (q x))/\Below wr.heap.size wr w' by
    rw [hVx];exact HQ.out wr x HXM.out HR.out.2)
   have HT:=hid (show (L.take (k+1)).any q=q x by rw [List.take_succ_eq_append_getElem hkL,List.any_append,HR.out.1,<- hx];simp);have HTA:=hid (show q x=true->L.any q=true from fun h=>List.any_eq_true.2 ⟨x,HXM.out,h⟩);obtain ⟨y,hy⟩: ∃ y,y=q x:=⟨_,rfl⟩
   rw [<- hy] at HCL HT HTA;have hin:(k:Int)<(n:Int):=by omega
   clear e1 hx hVx hkL hy
   go_wp2_with fail
   refine HCL.out.mono ?_;rintro e w2 ⟨rfl,hb2⟩
   have HB2:=hid (below2 HR.out.2 hb2);clear hb2
   cases y with
   | false=>
     go_wp2_with fail
     go_roundw
     case rel=>
      have e4:((L.take (k+1)).any q)=false/\Below w.heap.size w w2:=⟨HT.out,HB2.out⟩
      first
       | exact ⟨k+1,by omega,by go_num,e4⟩
       | ((repeat apply Exists.intro);refine ⟨?_,rfl⟩;exact ⟨k+1,by omega,by go_num,e4⟩)
       | ((repeat apply Exists.intro);exact ⟨⟨k+1,by omega,by go_num,e4⟩,rfl⟩)
     case measure=>simp [intOf];omega
   | true=>
     go_wp2_with fail
     go_ret
     exact ⟨(k:Int),rfl,by rw [HTA.out (by trivial)];simp,HB2.out⟩
  ·obtain rfl:k=n:=by omega
   have HA:=hid (show L.any q=false by have h:=HR.out.1;rwa [List.take_of_length_le (by have:=HN.out;omega)] at h);have HB:=hid HR.out.2;clear HR hk hlt
   go_wp2_with fail
   go_ret
   exact ⟨-1,rfl,by rw [HA.out];rfl,HB.out⟩
theorem containsS_any (q:List UInt8->Bool) (v fv:Value) (L:List (List UInt8)) (w:World) (hv:TxAt w v L) (hl:L.length<=1000000) (hs: ∀ x ∈ L,x.length<=1000000) (hr:Rdr11 w fv q):
 Calls Tryz.prog 76 #[v,fv] w fun e w'=>e = .returned (.bool (L.any q))/\Below w.heap.size w w':=by
 obtain ⟨f,lb,rfl,eg,hc⟩:=hr
 have HI:=hid (indexS_any f lb eg q v L w hv hl (fun X x hx hX=>hc X ⟨x.toArray⟩ hX (by have:=hs x hx;rw [Lib.size_eq];show x.length<=_;omega)));clear hv hl hc hs
 go_enter Tryz.func76,Tryz.ntmps76
 go_wp2_with fail
 refine HI.out.mono ?_;rintro e w2 ⟨z,rfl,hz,hb⟩
 have HZ:=hid hz;have HB:=hid hb;clear hz hb
 go_wp2_with fail
 go_ret
 exact ⟨ret_bool HZ.out,HB.out⟩
def shaV (x:It):List UInt8:=[39,115,104,97]++Lib.itoa x.bits++[45]++x.want++[39]
theorem itoa11_any (n:Int) (w:World) (hg:Gd w) (h0: -9223372036854775808<=n) (h1:n<=9223372036854775807):
 Calls Tryz.prog 73 #[.int .i64 n] w fun e w'=>e = .returned (.string ⟨(Lib.itoa n).toArray⟩)/\Below w.heap.size w w':=by
 refine (Tryz.strconv_Itoa n h0 h1 w hg.2.1).mono ?_;rintro e w' ⟨rfl,k,os,rfl⟩
 exact ⟨rfl,Lib.below_grow _ _ (Nat.le_refl _) _ _⟩
theorem itoa_sm11 (b:Int) (h:b=256∨b=384∨b=512):(Lib.itoa b).length=3:=by
 rcases h with rfl | rfl | rfl<;>decide +kernel
theorem enters_nm1: ∀ args w,(callFunc 101 args).run Tryz.prog w = .ok (.enter 101 args) w:=enters_of Tryz.func101 (by kernel_rfl) rfl
theorem nm1_any (cn:Nat) (nv:Value) (q:List UInt8->Bool) (x:It) (w:World) (hg:Gd w) (hn:w.cell? ⟨cn,0,none⟩=some nv) (hr:Rdr11 w nv q) (hx:x.want.length<=1000000) (hb:x.bits=256∨x.bits=384∨x.bits=512):
 Calls Tryz.prog 101 #[itVal x,.pointer (some ⟨cn,0,none⟩)] w fun e w'=>e = .returned (.bool (!q (shaV x)))/\Below w.heap.size w w':=by
 obtain ⟨f,lb,rfl,eg,hc⟩:=hr
 obtain ⟨V,hV⟩: ∃ V:ByteArray,V=⟨x.want.toArray⟩:=⟨_,rfl⟩
 obtain ⟨O,hO⟩: ∃ V:ByteArray,V=⟨x.opt.toArray⟩:=⟨_,rfl⟩
 obtain ⟨b,hbe⟩: ∃ b,b=x.bits:=⟨_,rfl⟩
 have hVl:V.data.toList=x.want:=by rw [hV]
 have hVs:V.size<=1000000:=by rw [Lib.size_eq,hVl];exact hx
 rw [show itVal x = .agg #[.int .i64 b,.string V,.string O] by rw [hbe,hV,hO];rfl];obtain ⟨I,hI⟩: ∃ V:ByteArray,V=⟨(Lib.itoa b).toArray⟩:=⟨_,rfl⟩
 have hIl:I.data.toList=Lib.itoa x.bits:=by rw [hI,hbe]
 have hIs:I.size=3:=by rw [Lib.size_eq,hIl];exact itoa_sm11 x.bits hb
 obtain ⟨T1,hT1⟩: ∃ Z:ByteArray,(⟨#[39,115,104,97]⟩:ByteArray)++I=Z:=⟨_,rfl⟩
 have hT1l:T1.data.toList=[39,115,104,97]++Lib.itoa x.bits:=by rw [<- hT1,ByteArray.data_append,Array.toList_append,hIl]
 have hT1s:T1.size=7:=by rw [Lib.size_eq,hT1l,List.length_append,itoa_sm11 x.bits hb];rfl
 obtain ⟨T2,hT2⟩: ∃ Z:ByteArray,T1++(⟨#[45]⟩:ByteArray)=Z:=⟨_,rfl⟩
 have hT2l:T2.data.toList=[39,115,104,97]++Lib.itoa x.bits++[45]:=by rw [<- hT2,ByteArray.data_append,Array.toList_append,hT1l]
 have hT2s:T2.size=8:=by rw [Lib.size_eq,<- hT2,ByteArray.data_append,Array.toList_append,List.length_append,<- Lib.size_eq,hT1s];rfl
 obtain ⟨T3,hT3⟩: ∃ Z:ByteArray,T2++V=Z:=⟨_,rfl⟩
 have hT3l:T3.data.toList=[39,115,104,97]++Lib.itoa x.bits++[45]++x.want:=by rw [<- hT3,ByteArray.data_append,Array.toList_append,hT2l,hVl]
 have hT3s:T3.size<=1000008:=by rw [Lib.size_eq,<- hT3,ByteArray.data_append,Array.toList_append,List.length_append,<- Lib.size_eq,<- Lib.size_eq];omega
 obtain ⟨T4,hT4⟩: ∃ Z:ByteArray,T3++(⟨#[39]⟩:ByteArray)=Z:=⟨_,rfl⟩
 have hT4l:T4.data.toList=shaV x:=by rw [<- hT4,ByteArray.data_append,Array.toList_append,hT3l];rfl
 have hT4s:T4.size<=1000009:=by rw [Lib.size_eq,<- hT4,ByteArray.data_append,Array.toList_append,List.length_append,<- Lib.size_eq];simp;omega
 obtain ⟨W,hW⟩: ∃ W,(w.alloc (.cells #[.int .i64 b,.string V,.string O] 145))=W:=⟨_,rfl⟩
 have hbW:Below w.heap.size w W:=by rw [<- hW];exact (Below.refl _ w).alloc (Nat.le_refl _) _
 have hrow:W.heap[w.heap.size]? = some (.cells #[.int .i64 b,.string V,.string O] 145 (0,0)):=by rw [<- hW];exact heap_alloc_new w _
 have h0:W.cell? ⟨w.heap.size,0,none⟩=some (.int .i64 b):=by rw [Lib.cell_of_heap hrow];rfl
 have h1:W.cell? ⟨w.heap.size,1,none⟩=some (.string V):=by rw [Lib.cell_of_heap hrow];rfl
 have HKF:=hid (show ∀ Z,Below W.heap.size W Z->Z.cell? ⟨cn,0,none⟩=some (.func (.func f) #[] lb)/\Z.cell? ⟨w.heap.size,0,none⟩=some (.int .i64 b)/\Z.cell? ⟨w.heap.size,1,none⟩=some (.string V) from fun Z hZ=>⟨keptC hn (below2 hbW hZ),keptC h0 hZ,keptC h1 hZ⟩);have HIt:=hid (fun (X:World) (hX:Below W.heap.size W X)=>itoa11_any b X ((hg.kept hbW).kept hX) (by rw [hbe];omega) (by rw [hbe];omega));rw [<- hI] at HIt;have HC:=hid (fun (X:World) (hX:Below W.heap.size W X)=>hc X T4 (below2 hbW hX) (by omega));rw [hT4l] at HC;have HBW:=hid hbW;obtain ⟨r,hrq⟩: ∃ r,q (shaV x)=r:=⟨_,rfl⟩
 rw [hrq] at HC;rw [hrq];clear hrq hg hn hc hx hb hV hO hbe hVl hI hIl hT1l hT2l hT3l hT4l hbW hrow h0 h1
 go_enter Tryz.func101,Tryz.ntmps101
 go_wp2_with fail
 have HQ0:=hid ((Below.refl W.heap.size W).drew);refine wp_region_held_drew (S:=(fun wx=>Below W.heap.size W wx)) (by kernel_rfl) HQ0.out (fun hHeld=> ?_)
 refine' wpAnyH_take (i:=0) (oi:=⟨some 4,_,_,_,_,_⟩) (v:=_) rfl (by kernel_rfl) (by kernel_rfl) (by kernel_rfl) (fun _ _ _ h=>h) (Or.inl ⟨by kernel_rfl,?hy1⟩) (by assumption) ?rest1
 case hy1=>(intro wx hSw;(try dsimp only at hSw);obtain ⟨k0,k1,k2⟩:=HKF.out _ hSw;go_simp;first | done | with_reducible rfl | (rw [if_neg (by omega)];with_reducible rfl) | (rw [if_neg (by omega)]))
 (try simp only [Act.put,List.setIfInBounds_toArray,List.set_cons_zero,List.set_cons_succ])
 refine' wpAnyH_take (i:=1) (oi:=⟨some 5,_,_,_,_,_⟩) (v:=_) rfl (by kernel_rfl) (by kernel_rfl) (by kernel_rfl) (fun _ _ _ h=>h) (Or.inl ⟨by kernel_rfl,?hy2⟩) (by assumption) ?rest2
 case hy2=>(intro wx hSw;(try dsimp only at hSw);obtain ⟨k0,k1,k2⟩:=HKF.out _ hSw;go_simp;first | done | with_reducible rfl | (rw [if_neg (by omega)];with_reducible rfl) | (rw [if_neg (by omega)]))
 (try simp only [Act.put,List.setIfInBounds_toArray,List.set_cons_zero,List.set_cons_succ])
 refine' wpAnyH_take (i:=2) (oi:=⟨some 6,_,_,_,_,_⟩) (v:=_) rfl (by kernel_rfl) (by kernel_rfl) (by kernel_rfl) (fun _ _ _ h=>h) (Or.inl ⟨by kernel_rfl,?hy3⟩) (by assumption) ?rest3
 case hy3=>(intro wx hSw;(try dsimp only at hSw);obtain ⟨k0,k1,k2⟩:=HKF.out _ hSw;go_simp;first | done | with_reducible rfl | (rw [if_neg (by omega)];with_reducible rfl) | (rw [if_neg (by omega)]))
 (try simp only [Act.put,List.setIfInBounds_toArray,List.set_cons_zero,List.set_cons_succ])
 refine' wpAnyH_take (i:=6) (oi:=⟨some 10,_,_,_,_,_⟩) (v:=_) rfl (by kernel_rfl) (by kernel_rfl) (by kernel_rfl) (fun _ _ _ h=>h) (Or.inl ⟨by kernel_rfl,?hy4⟩) (by assumption) ?rest4
 case hy4=>(intro wx hSw;(try dsimp only at hSw);obtain ⟨k0,k1,k2⟩:=HKF.out _ hSw;go_simp;first | done | with_reducible rfl | (rw [if_neg (by omega)];with_reducible rfl) | (rw [if_neg (by omega)]))
 (try simp only [Act.put,List.setIfInBounds_toArray,List.set_cons_zero,List.set_cons_succ])
 refine' wpAnyH_take (i:=7) (oi:=⟨some 11,_,_,_,_,_⟩) (v:=_) rfl (by kernel_rfl) (by kernel_rfl) (by kernel_rfl) (fun _ _ _ h=>h) (Or.inl ⟨by kernel_rfl,?hy5⟩) (by assumption) ?rest5
 case hy5=>(intro wx hSw;(try dsimp only at hSw);obtain ⟨k0,k1,k2⟩:=HKF.out _ hSw;go_simp;first | done | with_reducible rfl | (rw [if_neg (by omega)];with_reducible rfl) | (rw [if_neg (by omega)]))
 (try simp only [Act.put,List.setIfInBounds_toArray,List.set_cons_zero,List.set_cons_succ])
 refine wpAnyH_ready (rs:=[3]) (by kernel_rfl) (by simp) ?_
 refine AllReadyH.cons rfl (fun K hK=> ?_) AllReadyH.nil;rw [if_pos (by kernel_rfl)]
 go_simp
 go_wp2_with (go_at_call 73;refine (HIt.out _ HQ0.out).mono ?_;rintro e wa ⟨rfl,hba⟩)
 have HQ1:=hid (below2 HQ0.out hba);clear hba;refine hK.out _ _ HQ1.out (fun hHeld2=> ?_);clear hK K hHeld
 rename _=>hHeld
 refine' wpAnyH_take (i:=4) (oi:=⟨some 8,_,_,_,_,_⟩) (v:=_) rfl (by kernel_rfl) (by kernel_rfl) (by kernel_rfl) (fun _ _ _ h=>h) (Or.inl ⟨by kernel_rfl,?hy6⟩) (by assumption) ?rest6
 case hy6=>(intro wx hSw;(try dsimp only at hSw);obtain ⟨k0,k1,k2⟩:=HKF.out _ hSw;go_simp;first | done | with_reducible rfl | (rw [if_neg (by omega)];with_reducible rfl) | (rw [if_neg (by omega)]))
 (try simp only [Act.put,List.setIfInBounds_toArray,List.set_cons_zero,List.set_cons_succ])
 refine' wpAnyH_take (i:=5) (oi:=⟨some 9,_,_,_,_,_⟩) (v:=_) rfl (by kernel_rfl) (by kernel_rfl) (by kernel_rfl) (fun _ _ _ h=>h) (Or.inl ⟨by kernel_rfl,?hy7⟩) (by assumption) ?rest7
 case hy7=>(intro wx hSw;(try dsimp only at hSw);obtain ⟨k0,k1,k2⟩:=HKF.out _ hSw;go_simp;first | done | with_reducible rfl | (rw [if_neg (by omega)];with_reducible rfl) | (rw [if_neg (by omega)]))
 (try simp only [Act.put,List.setIfInBounds_toArray,List.set_cons_zero,List.set_cons_succ])
 refine' wpAnyH_take (i:=8) (oi:=⟨some 12,_,_,_,_,_⟩) (v:=_) rfl (by kernel_rfl) (by kernel_rfl) (by kernel_rfl) (fun _ _ _ h=>h) (Or.inl ⟨by kernel_rfl,?hy8⟩) (by assumption) ?rest8
 case hy8=>(intro wx hSw;(try dsimp only at hSw);obtain ⟨k0,k1,k2⟩:=HKF.out _ hSw;go_simp;first | done | with_reducible rfl | (rw [if_neg (by omega)];with_reducible rfl) | (rw [if_neg (by omega)]))
 (try simp only [Act.put,List.setIfInBounds_toArray,List.set_cons_zero,List.set_cons_succ])
 refine' wpAnyH_take (i:=9) (oi:=⟨some 13,_,_,_,_,_⟩) (v:=_) rfl (by kernel_rfl) (by kernel_rfl) (by kernel_rfl) (fun _ _ _ h=>h) (Or.inl ⟨by kernel_rfl,?hy9⟩) (by assumption) ?rest9
 case hy9=>(intro wx hSw;(try dsimp only at hSw);obtain ⟨k0,k1,k2⟩:=HKF.out _ hSw;go_simp;first | done | with_reducible rfl | (rw [if_neg (by omega)];with_reducible rfl) | (rw [if_neg (by omega)]))
 (try simp only [Act.put,List.setIfInBounds_toArray,List.set_cons_zero,List.set_cons_succ])
 refine wpAnyH_ready (rs:=[10]) (by kernel_rfl) (by simp) ?_
 refine AllReadyH.cons rfl (fun K hK=> ?_) AllReadyH.nil;rw [if_pos (by kernel_rfl)]
 go_simp
 refine (HC.out _ HQ1.out).mono ?_;rintro e wb ⟨rfl,hbb⟩
 have HQ2:=hid (below2 HQ1.out hbb);clear hbb;refine hK.out _ _ HQ2.out (fun hHeld2=> ?_);clear hK K hHeld
 rename _=>hHeld
 refine' wpAnyH_take (i:=11) (oi:=⟨some 15,_,_,_,_,_⟩) (v:=_) rfl (by kernel_rfl) (by kernel_rfl) (by kernel_rfl) (fun _ _ _ h=>h) (Or.inl ⟨by kernel_rfl,?hy10⟩) (by assumption) ?rest10
 case hy10=>(intro wx hSw;(try dsimp only at hSw);obtain ⟨k0,k1,k2⟩:=HKF.out _ hSw;go_simp;first | done | with_reducible rfl | (rw [if_neg (by omega)];with_reducible rfl) | (rw [if_neg (by omega)]))
 (try simp only [Act.put,List.setIfInBounds_toArray,List.set_cons_zero,List.set_cons_succ])
 refine' wpAnyH_take (i:=12) (oi:=⟨some 3,_,_,_,_,_⟩) (v:=_) rfl (by kernel_rfl) (by kernel_rfl) (by kernel_rfl) (fun _ _ _ h=>h) (Or.inl ⟨by kernel_rfl,?hy11⟩) (by assumption) ?rest11
 case hy11=>(intro wx hSw;(try dsimp only at hSw);obtain ⟨k0,k1,k2⟩:=HKF.out _ hSw;go_simp;first | done | with_reducible rfl | (rw [if_neg (by omega)];with_reducible rfl) | (rw [if_neg (by omega)]))
 (try simp only [Act.put,List.setIfInBounds_toArray,List.set_cons_zero,List.set_cons_succ])
 refine wpAnyH_done (by kernel_rfl) ?_ _
 go_wp2
 go_ret
 exact ⟨rfl,below2 HBW.out HQ2.out⟩
theorem indexI11_any (f:Nat) (lb:Array Value) (eg: ∀ args w,(callFunc f args).run Tryz.prog w = .ok (.enter f args) w) (q:It->Bool) (v:Value) (L:List It) (w:World) (hv:ItAt w v L) (hl:L.length<=1000000001) (hq: ∀ (X:World) (x:It),x ∈ L->Below w.heap.size w X->Calls Tryz.prog f (#[itVal x]++lb) X fun e w'=>e = .returned (.bool (q x))/\Below X.heap.size X w'):
 Calls Tryz.prog 142 #[v,.func (.func f) #[] lb] w fun e w'=> ∃ z:Int,e = .returned (.int .i64 z)/\decide (0<=z)=L.any q/\Below w.heap.size w w':=by
 obtain ⟨a1,c1,rfl,hc1,hm1,hv1⟩:=hv.view
 have HV:=hid hv1;have HQ:=hid hq;obtain ⟨n,hn⟩: ∃ n,n=L.length:=⟨_,rfl⟩
 have HN:=hid hn;rw [<- hn] at hc1 hl ⊢;clear hv hv1 hq hn
 go_enter Tryz.func142,Tryz.ntmps142
 go_wp2_with fail
 go_loopw [8] (fun v8 wr=> ∃ k:Nat,k<=n/\v8 = .int .i64 k/\Hid (((L.take k).any q)=false/\Below w.heap.size w wr)) (fun v8 _=>n - (intOf v8).toNat)
 case atStart=>exact ⟨0,Nat.zero_le _,rfl,rfl,Below.refl _ w⟩
 case round=>
  obtain ⟨k,hk,rfl,HR⟩:=hrel
  by_cases hlt:k<n
  ·have hkL:k<L.length:=by have:=HN.out;omega
   obtain ⟨b1,o1,rfl,e1,e2,e3⟩:=HV.out k hkL
   obtain ⟨x,hx⟩: ∃ x,x=L[k]:=⟨_,rfl⟩
   rw [<- hx] at e1 e2 e3;have HXM:=hid (show x ∈ L by rw [hx];exact List.getElem_mem hkL);obtain ⟨b,hbx⟩: ∃ b,b=x.bits:=⟨_,rfl⟩
   obtain ⟨V,hVx⟩: ∃ V:ByteArray,V=⟨x.want.toArray⟩:=⟨_,rfl⟩
   obtain ⟨O,hOx⟩: ∃ V:ByteArray,V=⟨x.opt.toArray⟩:=⟨_,rfl⟩
   rw [<- hbx] at e1;rw [<- hVx] at e2;rw [<- hOx] at e3;have f1:=keptC e1 HR.out.2;have f2:=keptC e2 HR.out.2;have f3:=keptC e3 HR.out.2;have HCL:=hid (show Calls Tryz.prog f (#[.agg #[.int .i64 b,.string V,.string O]]++lb) wr fun e w'=>e = .returned (.bool (q x))/\Below wr.heap.size wr w' by
    rw [hbx,hVx,hOx]
    exact HQ.out wr x HXM.out HR.out.2)
   have HT:=hid (show (L.take (k+1)).any q=q x by rw [List.take_succ_eq_append_getElem hkL,List.any_append,HR.out.1,<- hx];simp);have HTA:=hid (show q x=true->L.any q=true from fun h=>List.any_eq_true.2 ⟨x,HXM.out,h⟩);obtain ⟨y,hy⟩: ∃ y,y=q x:=⟨_,rfl⟩
   rw [<- hy] at HCL HT HTA;have hin:(k:Int)<(n:Int):=by omega
   clear e1 e2 e3 hx hbx hVx hOx hkL hy
   go_wp2_with fail
   refine HCL.out.mono ?_;rintro e w2 ⟨rfl,hb2⟩
   have HB2:=hid (below2 HR.out.2 hb2);clear hb2
   cases y with
   | false=>
     go_wp2_with fail
     go_roundw
     case rel=>
      have e4:((L.take (k+1)).any q)=false/\Below w.heap.size w w2:=⟨HT.out,HB2.out⟩
      first
       | exact ⟨k+1,by omega,by go_num,e4⟩
       | ((repeat apply Exists.intro);refine ⟨?_,rfl⟩;exact ⟨k+1,by omega,by go_num,e4⟩)
       | ((repeat apply Exists.intro);exact ⟨⟨k+1,by omega,by go_num,e4⟩,rfl⟩)
     case measure=>simp [intOf];omega
   | true=>
     go_wp2_with fail
     go_ret
     exact ⟨(k:Int),rfl,by rw [HTA.out (by trivial)];simp,HB2.out⟩
  ·obtain rfl:k=n:=by omega
   have HA:=hid (show L.any q=false by have h:=HR.out.1;rwa [List.take_of_length_le (by have:=HN.out;omega)] at h);have HB:=hid HR.out.2;clear HR hk hlt
   go_wp2_with fail
   go_ret
   exact ⟨-1,rfl,by rw [HA.out];rfl,HB.out⟩
theorem containsI11_any (f:Nat) (lb:Array Value) (eg: ∀ args w,(callFunc f args).run Tryz.prog w = .ok (.enter f args) w) (q:It->Bool) (v:Value) (L:List It) (w:World) (hv:ItAt w v L) (hl:L.length<=1000000001) (hq: ∀ (X:World) (x:It),x ∈ L->Below w.heap.size w X->Calls Tryz.prog f (#[itVal x]++lb) X fun e w'=>e = .returned (.bool (q x))/\Below X.heap.size X w'):
 Calls Tryz.prog 102 #[v,.func (.func f) #[] lb] w fun e w'=>e = .returned (.bool (L.any q))/\Below w.heap.size w w':=by
 have HI:=hid (indexI11_any f lb eg q v L w hv hl hq);clear hv hl hq
 go_enter Tryz.func102,Tryz.ntmps102
 go_wp2_with fail
 refine HI.out.mono ?_;rintro e w2 ⟨z,rfl,hz,hb⟩
 have HZ:=hid hz;have HB:=hid hb;clear hz hb
 go_wp2_with fail
 go_ret
 exact ⟨ret_bool HZ.out,HB.out⟩
theorem parse_len11 (l:List UInt8):(parse9 l).length<=l.length+1:=by
 have h1:=List.length_filterMap_le itemV (words9 l);have h2:=(wds_len l []).1;unfold parse9;unfold words9 at h1 ⊢;omega
theorem parse_want11 (l:List UInt8): ∀ x ∈ parse9 l,x.want.length<=l.length:=by
 intro x hx;obtain ⟨y,hm,hy⟩:=List.mem_filterMap.1 hx
 have h0:=(wds_len l []).2 y hm;unfold itemV at hy;split at hy
 ·obtain rfl:=Option.some.inj hy
  show (wantV9 y).length<=_;have h1:=(part_le9 63 y).1;have h2:=(part_le9 45 (part9 63 y).1).2;unfold wantV9;simp only [List.length_nil,Nat.zero_add] at h0
  omega
 ·cases hy
end Go.Proofs.YtijpkalkfbejeaaGreatDoor
