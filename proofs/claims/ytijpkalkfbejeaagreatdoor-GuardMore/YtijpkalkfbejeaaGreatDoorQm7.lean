/- Walks and plain facts. -/
import Derived.Test.YtijpkalkfbejeaaGreatDoorQm6
set_option linter.unusedSimpArgs false
set_option linter.unusedVariables false
set_option maxHeartbeats 16000000
set_option maxRecDepth 100000

namespace Go.Proofs.YtijpkalkfbejeaaGreatDoor
open Go.RowKit
theorem infoPo:(Tryz.prog.info? 39).map (fun i=>(i.zero,i.size,i.bytes))=some (some (.agg #[.slice none 0 0,.bool false]),2,32):=by kernel_rfl
def cellsP (P:List (Value×Bool)):List Value:=P.flatMap fun q=>[q.1,.bool q.2]
theorem cellsP_app (a b:List (Value×Bool)):cellsP (a++b)=cellsP a++cellsP b:=by simp [cellsP]
theorem cellsP_one (V:Value) (b:Bool):cellsP [(V,b)]=[V,.bool b]:=rfl
theorem cellsP_len (a:List (Value×Bool)):(cellsP a).length=a.length*2:=by
 induction a with
 | nil=>rfl
 | cons h a ih=>
   have e:cellsP (h::a)=[h.1,.bool h.2]++cellsP a:=rfl
   rw [e,List.length_append,ih]
   simp only [List.length_cons,List.length_nil]
   omega
theorem cellsP_at (L:List (Value×Bool)): ∀ j (h:j<L.length),(cellsP L)[j*2]? = some L[j].1/\(cellsP L)[j*2+1]? = some (.bool L[j].2):=by
 induction L with
 | nil=>intro j h;simp at h
 | cons a L ih=>
   intro j h;have e:cellsP (a::L)=a.1 :: .bool a.2::cellsP L:=rfl
   cases j with
   | zero=>rw [e];exact ⟨rfl,rfl⟩
   | succ j=>
     have:=ih j (by simpa using h)
     rw [e,show (j+1)*2=j*2+1+1 by omega]
     simpa using this
def OnR (w:World) (B:Nat) (v:Value) (L:List Ru):Prop:= ∃ Q,w.ownsRow B 55 2 v L.length (cellsR Q)/\RdO w B Q L
theorem OnR.keptB {w w':World} {B:Nat} {v:Value} {L:List Ru} (h:OnR w B v L) (hk: ∀ (k:Nat) (cur:Array Value) (T:TypeId) (fz:Nat×Nat),w.heap[k]? = some (Obj.cells cur T fz)->(T=55∨T=9)->w'.heap[k]? = w.heap[k]?):OnR w' B v L:=by
 obtain ⟨Q,h1,h2⟩:=h
 refine ⟨Q,ownsRow_same h1 fun g hg=> ?_,h2.keptB ?_⟩
 ·obtain ⟨cur,hc⟩:=ownsRow_kind h1 g hg
  exact hk _ _ _ _ hc (.inl rfl)
 ·rintro k ⟨cur,fz,hc⟩
  exact hk _ _ _ _ hc (.inr rfl)
theorem OnR.po {w:World} {B:Nat} {v:Value} {L:List Ru} (h:OnR w B v L):PoAt w v L:=by
 obtain ⟨Q,h1,h2⟩:=h
 exact own_po h1 h2
theorem grown_rt {w w':World} {B:Nat} {v:Value} {n:Nat} {cs:List Value} (hv:w.ownsRow B 39 2 v n cs) (hg:w.grownBy w' v.ownBlock): ∀ (k:Nat) (cur:Array Value) (T:TypeId) (fz:Nat×Nat),w.heap[k]? = some (Obj.cells cur T fz)->(T=55∨T=9)->w'.heap[k]? = w.heap[k]? :=fun k cur T fz hk hT=>by
 refine hg.block k (Array.getElem?_eq_some_iff.1 hk).1 (fun e=> ?_);obtain ⟨c2,hc2⟩:=ownsRow_kind hv k e.symm
 rw [hk] at hc2;injection hc2 with hc2
 injection hc2 with _ hc2 _
 rcases hT with rfl | rfl
 ·exact absurd hc2 (by decide)
 ·exact absurd hc2 (by decide)
def ofL (L:List Ru):List (List Ru):=match L with
 | []=>[]
 | r::t=>[r::t]
theorem ext_take10 (s:ByteArray) (j k:Nat):(s.extract j k).data.toList=(s.data.toList.drop j).take (k - j):=Lib.extract_data _ _ _
theorem drop_split10 (s:ByteArray) (j k:Nat) (hj:j<=k) (hk:k<s.size):s.data.toList.drop j=(s.extract j k).data.toList++s[k]::s.data.toList.drop (k+1):=by
 rw [Lib.extract_data];have h1:s.data.toList.drop j=(s.data.toList.drop j).take (k - j)++(s.data.toList.drop j).drop (k - j):=(List.take_append_drop _ _).symm;have h2:s.data.toList.drop k=s[k]::s.data.toList.drop (k+1):=List.drop_eq_getElem_cons (l:=s.data.toList) (i:=k) (by simpa using hk)
 rw [List.drop_drop,show j+(k - j)=k by omega,h2] at h1
 exact h1
theorem rcut10 (s:ByteArray) (c:UInt8) (w:World) (hs:s.size<=1000000):
 Calls Tryz.prog 28 #[.string s,.int .u8 (c.toNat:Int)] w (OwnT (pcV c s.data.toList) w):=by
 obtain ⟨i0,hi,hz0,hz1,hz2⟩:=info_parts infoS10
 have hc8:=c.toNat_lt
 go_enter Tryz.func28,Tryz.ntmps28
 go_wp2
 go_loopw [5,6,7] (fun v fr i wr=> ∃ (k j:Nat) (out:List (List UInt8)),j<=k/\k<=s.size+1/\i = .int .i64 k/\fr = .int .i64 j/\out.length<=k/\wr.ownsRow w.heap.size 9 1 v out.length (cellsT out)/\Below w.heap.size w wr /\
  ((k<=s.size/\pcV c s.data.toList=out++pcV c (s.data.toList.drop j)/\c ∉ (s.extract j k).data.toList)∨(k=s.size+1/\out=pcV c s.data.toList)))
  (fun _ _ i _=>s.size+1 - (intOf i).toNat)
 case atStart=>exact ⟨0,0,[],Nat.le_refl _,by omega,rfl,rfl,Nat.le_refl _,World.ownsRow_nil _ _ _ _,Below.refl _ w,.inl ⟨by omega,rfl,by rw [ext_take10];simp⟩⟩
 case round=>
  obtain ⟨k,j,out,hjk,hk,rfl,rfl,hol,hown,hbw,hor⟩:=hrel
  have HO:=hid hown;clear hown;have hbs:=hbw.size;rcases hor with ⟨hks,hcut,hno⟩ | ⟨hks,hout⟩
  ·have HC:=hid hcut
   have HN:=hid hno;clear hcut hno;have hks':(k:Int)<=(s.size:Int):=by omega
   have hjk':(j:Int)<=(k:Int):=by omega
   obtain ⟨X,hX⟩: ∃ X:ByteArray,X=s.extract j k:=⟨_,rfl⟩
   by_cases hlt:k<s.size
   ·have hlt':((k:Int)==(s.size:Int))=false:=by rw [beq_eq_false_iff_ne];omega
    have hb8:s[k].toNat<256:=s[k].toNat_lt;have HD:=hid (drop_split10 s j k hjk hlt);by_cases he:s[k]=c
    ·have he':(s[k].toNat:Int)=(c.toNat:Int):=by rw [he]
     have HE:=hid he;have HX:=hid hX;clear hX he
     go_wp2_with (at_builtin;go_must (refine wpList_append_own _ rfl _ _ 22 rfl w.heap.size 9 i0 (.string ⟨#[]⟩) 1 16 Tryz.underlying22 hi hz0 hz1 hz2 rfl (by decide) _ _ _ rfl (HO.out.alloc _) ⟨wr.heap.size,0,none⟩ 1 1 [.string (s.extract j k)] rfl rfl ?c1 ?c2 ?c3 ?c4 ?c5 ?_))
     case c1=>
      intro q u hq
      match q,hq with
      | 0,hq=>simp at hq;subst hq;simp [Addr.add]
     case c2=>intro u hu;simp at hu;subst hu;rfl
     case c3=>unfold maxLen;omega
     case c4=>omega
     case c5=>simp;omega
     intro v' w2 hown' hgrow hnil;have HO2:=hid hown';have HB2:=hid (show Below w.heap.size w w2 from (hbw.alloc hbw.size _).grown hgrow (by simp;omega) (fun g hg=>(HO.out.lt g hg).1));clear hown' hgrow hnil
     go_wp2
     go_roundw
     case rel=>
      refine ⟨k+1,k+1,out++[(s.extract j k).data.toList],by omega,by omega,by go_num,by go_num,by simp;omega,?_,HB2.out,.inl ⟨by omega,?_,by rw [ext_take10];simp⟩⟩
      ·rw [cellsT_app,cellsT_one,List.length_append]
       exact HO2.out
      ·have h1:=HC.out
       rw [HD.out,HE.out,pcV_some c _ _ HN.out] at h1
       rw [h1];simp
     case measure=>simp [intOf];omega
    ·have he':((s[k].toNat:Int)==(c.toNat:Int))=false:=by
      rw [beq_eq_false_iff_ne];intro e;exact he (UInt8.toNat_inj.1 (by omega))
     have HE:=hid he;clear he hX
     go_wp2
     go_roundw
     case rel=>
      refine ⟨k+1,j,out,by omega,by omega,by go_num,rfl,by omega,HO.out,hbw,.inl ⟨by omega,HC.out,?_⟩⟩;rw [ext_take10,show k+1 - j=(k - j)+1 by omega,List.take_add_one]
      have h2:=HN.out;rw [ext_take10] at h2;rw [List.mem_append];rintro (h | h)
      ·exact h2 h
      ·rw [List.getElem?_drop,show j+(k - j)=k by omega] at h
       have h3:s.data.toList[k]? = some s[k]:=by
        rw [List.getElem?_eq_getElem (by simpa using hlt)];rfl
       rw [h3] at h;simp at h;exact HE.out h.symm
     case measure=>simp [intOf];omega
   ·have hke:k=s.size:=by omega
    subst hke;have HX:=hid hX;clear hX
    go_wp2_with (at_builtin;go_must (refine wpList_append_own _ rfl _ _ 22 rfl w.heap.size 9 i0 (.string ⟨#[]⟩) 1 16 Tryz.underlying22 hi hz0 hz1 hz2 rfl (by decide) _ _ _ rfl (HO.out.alloc _) ⟨wr.heap.size,0,none⟩ 1 1 [.string (s.extract j s.size)] rfl rfl ?c1 ?c2 ?c3 ?c4 ?c5 ?_))
    case c1=>
     intro q u hq
     match q,hq with
     | 0,hq=>simp at hq;subst hq;simp [Addr.add]
    case c2=>intro u hu;simp at hu;subst hu;rfl
    case c3=>unfold maxLen;omega
    case c4=>omega
    case c5=>simp;omega
    intro v' w2 hown' hgrow hnil;have HO2:=hid hown';have HB2:=hid (show Below w.heap.size w w2 from (hbw.alloc hbw.size _).grown hgrow (by simp;omega) (fun g hg=>(HO.out.lt g hg).1));clear hown' hgrow hnil
    go_wp2
    go_roundw
    case rel=>
     refine ⟨s.size+1,s.size+1,out++[(s.extract j s.size).data.toList],by omega,by omega,by go_num,by go_num,by simp;omega,?_,HB2.out,.inr ⟨rfl,?_⟩⟩
     ·rw [cellsT_app,cellsT_one,List.length_append]
      exact HO2.out
     ·have h1:=HC.out
      have e:(s.extract j s.size).data.toList=s.data.toList.drop j:=by rw [ext_take10];exact List.take_of_length_le (by simp)
      rw [e];have h2:=HN.out;rw [e] at h2;rw [pcV_none c _ h2] at h1;exact h1.symm
    case measure=>simp [intOf]
  ·subst hks
   have hks': ¬ (((s.size+1:Nat):Int)<=(s.size:Int)):=by omega
   have HX:=hid hout;clear hout
   go_wp2
   go_ret
   unfold OwnT;rw [<- HX.out];exact ⟨_,rfl,HO.out,hbw⟩
theorem infoRuR:(Tryz.prog.info? 54).map (fun i=>(i.zero,i.size,i.bytes))=some (some (.agg #[.string ByteArray.empty,.slice none 0 0]),2,40):=by kernel_rfl
def PIr (w wr:World) (rp:Bool) (v:Value) (Q:List (ByteArray×Value)) (L:List Ru):Prop:=
 wr.heap[w.heap.size]? = some (.cells #[.slice none 0 0,.bool false] 52 (0,0))/\wr.heap[w.heap.size+1]? = some (.cells #[v,.bool rp] 52 (0,0)) /\
 wr.ownsRow (w.heap.size+2) 54 2 v L.length (cellsR Q)/\RdO wr (w.heap.size+2) Q L/\Below w.heap.size w wr
theorem PIr.kept {w wr wr':World} {rp:Bool} {v:Value} {Q:List (ByteArray×Value)} {L:List Ru} (h:PIr w wr rp v Q L) (hb:Below wr.heap.size wr wr'):PIr w wr' rp v Q L:=by
 obtain ⟨h1,h2,h3,h4,h5⟩:=h
 exact ⟨row_kept h1 hb,row_kept h2 hb,own_kept h3 hb,h4.kept hb,below2 h5 hb⟩
theorem PIr.lt {w wr:World} {rp:Bool} {v:Value} {Q:List (ByteArray×Value)} {L:List Ru} (h:PIr w wr rp v Q L):w.heap.size+2<=wr.heap.size:=(Array.getElem?_eq_some_iff.1 h.2.1).1
theorem PIr.cells {w wr:World} {rp:Bool} {v:Value} {Q:List (ByteArray×Value)} {L:List Ru} (h:PIr w wr rp v Q L):wr.cell? ⟨w.heap.size+1,0,none⟩=some v/\wr.cell? ⟨w.heap.size+1,1,none⟩=some (.bool rp)/\wr.frozen? ⟨w.heap.size+1,0,none⟩=false:=
 ⟨by rw [Lib.cell_of_heap h.2.1];rfl,by rw [Lib.cell_of_heap h.2.1];rfl,Lib.frozen_of_heap h.2.1 0⟩
theorem PIr.snoc {w wr w2 w4:World} {rp:Bool} {v v' V:Value} {Q:List (ByteArray×Value)} {L:List Ru} {r:Ru} {B:Nat} (h:PIr w wr rp v Q L) (hb:Below wr.heap.size wr w2) (hV:SlV w2 B 9 V (cellsT r.vals)) (hB:wr.heap.size<=B)
 (hown:w4.ownsRow (w.heap.size+2) 54 2 v' (L.length+1) (cellsR Q++[.string ⟨r.name.toArray⟩,V])) (hgrow:w2.grownBy w4 v.ownBlock):
 PIr w (w4.setCell ⟨w.heap.size+1,0,none⟩ v') rp v' (Q++[(⟨r.name.toArray⟩,V)]) (L++[r]):=by
 have hlt:=h.lt;have hold:=h.2.2.2.1.old;obtain ⟨h1,h2,h3,h4,h5⟩:=h.kept hb
 have hs:=hb.size;have hvk: ∀ k,v.ownBlock=some k -> ∃ cur,w2.heap[k]? = some (Obj.cells cur 54 (0,0)):=fun k hk=>ownsRow_kind h3 k hk
 have hkeep: ∀ k cur T fz,w2.heap[k]? = some (Obj.cells cur T fz)->T≠54->w4.heap[k]? = some (Obj.cells cur T fz):=fun k cur T fz hk hT=>by
  refine (hgrow.block k (Array.getElem?_eq_some_iff.1 hk).1 (fun e=> ?_)).trans hk;obtain ⟨c2,hc2⟩:=hvk k e.symm
  rw [hk] at hc2;injection hc2 with hc2
  injection hc2 with _ hc2 _
  exact hT hc2
 have g1:=hkeep _ _ _ _ h1 (by decide)
 have g2:=hkeep _ _ _ _ h2 (by decide)
 have hv': ∀ k,v'.ownBlock=some k->k≠w.heap.size+1:=fun k hk=>by
  have:=(hown.lt k hk).1;omega
 have hstr: ∀ k:Nat,(∃ cur fz,w2.heap[k]? = some (Obj.cells cur 9 fz))->(w4.setCell ⟨w.heap.size+1,0,none⟩ v').heap[k]? = w2.heap[k]? :=by
  rintro k ⟨cur,fz,hk⟩
  have hk4:=hkeep k cur _ fz hk (by decide)
  rw [heap_setCell_other w4 ⟨w.heap.size+1,0,none⟩ k v' (kind_nf hk4 g2 (by decide)),hk4,hk]
 refine ⟨?_,?_,?_,?_,?_⟩
 ·rw [heap_setCell_other w4 ⟨w.heap.size+1,0,none⟩ w.heap.size v' (by simp)];exact g1
 ·exact heap_setCell_same w4 (w.heap.size+1) 0 _ _ v' g2
 ·rw [cellsR_app,cellsR_one,List.length_append]
  exact ownsRow_same hown fun k hk=>heap_setCell_other w4 ⟨w.heap.size+1,0,none⟩ k v' (hv' k hk)
 ·have hV2:SlV w2 (w.heap.size+2) 9 V (cellsT r.vals):=hV.low0 (by omega)
  refine (RdO.keptB (w:=w2) ?_ hstr);refine h4.snoc hV2 fun q hq=> ?_
  by_cases hn:q.2.ownBlock=none
  ·exact .inl hn
  ·right
   intro e
   cases hk:q.2.ownBlock with
   | none=>exact hn hk
   | some k=>
     have a1:=(hold q hq k hk).2;have a2:=(hV.lt k (by rw [<- e,hk])).1;omega
 ·have hle:w.heap.size<=w2.heap.size:=h5.size
  exact (h5.grown hgrow hle (fun k hk=>by have:=(h3.lt k hk).1;omega)).setCell (p:=⟨w.heap.size+1,0,none⟩) (by simp) _
def RParsePost (l:List UInt8) (rp:Bool) (w:World) (e:Ending) (w':World):Prop:=
 ∃ v Q,e = .returned (.agg #[v,.bool rp])/\w'.ownsRow w.heap.size 54 2 v (polV l).length (cellsR Q)/\RdO w' w.heap.size Q (polV l)/\Below w.heap.size w w'
theorem results_q1 {fn:Func} {p:Tmp} (h:fn.results = #[.cell p 52]) (tmps:Array Value) (w:World) (b:Nat) (a:Option Addr) (n c:Nat) (rp:Bool) (hp:tmps.getD p undef = .pointer (some ⟨b,0,none⟩)) (hc:w.rangeAt b 0 [.slice a n c,.bool rp]):(results fn tmps).run Tryz.prog w = .ok (.agg #[.slice a n c,.bool rp]) w:=by
 rw [Array.getD_eq_getD_getElem?] at hp;simp only [results,h]
 simp [Sem.run_bind,Result.andThen,hp,asAddr,run_loadVar_mid w b 0 52 [.slice a n c,.bool rp] _ hc Tryz.underlying52 rfl (by kernel_rfl)]
theorem range_q {w:World} {b:Nat} {x y:Value} (h:w.heap[b]? = some (.cells #[x,y] 52 (0,0))):w.rangeAt b 0 [x,y]:=fun j u hu=>by
 rw [Nat.zero_add,Lib.cell_of_heap h]
 match j,hu with
 | 0,hu=>simpa using hu
 | 1,hu=>simpa using hu
 | j+2,hu=>simp at hu
theorem PIr.out {w wr:World} {rp:Bool} {a:Option Addr} {n c:Nat} {Q:List (ByteArray×Value)} {L:List Ru} (h:PIr w wr rp (.slice a n c) Q L) {l:List UInt8} (hl:L=polV l):
 ((wr.setCell ⟨w.heap.size,0,none⟩ (.slice a n c)).setCell ⟨w.heap.size,1,none⟩ (.bool rp)).rangeAt w.heap.size 0 [.slice a n c,.bool rp] /\
 RParsePost l rp w (.returned (.agg #[.slice a n c,.bool rp])) ((wr.setCell ⟨w.heap.size,0,none⟩ (.slice a n c)).setCell ⟨w.heap.size,1,none⟩ (.bool rp)):=by
 obtain ⟨h1,h2,h3,h4,h5⟩:=h
 have k1:=Lib.heap_setCell_same h1 (i:=0) (.slice a n c);have k2:=Lib.heap_setCell_same k1 (i:=1) (.bool rp);refine ⟨range_q k2,.slice a n c,Q,rfl,?_,?_,?_⟩
 ·rw [<- hl]
  refine own_low10 (ownsRow_same h3 fun k hk=> ?_) (by omega:w.heap.size<=w.heap.size+2)
  have hne:k≠w.heap.size:=by have:=(h3.lt k hk).1;omega
  rw [heap_setCell_other _ ⟨w.heap.size,1,none⟩ k _ hne,heap_setCell_other _ ⟨w.heap.size,0,none⟩ k _ hne]
 ·rw [<- hl]
  refine (h4.keptB ?_).low (by omega)
  rintro k ⟨cur,fz,hk⟩
  have hne:k≠w.heap.size:=kind_nf hk h1 (by decide)
  rw [heap_setCell_other _ ⟨w.heap.size,1,none⟩ k _ hne,heap_setCell_other _ ⟨w.heap.size,0,none⟩ k _ hne]
 ·exact below_set2 h5 (Nat.le_refl _)
theorem PIr.texts {w w2 w4:World} {rp:Bool} {v v':Value} {Q:List (ByteArray×Value)} {L:List Ru} (h:PIr w w2 rp v Q L) (hgrow:w2.grownBy w4 v.ownBlock): ∀ k:Nat,(∃ cur fz,w2.heap[k]? = some (Obj.cells cur 9 fz))->(w4.setCell ⟨w.heap.size+1,0,none⟩ v').heap[k]? = w2.heap[k]? :=by
 obtain ⟨h1,h2,h3,h4,h5⟩:=h
 have hkeep: ∀ k cur T fz,w2.heap[k]? = some (Obj.cells cur T fz)->T≠54->w4.heap[k]? = some (Obj.cells cur T fz):=fun k cur T fz hk hT=>by
  refine (hgrow.block k (Array.getElem?_eq_some_iff.1 hk).1 (fun e=> ?_)).trans hk;obtain ⟨c2,hc2⟩:=ownsRow_kind h3 k e.symm
  rw [hk] at hc2;injection hc2 with hc2
  injection hc2 with _ hc2 _
  exact hT hc2
 rintro k ⟨cur,fz,hk⟩
 have hk4:=hkeep k cur _ fz hk (by decide)
 rw [heap_setCell_other w4 ⟨w.heap.size+1,0,none⟩ k v' (kind_nf hk4 (hkeep _ _ _ _ h2 (by decide)) (by decide)),hk4,hk]
def tlC (A n c:Nat):Value:= .slice (some ⟨A,if c=1 then 0 else 1,none⟩) (n - 1) (c - 1)
theorem slice_wordsC (A n c:Nat) (w:World) (hn:1<=n) (hc:n<=c):(Instr.sliceAt 22 (.slice (some ⟨A,0,none⟩) n c) (some (.int .i64 1)) none none).run Tryz.prog w = .ok (tlC A n c) w:=by
 have und:Tryz.prog.underlying 22=some (.slice (Tryz.prog.elem 22)):=by kernel_rfl
 have sz:(sizeOf (Tryz.prog.elem 22)).run Tryz.prog w = .ok 1 w:=by kernel_rfl
 rw [run_sliceAt_slice (h:=und),run_slice_l (ht:=und) (h0:=by omega) (h1:=by omega),sz];simp only [Result.andThen,sliced,tlC]
 by_cases h:c=1
 ·simp [h]
 ·rw [if_neg (by simp;omega)]
  simp [h,Addr.add_lit]
theorem tlC_slv {w:World} {B A n c:Nat} {x:List UInt8} {t:List (List UInt8)} (h:w.ownsRow B 9 1 (.slice (some ⟨A,0,none⟩) n c) n (cellsT (x::t))) (hn:n=t.length+1):SlV w B 9 (tlC A n c) (cellsT t):=by
 rcases h.2 with ⟨e,_⟩ | ⟨g,cap,cur,e,hg,hrow,hnc,hcm,hcs,htake⟩
 ·cases e
 ·injection e with e1 _ e3
  injection e1 with e1
  injection e1 with e4 _
  subst e4 e3;unfold tlC;refine .inr ⟨A,if c=1 then 0 else 1,c - 1,cur,by rw [cellsT_len];congr 1;omega,hg,hrow,by rw [cellsT_len];omega,by split<;>omega,by omega,fun j u hu=> ?_⟩
  have hj:j<t.length:=by have:=(List.getElem?_eq_some_iff.1 hu).1;simpa [cellsT] using this
  rw [if_neg (by omega)];have h1:=h.cellAt (g:=A) (1+j) (by omega)
  rw [Lib.cell_of_heap hrow] at h1;rw [h1,show 1+j=j+1 by omega]
  exact hu
theorem own_some {w:World} {B:Nat} {e:TypeId} {k:Nat} {v:Value} {n:Nat} {xs:List Value} (h:w.ownsRow B e k v n xs) (hn:0<n): ∃ g cap,v = .slice (some ⟨g,0,none⟩) n cap/\n<=cap/\cap<=maxLen:=by
 rcases h.2 with ⟨hv,h0⟩ | ⟨g,cap,cur,rfl,_,_,hnc,hcm,_⟩
 ·omega
 ·exact ⟨g,cap,rfl,hnc,hcm⟩
def RJ (w wr:World) (l:List UInt8) (rp:Bool) (vC:Value) (C:List (List UInt8)) (i:Nat) (v:Value) (Q:List (ByteArray×Value)) (L:List Ru):Prop:=
 polF (C.drop i) L=polV l/\L.length<=32/\wr.ownsRow (w.heap.size+2) 9 1 vC C.length (cellsT C)/\PIr w wr rp v Q L
theorem RJ.kept {w wr wr':World} {l:List UInt8} {rp:Bool} {vC:Value} {C:List (List UInt8)} {i:Nat} {v:Value} {Q:List (ByteArray×Value)} {L:List Ru} (h:RJ w wr l rp vC C i v Q L) (hb:Below wr.heap.size wr wr'):RJ w wr' l rp vC C i v Q L:=
 ⟨h.1,h.2.1,own_kept h.2.2.1 hb,h.2.2.2.kept hb⟩
theorem RJ.next {w wr:World} {l:List UInt8} {rp:Bool} {vC:Value} {C:List (List UInt8)} {i:Nat} {v:Value} {Q:List (ByteArray×Value)} {L:List Ru} (h:RJ w wr l rp vC C i v Q L) (hi:i<C.length) (hn:L.length<32) (ha:addR L C[i]=L):RJ w wr l rp vC C (i+1) v Q L:=by
 refine ⟨?_,h.2.1,h.2.2.1,h.2.2.2⟩
 have h1:=h.1;rw [List.drop_eq_getElem_cons hi,polF,if_neg (by omega),ha] at h1;exact h1
theorem RJ.po {w wr:World} {l:List UInt8} {rp:Bool} {vC:Value} {C:List (List UInt8)} {i:Nat} {v:Value} {Q:List (ByteArray×Value)} {L:List Ru} (h:RJ w wr l rp vC C i v Q L):PoAt wr v L:=own_po h.2.2.2.2.2.1 h.2.2.2.2.2.2.1
theorem rparse10 (s:ByteArray) (rp:Bool) (w:World) (hs:s.size<=1000000):
 Calls Tryz.prog 16 #[.string s,.bool rp] w (RParsePost s.data.toList rp w):=by
 obtain ⟨i0,hi,hz0,hz1,hz2⟩:=info_parts infoRuR
 obtain ⟨l,hl⟩: ∃ l,l=s.data.toList:=⟨_,rfl⟩
 have HCT:=hid (fun X=>rcut10 s 59 X hs);unfold OwnT at HCT;obtain ⟨C,hC⟩: ∃ C,C=pcV 59 l:=⟨_,rfl⟩
 obtain ⟨m,hm⟩: ∃ m,m=C.length:=⟨_,rfl⟩
 have hmb:m<=1000001:=by rw [hm,hC];have:=pcV_len 59 l;rw [hl,<- Lib.size_eq] at this;rw [hl];omega
 have HPZ:=hid (show ∀ p ∈ C,p.length<=1000000 by
  intro p hp;rw [hC] at hp;have:=(pcV_mem 59 l p hp).2.1;rw [hl,<- Lib.size_eq] at this
  omega)
 rw [<- hl,<- hC,<- hm] at HCT;have HM:=hid hm;have HJ0:=hid (show polF (C.drop 0) []=polV l by rw [hC];rfl);have HI0:=hid (show PIr w ((w.alloc (.cells #[.slice none 0 0,.bool false] 52)).alloc (.cells #[.slice none 0 0,.bool rp] 52)) rp (.slice none 0 0) [] [] from
  ⟨(Lib.alloc_old _ _ _ (by simp)).trans (heap_alloc_new w _),by have:=heap_alloc_new (w.alloc (.cells #[.slice none 0 0,.bool false] 52)) (.cells #[.slice none 0 0,.bool rp] 52);simpa using this,World.ownsRow_nil _ _ _ _,RdO.nil _ _,((Below.refl _ w).alloc (Nat.le_refl _) _).alloc (by simp) _⟩)
 rw [<- hl];clear hl hs hC hm
 go_enter Tryz.func16,Tryz.ntmps16
 go_wp2_with fail
 refine (HCT.out _).mono ?_;rintro e w1 ⟨vC,rfl,hown,hb1⟩
 obtain ⟨ca,cc,rfl,hcc,hcm⟩:=own_form10 hown
 have HRJ0:=hid (show RJ w w1 l rp (.slice ca m cc) C 0 (.slice none 0 0) [] [] from
  ⟨HJ0.out,by decide,by rw [<- HM.out];exact own_low10 hown (by simp),HI0.out.kept hb1⟩)
 clear hown hb1 HCT HJ0 HI0
 go_wp2_with fail
 go_loopw [7] (fun v7 wr=> ∃ (i:Nat) (a:Option Addr) (n c:Nat) (Q:List (ByteArray×Value)) (L:List Ru),i<=m/\v7 = .int .i64 i/\n<=32/\Hid (n=L.length/\RJ w wr l rp (.slice ca m cc) C i (.slice a n c) Q L)) (fun v7 _=>m - (intOf v7).toNat)
 case atStart=>exact ⟨0,none,0,0,[],[],Nat.zero_le _,rfl,by decide,rfl,HRJ0.out⟩
 case round=>
  clear HRJ0;obtain ⟨i,a,n,c,Q,L,him,rfl,hn32,HR⟩:=hrel
  obtain ⟨c0,c1,z0⟩:=HR.out.2.2.2.2.cells
  have c4a:wr.cell? ⟨w.heap.size,0,none⟩=some (.slice none 0 0):=by rw [Lib.cell_of_heap HR.out.2.2.2.2.1];rfl
  have c4b:wr.cell? ⟨w.heap.size,1,none⟩=some (.bool false):=by rw [Lib.cell_of_heap HR.out.2.2.2.2.1];rfl
  have z4a:wr.frozen? ⟨w.heap.size,0,none⟩=false:=Lib.frozen_of_heap HR.out.2.2.2.2.1 0
  have z4b:wr.frozen? ⟨w.heap.size,1,none⟩=false:=Lib.frozen_of_heap HR.out.2.2.2.2.1 1
  by_cases hend:i=m
  ·have HO:=hid (HR.out.2.2.2.2.out (l:=l) (by
    have h1:=HR.out.2.1;rw [List.drop_eq_nil_of_le (by have:=HM.out;omega)] at h1;exact h1))
   have hng: ¬ ((i:Int)<(m:Int)):=by omega
   have hng2: ¬ (i<m):=by omega
   clear hend
   go_wp2_with fail
   exact bodyPost_ret (results_q1 rfl _ _ w.heap.size a n c rp rfl HO.out.1) rfl HO.out.2
  ·have hlt:i<m:=by omega
   have hin:(i:Int)<(m:Int):=by omega
   by_cases hful:n=32
   ·have HO:=hid (HR.out.2.2.2.2.out (l:=l) (by
     have h1:=HR.out.2.1;rw [polF_full _ _ (by have:=HR.out.1;omega)] at h1;exact h1))
    have hng: ¬ ((n:Int)<32):=by omega
    clear hful hend
    go_wp2_with fail
    exact bodyPost_ret (results_q1 rfl _ _ w.heap.size a n c rp rfl HO.out.1) rfl HO.out.2
   ·have hnl:n<32:=by omega
    have hnl':(n:Int)<32:=by omega
    clear c4a c4b z4a z4b hful hend;have hiC:i<C.length:=by have:=HM.out;omega
    obtain ⟨ca',cc',eca,q1,q2,hcell⟩:=(own_txt' HR.out.2.2.2.1).view
    injection eca with eca1 eca2 eca3
    clear eca2 eca3 q1 q2;subst eca1;obtain ⟨bc,oc,rfl,hcl⟩:=hcell i hiC
    obtain ⟨X,hX⟩: ∃ X:ByteArray,X=⟨C[i].toArray⟩:=⟨_,rfl⟩
    rw [<- hX] at hcl;have hXs:X.size<=1000000:=by rw [Lib.size_eq,hX];exact HPZ.out _ (List.getElem_mem hiC)
    have HXC:=hid (show ∃ h:i<C.length,C[i]=X.data.toList from ⟨hiC,by rw [hX]⟩);have HW:=hid (rwords9_any X wr hXs);unfold WordsPost9 at HW;clear hcell hiC hX
    cases hw:words9 X.data.toList with
    | nil=>
      rw [hw] at HW;have HAD:=hid (show addR L X.data.toList=L by unfold addR;rw [ruleV_nil hw]);clear hw
      go_wp2_with fail
      refine HW.out.mono ?_;rintro e w2 ⟨v2,rfl,hown2,hb2⟩
      obtain ⟨a2,cc2,rfl,_,_⟩:=own_form10 hown2
      have HR2:=hid (show n=L.length/\RJ w w2 l rp (.slice (some ⟨bc,oc,none⟩) m cc) C (i+1) (.slice a n c) Q L from ⟨HR.out.1,by
       obtain ⟨h,hx⟩:=HXC.out
       exact (HR.out.2.kept hb2).next h (by have:=HR.out.1;omega) (by rw [hx];exact HAD.out)⟩)
      clear hown2 hb2 HW c0 c1 z0 hcl
      go_wp2_with fail
      go_roundw
      case rel=>
       first
        | exact ⟨i+1,a,n,c,Q,L,by omega,by go_num,hn32,HR2.out⟩
        | ((repeat apply Exists.intro);refine ⟨?_,rfl⟩;exact ⟨i+1,a,n,c,Q,L,by omega,by go_num,hn32,HR2.out⟩)
        | ((repeat apply Exists.intro);exact ⟨⟨i+1,a,n,c,Q,L,by omega,by go_num,hn32,HR2.out⟩,rfl⟩)
      case measure=>simp [intOf];omega
    | cons x t=>
      rw [hw] at HW;have HRV:=hid (ruleV_cons hw);have hxb:x.length<=1000000/\t.length<=1000000:=by
       have h1:=wds_len X.data.toList [];rw [show wdsF X.data.toList []=words9 X.data.toList from rfl,hw,<- Lib.size_eq] at h1;have h2:=h1.2 x (by simp)
       have h3:=h1.1;simp at h2 h3;omega
      obtain ⟨wn,hwn⟩: ∃ n,n=(x::t).length:=⟨_,rfl⟩
      have HWN:=hid (show wn=t.length+1 by rw [hwn];rfl);have hwn1:1<=wn:=by rw [hwn];simp
      have hwnb:wn<=1000001:=by rw [hwn];simp;exact hxb.2
      rw [<- hwn] at HW;obtain ⟨X0,hX0⟩: ∃ X:ByteArray,X=⟨x.toArray⟩:=⟨_,rfl⟩
      have hX0l:X0.data.toList=x:=by rw [hX0]
      have HXA:=hid (show (cellsT (x::t))[0]? = some (.string X0) by rw [hX0];rfl);have HLW:=hid (fun Z=>rlower_av X0 Z (by rw [Lib.size_eq,hX0l];omega));rw [hX0l] at HLW;obtain ⟨N,hN⟩: ∃ N:ByteArray,N=⟨(low x).toArray⟩:=⟨_,rfl⟩
      have HNL:=hid (show N.data.toList=low x by rw [hN]);rw [<- hN] at HLW;have hwz:((wn:Int)==0)=false:=by rw [beq_eq_false_iff_ne];omega
      clear hw hwn hX0 hX0l hN hxb
      go_wp2_with fail
      refine HW.out.mono ?_;rintro e w2 ⟨v2,rfl,hown2,hb2⟩
      have hown2':w2.ownsRow wr.heap.size 9 1 v2 wn (cellsT (x::t)):=hown2;obtain ⟨A,wc,rfl,hwc,hwm⟩:=own_some hown2' (by omega)
      have cA:w2.cell? ⟨A,0,none⟩=some (.string X0):=by
       have:=hown2'.cellAt (g:=A) 0 (by omega)
       rw [this];exact HXA.out
      have HO2:=hid hown2';have HR2:=hid (HR.out.2.kept hb2);have HB2:=hid hb2;clear hown2 hown2' hb2 HW c0 c1 z0 hcl
      go_wp2_with fail
      refine (HLW.out _).mono ?_;rintro e w3 ⟨rfl,hb3⟩
      have HR3:=hid (HR2.out.kept hb3);have HO3:=hid (own_kept HO2.out hb3);have HB3:=hid (below2 HB2.out hb3);have HN2:=hid HR.out.1;have HPI0:=hid HR.out.2.2.2.2;have HWS:=hid (show w.heap.size+2<=wr.heap.size from HR.out.2.2.2.2.lt);obtain ⟨W0,hW0⟩: ∃ W,W=wr:=⟨_,rfl⟩
      subst hW0;clear hb3 HR2 HO2 HB2 cA HR
      go_wp2_with fail
      go_loopw [10,11] (fun v10 v11 wq=> ∃ (kn:Bool) (k:Nat),k<=n/\v10 = .bool kn/\v11 = .int .i64 k/\Hid (kn=hasR (L.take k) (low x)/\Below w3.heap.size w3 wq)) (fun _ v11 _=>n - (intOf v11).toNat)
      case atStart=>exact ⟨false,0,Nat.zero_le _,rfl,rfl,rfl,Below.refl _ _⟩
      case round=>
       obtain ⟨kn,k,hk,rfl,rfl,HK⟩:=hrel
       have HR5:=hid (HR3.out.kept HK.out.2);obtain ⟨c0,c1,z0⟩:=HR5.out.2.2.2.cells
       by_cases hkn:k<n
       ·have hki:(k:Int)<(n:Int):=by omega
        have hkL:k<L.length:=by have:=HN2.out;omega
        obtain ⟨a',c',ea,q1,q2,hvw⟩:=HR5.out.po.view
        injection ea with ea1 ea2 ea3
        clear ea2 ea3 q1 q2;subst ea1;obtain ⟨b,off,u,rfl,g0,q5,q6⟩:=hvw k hkL
        obtain ⟨M,hM⟩: ∃ M:ByteArray,M=⟨L[k].name.toArray⟩:=⟨_,rfl⟩
        rw [<- hM] at g0;obtain ⟨y,hy⟩: ∃ y,y=(M.toList==N.toList):=⟨_,rfl⟩
        have HYS:=hid (show hasR (L.take (k+1)) (low x)=(hasR (L.take k) (low x)||y) by
         unfold hasR;rw [List.take_succ_eq_append_getElem hkL,List.any_append,hy,str_beq10,hM,HNL.out]
         simp)
        have hy2:=hy.symm;clear q5 q6 hvw hM hkL hy
        cases kn with
        | true=>
          have HK2:=hid (show true=hasR (L.take (k+1)) (low x) by rw [HYS.out,<- HK.out.1];rfl)
          go_wp2_with fail
          go_roundw
          case rel=>
           first
            | exact ⟨true,k+1,by omega,rfl,by go_num,HK2.out,HK.out.2⟩
            | ((repeat apply Exists.intro);refine ⟨?_,rfl⟩;exact ⟨true,k+1,by omega,rfl,by go_num,HK2.out,HK.out.2⟩)
            | ((repeat apply Exists.intro);exact ⟨⟨true,k+1,by omega,rfl,by go_num,HK2.out,HK.out.2⟩,rfl⟩)
          case measure=>simp [intOf];omega
        | false=>
          have HK2:=hid (show y=hasR (L.take (k+1)) (low x) by rw [HYS.out,<- HK.out.1];rfl)
          go_wp2_with fail
          go_roundw
          case rel=>
           first
            | exact ⟨y,k+1,by omega,rfl,by go_num,HK2.out,HK.out.2⟩
            | ((repeat apply Exists.intro);refine ⟨?_,rfl⟩;exact ⟨y,k+1,by omega,rfl,by go_num,HK2.out,HK.out.2⟩)
            | ((repeat apply Exists.intro);exact ⟨⟨y,k+1,by omega,rfl,by go_num,HK2.out,HK.out.2⟩,rfl⟩)
          case measure=>simp [intOf];omega
       ·obtain rfl:k=n:=by omega
        have hng: ¬ ((k:Int)<(k:Int)):=by omega
        have HKF:=hid (show kn=hasR L (low x) by have h:=HK.out.1;rwa [List.take_of_length_le (by have:=HN2.out;omega)] at h);have HB5:=hid (below2 HB3.out HK.out.2);have HO5:=hid (own_kept HO3.out HK.out.2);clear HK hk hkn
        cases kn with
        | true=>
          have HAD:=hid (show addR L X.data.toList=L by unfold addR;rw [HRV.out];simp [<- HKF.out]);have HR4:=hid (show k=L.length/\RJ w wr l rp (.slice (some ⟨bc,oc,none⟩) m cc) C (i+1) (.slice a k c) Q L from ⟨HN2.out,by
           obtain ⟨h,hx⟩:=HXC.out
           exact HR5.out.next h (by have:=HN2.out;omega) (by rw [hx];exact HAD.out)⟩)
          go_wp2_with fail
          go_roundw
          case rel=>
           first
            | exact ⟨i+1,a,k,c,Q,L,by omega,by go_num,hn32,HR4.out⟩
            | ((repeat apply Exists.intro);refine ⟨?_,rfl⟩;exact ⟨i+1,a,k,c,Q,L,by omega,by go_num,hn32,HR4.out⟩)
            | ((repeat apply Exists.intro);exact ⟨⟨i+1,a,k,c,Q,L,by omega,by go_num,hn32,HR4.out⟩,rfl⟩)
          case measure=>simp [intOf];omega
        | false=>
          have HAD:=hid (show addR L X.data.toList=L++[⟨low x,t⟩] by unfold addR;rw [HRV.out];simp [<- HKF.out]);have hsl: ∀ wx,(Instr.sliceAt 22 (.slice (some ⟨A,0,none⟩) wn wc) (some (.int .i64 1)) none none).run Tryz.prog wx = .ok (tlC A wn wc) wx:=fun wx=>slice_wordsC A wn wc wx hwn1 hwc
          have HV:=hid (tlC_slv HO5.out HWN.out);obtain ⟨va,vl,vcap,hV⟩: ∃ a ln lc,tlC A wn wc = .slice a ln lc:=⟨_,_,_,rfl⟩
          rw [hV] at HV hsl;have HO6:=hid (show wr.ownsRow (w.heap.size+2) 54 2 (.slice a k c) k (cellsR Q) from by have h:=HR5.out.2.2.2.2.2.1;rw [<- HN2.out] at h;exact h);have hwr2:w.heap.size+2<=wr.heap.size:=HR5.out.2.2.2.lt;have HM5:=hid HR5.out.2.2.2.2.1;have c0a:(wr.alloc (.cells #[.string N,.slice va vl vcap] 54)).cell? ⟨w.heap.size+1,0,none⟩=some (.slice a k c):=by
           rw [Lib.cell_of_heap ((Lib.alloc_old wr _ _ (by omega)).trans HM5.out)];rfl
          clear hV
          go_wp2_with fail
          go_region_law (first | (refine step_append_own0 rfl (.tmp 61) (.tmp 66) 50 rfl (w.heap.size+2) 54 i0 _ 2 40 Tryz.underlying50 hi hz0 hz1 hz2 rfl (by decide) (.slice a k c) k (cellsR Q) rfl (by exact HO6.out.alloc _) ⟨wr.heap.size,0,none⟩ 1 1 [.string N,.slice va vl vcap] rfl rfl (by intro q u hq;match q,hq with | 0,hq=>simp at hq;subst hq;simp [Addr.add] | 1,hq=>simp at hq;subst hq;simp [Addr.add]) (by intro u hu;simp at hu;rcases hu with rfl | rfl<;>rfl) (by unfold maxLen;omega) (by omega) (by simp;omega) ?_;intro v5 w5 hown hgrow hnil;obtain ⟨a5,c5,rfl,hc5,hm5⟩:=own_form10 hown;have hP4:=(Lib.alloc_old wr (.cells #[.string N,.slice va vl vcap] 54) _ (by omega)).trans HM5.out;have hP5:w5.heap[w.heap.size+1]? = some (.cells #[.slice a k c,.bool rp] 52 (0,0)):=(hgrow.block _ (by simp;omega) (fun e=>(by obtain ⟨cur,hc⟩:=ownsRow_kind (HO6.out.alloc (.cells #[.string N,.slice va vl vcap] 54)) _ e.symm;exact kind_nf hc hP4 (by decide) rfl))).trans hP4;have e0:w5.cell? ⟨w.heap.size+1,0,none⟩=some (.slice a k c):=(by rw [Lib.cell_of_heap hP5];rfl);have y5:w5.frozen? ⟨w.heap.size+1,0,none⟩=false:=Lib.frozen_of_heap hP5 0))
          all_goals
           have hbA:Below wr.heap.size wr (wr.alloc (.cells #[.string N,.slice va vl vcap] 54)).drew:=((Below.refl _ wr).alloc (Nat.le_refl _) _).drew;have HR6:=hid (show k+1=(L++[(⟨low x,t⟩:Ru)]).length/\RJ w (w5.setCell ⟨w.heap.size+1,0,none⟩ (.slice a5 (k+1) c5)) l rp (.slice (some ⟨bc,oc,none⟩) m cc) C (i+1) (.slice a5 (k+1) c5) (Q++[(⟨(low x).toArray⟩,.slice va vl vcap)]) (L++[⟨low x,t⟩]) by
            refine ⟨by rw [List.length_append,<- HN2.out];rfl,?_,?_,?_,?_⟩
            ·obtain ⟨h,hx⟩:=HXC.out
             have h1:=HR5.out.1;rw [List.drop_eq_getElem_cons h,polF,if_neg (by have:=HN2.out;omega),hx,HAD.out] at h1;exact h1
            ·rw [List.length_append,<- HN2.out];simp;omega
            ·refine ownsRow_same (own_kept HR5.out.2.2.1 hbA) fun g hg=> ?_
             obtain ⟨cur,hc⟩:=ownsRow_kind (own_kept HR5.out.2.2.1 hbA) g hg
             exact PIr.texts (HR5.out.2.2.2.kept hbA) hgrow g ⟨cur,_,hc⟩
            ·refine PIr.snoc (r:=⟨low x,t⟩) (w2:=(wr.alloc (.cells #[.string N,.slice va vl vcap] 54)).drew) (B:=W0.heap.size) HPI0.out (below2 HB5.out hbA) (HV.out.same fun g hg=>hbA.block g (HV.out.lt g hg).2) (Nat.le_refl _) ?_ hgrow
             rw [<- HN2.out,show (⟨(low x).toArray⟩:ByteArray)=N by rw [<- HNL.out,Lib.mk_data]];exact hown)
           clear hown hgrow hnil hP4 hP5 hbA c0 c1 z0 c0a hc5 hm5
           go_wp2_with fail
           go_roundw
           case rel=>
            first
             | exact ⟨i+1,a5,k+1,c5,_,_,by omega,by go_num,by omega,HR6.out⟩
             | ((repeat apply Exists.intro);refine ⟨?_,rfl⟩;exact ⟨i+1,a5,k+1,c5,_,_,by omega,by go_num,by omega,HR6.out⟩)
             | ((repeat apply Exists.intro);exact ⟨⟨i+1,a5,k+1,c5,_,_,by omega,by go_num,by omega,HR6.out⟩,rfl⟩)
           case measure=>simp [intOf];omega
def PlAt (w:World) (v:Value) (Ps:List (List Ru×Bool)):Prop:=
 ∃ a cap,v = .slice a Ps.length cap/\Ps.length<=cap/\cap<=maxLen /\ ∀ j (hj:j<Ps.length),∃ b off ua uc,a=some ⟨b,off,none⟩/\w.cell? ⟨b,off+j*2,none⟩=some (.slice ua Ps[j].1.length uc)/\w.cell? ⟨b,off+j*2+1,none⟩=some (.bool Ps[j].2)/\PoAt w (.slice ua Ps[j].1.length uc) Ps[j].1
theorem PlAt.kept {w w':World} {v:Value} {Ps:List (List Ru×Bool)} (h:PlAt w v Ps) (hb:Below w.heap.size w w'):PlAt w' v Ps:=by
 obtain ⟨a,cap,h1,h2,h3,h4⟩:=h
 refine ⟨a,cap,h1,h2,h3,fun j hj=> ?_⟩
 obtain ⟨b,off,ua,uc,e,c1,c2,c3⟩:=h4 j hj
 exact ⟨b,off,ua,uc,e,kept_cell c1 hb,kept_cell c2 hb,c3.kept hb⟩
theorem infoPoR:(Tryz.prog.info? 52).map (fun i=>(i.zero,i.size,i.bytes))=some (some (.agg #[.slice none 0 0,.bool false]),2,32):=by kernel_rfl
def OnRr (w:World) (B:Nat) (v:Value) (L:List Ru):Prop:= ∃ Q,w.ownsRow B 54 2 v L.length (cellsR Q)/\RdO w B Q L
theorem OnRr.keptB {w w':World} {B:Nat} {v:Value} {L:List Ru} (h:OnRr w B v L) (hk: ∀ (k:Nat) (cur:Array Value) (T:TypeId) (fz:Nat×Nat),w.heap[k]? = some (Obj.cells cur T fz)->(T=54∨T=9)->w'.heap[k]? = w.heap[k]?):OnRr w' B v L:=by
 obtain ⟨Q,h1,h2⟩:=h
 refine ⟨Q,ownsRow_same h1 fun g hg=> ?_,h2.keptB ?_⟩
 ·obtain ⟨cur,hc⟩:=ownsRow_kind h1 g hg
  exact hk _ _ _ _ hc (.inl rfl)
 ·rintro k ⟨cur,fz,hc⟩
  exact hk _ _ _ _ hc (.inr rfl)
theorem OnRr.po {w:World} {B:Nat} {v:Value} {L:List Ru} (h:OnRr w B v L):PoAt w v L:=by
 obtain ⟨Q,h1,h2⟩:=h
 exact own_po h1 h2
def RdPr (w:World) (B:Nat) (P:List (Value×Bool)) (Ps:List (List Ru×Bool)):Prop:=
 P.length=Ps.length /\ ∀ j (h1:j<P.length) (h2:j<Ps.length),P[j].2=Ps[j].2/\OnRr w B P[j].1 Ps[j].1
theorem RdPr.nil (w:World) (B:Nat):RdPr w B [] []:=⟨rfl,fun j h=>by simp at h⟩
theorem RdPr.keptB {w w':World} {B:Nat} {P:List (Value×Bool)} {Ps:List (List Ru×Bool)} (h:RdPr w B P Ps) (hk: ∀ (k:Nat) (cur:Array Value) (T:TypeId) (fz:Nat×Nat),w.heap[k]? = some (Obj.cells cur T fz)->(T=54∨T=9)->w'.heap[k]? = w.heap[k]?):RdPr w' B P Ps:=
 ⟨h.1,fun j a b=>⟨(h.2 j a b).1,(h.2 j a b).2.keptB hk⟩⟩
theorem RdPr.kept {w w':World} {B:Nat} {P:List (Value×Bool)} {Ps:List (List Ru×Bool)} (h:RdPr w B P Ps) (hb:Below w.heap.size w w'):RdPr w' B P Ps:=
 h.keptB fun k _ _ _ hk _=>hb.block k (Array.getElem?_eq_some_iff.1 hk).1
theorem RdPr.app {w:World} {B:Nat} {P P':List (Value×Bool)} {Ps Ps':List (List Ru×Bool)} (h:RdPr w B P Ps) (h':RdPr w B P' Ps'):RdPr w B (P++P') (Ps++Ps'):=by
 refine ⟨by simp [h.1,h'.1],fun j a b=> ?_⟩
 by_cases hj:j<P.length
 ·have hj2:j<Ps.length:=by rw [<- h.1];exact hj
  rw [List.getElem_append_left hj,List.getElem_append_left hj2];exact h.2 j hj hj2
 ·have hj2: ¬ j<Ps.length:=by rw [<- h.1];exact hj
  rw [List.getElem_append_right (by omega),List.getElem_append_right (by omega)];have:=h'.2 (j - P.length) (by simp at a;omega) (by simp at b;rw [h.1];omega)
  simp only [<- h.1];exact this
theorem RdPr.one {w:World} {B:Nat} {v:Value} {L:List Ru} {b:Bool} (h:OnRr w B v L):RdPr w B [(v,b)] [(L,b)]:=by
 refine ⟨rfl,fun j h1 h2=> ?_⟩
 obtain rfl:j=0:=by simp at h1;omega
 exact ⟨rfl,h⟩
theorem grown_rr {w w':World} {B:Nat} {v:Value} {n:Nat} {cs:List Value} (hv:w.ownsRow B 52 2 v n cs) (hg:w.grownBy w' v.ownBlock): ∀ (k:Nat) (cur:Array Value) (T:TypeId) (fz:Nat×Nat),w.heap[k]? = some (Obj.cells cur T fz)->(T=54∨T=9)->w'.heap[k]? = w.heap[k]? :=fun k cur T fz hk hT=>by
 refine hg.block k (Array.getElem?_eq_some_iff.1 hk).1 (fun e=> ?_);obtain ⟨c2,hc2⟩:=ownsRow_kind hv k e.symm
 rw [hk] at hc2;injection hc2 with hc2
 injection hc2 with _ hc2 _
 rcases hT with rfl | rfl
 ·exact absurd hc2 (by decide)
 ·exact absurd hc2 (by decide)
def RPolPost (Ps:List (List Ru×Bool)) (w:World) (e:Ending) (w':World):Prop:=
 ∃ v P,e = .returned v/\w'.ownsRow w.heap.size 52 2 v Ps.length (cellsP P)/\RdPr w' w.heap.size P Ps/\Below w.heap.size w w'
theorem own_plr {w:World} {B B':Nat} {v:Value} {P:List (Value×Bool)} {Ps:List (List Ru×Bool)} (h:w.ownsRow B 52 2 v Ps.length (cellsP P)) (hr:RdPr w B' P Ps):PlAt w v Ps:=by
 rcases h.2 with ⟨hv,hn⟩ | ⟨g,cap,cur,rfl,hg,hrow,hnc,hcm,hcs,htake⟩
 ·obtain rfl:=List.eq_nil_of_length_eq_zero hn
  exact ⟨none,0,hv,Nat.le_refl _,by decide,fun j hj=>by simp at hj⟩
 ·refine ⟨_,cap,rfl,hnc,hcm,fun j hj=> ?_⟩
  have hjP:j<P.length:=by rw [hr.1];exact hj
  obtain ⟨e1,hon⟩:=hr.2 j hjP hj
  have hpo:=hon.po;obtain ⟨Q,hq,_⟩:=hon
  obtain ⟨ua,uc,hu,_,_⟩:=own_form10 hq
  refine ⟨g,0,ua,uc,rfl,?_,?_,?_⟩
  ·rw [Nat.zero_add,h.cellAt _ (by omega),(cellsP_at P j hjP).1,hu]
  ·rw [Nat.zero_add,h.cellAt _ (by omega),(cellsP_at P j hjP).2,e1]
  ·rw [<- hu];exact hpo
def forbL:List UInt8:=[0,9,10,13,32,35,47,58,60,62,63,64,91,92,93,94,124]
def forb (c:UInt8):Bool:=decide (0<=Lib.indexByte forbL c)
def dig16 (c:UInt8):Nat:=
 if 48<=c.toNat/\c.toNat<=57 then c.toNat - 48 else if 97<=c.toNat/\c.toNat<=102 then c.toNat - 87 else if 65<=c.toNat/\c.toNat<=70 then c.toNat - 55 else 16
def valN (base:Nat):Nat->List UInt8->Option Nat
 | n,[]=>some n
 | n,c::l=>if dig16 c<base then valN base (min (n*base+dig16 c) 4294967296) l else none
def valV (base:Nat) (l:List UInt8):Option Nat:=valN base 0 l
def marked (l:List UInt8):Bool:=Lib.hasPrefix l [48,120]||Lib.hasPrefix l [48,88]
def numV (l:List UInt8):Option Nat:=
 if marked l then valV 16 (l.drop 2)
 else match l with
  | []=>none
  | c::r=>if c=48 then valV 8 r else valV 10 (c::r)
def fourN:Nat->Nat->List UInt8->Option Nat
 | 0,_,_=>none
 | r+1,high,rest=>
   match numV (Lib.cut rest [46]).1 with
   | none=>none
   | some n=>
     if (Lib.cut rest [46]).2.2 then (if 255<n then none else fourN r (high*256+n) (Lib.cut rest [46]).2.1)
     else if n<2 ^ (8*(r+1)) then some (high*2 ^ (8*(r+1))+n) else none
def noDot (l:List UInt8):List UInt8:=Lib.trimSuffix l [46]
def fourV (l:List UInt8):Option Nat:=fourN 4 0 (noDot l)
def lastLab (l:List UInt8):List UInt8:=(l.reverse.takeWhile (· != 46)).reverse
def numberedV (l:List UInt8):Bool:=
 if marked (lastLab (noDot l)) then (valV 16 ((lastLab (noDot l)).drop 2)).isSome
 else decide (lastLab (noDot l)≠[])&&(valV 10 (lastLab (noDot l))).isSome
def dec8 (n:Nat):List UInt8:=
 if n<10 then [UInt8.ofNat (48+n)] else if n<100 then [UInt8.ofNat (48+n / 10),UInt8.ofNat (48+n % 10)] else [UInt8.ofNat (48+n / 100),UInt8.ofNat (48+n / 10 % 10),UInt8.ofNat (48+n % 10)]
def text4 (n:Nat):List UInt8:=dec8 (n / 16777216 % 256)++46::(dec8 (n / 65536 % 256)++46::(dec8 (n / 256 % 256)++46::dec8 (n % 256)))
def plainB (l:List UInt8):Option Nat:=
 match valV 10 l with
 | none=>none
 | some n=>if 255<n∨l=[]∨(l.head? = some 48/\l≠[48]) then none else some n
def dotN:Nat->Nat->List UInt8->Option Nat
 | 0,n,_=>some n
 | r+1,n,rest=>
   match plainB (Lib.cut rest [46]).1 with
   | none=>none
   | some b=>if (Lib.cut rest [46]).2.2=decide (r≠0) then dotN r (n*256+b) (Lib.cut rest [46]).2.1 else none
def dottedV (l:List UInt8):Option Nat:=dotN 4 0 l
def scanP (whole:Option Nat) (last:Bool):Nat->Nat->List UInt8->Option (List Nat)
 | i,n,[]=>if i=0 then none else some [n]
 | i,n,c::l=>
   if c=46/\last=true then whole.map fun m=>[m / 65536,m % 65536]
   else if dig16 c<16/\i≠4 then scanP whole last (i+1) (n*16+dig16 c) l else none
def pieceV (last:Bool) (p:List UInt8):Option (List Nat):=scanP (dottedV p) last 0 0 p
def piecesN (atEnd:Bool):Nat->List Nat->List UInt8->Bool->Option (List Nat)
 | _,out,_,false=>some out
 | 0,_,_,true=>none
 | f+1,out,rest,true=>
   match pieceV (atEnd && !(Lib.cut rest [58]).2.2) (Lib.cut rest [58]).1 with
   | none=>none
   | some ns=>piecesN atEnd f (out++ns) (Lib.cut rest [58]).2.1 (Lib.cut rest [58]).2.2
def piecesV (l:List UInt8) (atEnd:Bool):Option (List Nat):=piecesN atEnd 8 [] l (decide (l≠[]))
def sixV (l:List UInt8):Option (List Nat):=
 match piecesV (Lib.cut l [58,58]).1 (!(Lib.cut l [58,58]).2.2),piecesV (Lib.cut l [58,58]).2.1 true with
 | some a,some b=>
   if a.length+b.length<=8/\((Lib.cut l [58,58]).2.2=true ↔ a.length+b.length<8) then some (a++List.replicate (8 - a.length - b.length) 0++b) else none
 | _,_=>none
def digC (n:Nat):UInt8:=if n<10 then UInt8.ofNat (48+n) else UInt8.ofNat (87+n)
def digsN (base:Nat):Nat->Nat->List UInt8->List UInt8
 | 0,_,acc=>acc
 | f+1,n,acc=>if n<base then digC n::acc else digsN base f (n / base) (digC (n % base)::acc)
def hex16 (n:Nat):List UInt8:=digsN 16 4 n []
def zeros:List Nat->Nat
 | []=>0
 | n::l=>if n=0 then zeros l+1 else 0
def lrunN:Nat->Nat->Nat->Nat->List Nat->Nat×Nat
 | _,_,fr,tu,[]=>(fr,tu)
 | f,i,fr,tu,n::l=>
   if max (tu - fr) 1<zeros (n::l) then lrunN f (i+1) i (i+zeros (n::l)) l else lrunN f (i+1) fr tu l
def lrun (x:List Nat):Nat×Nat:=lrunN 0 0 0 0 x
def joined (x:List Nat):List UInt8:=Lib.join (x.map hex16) [58]
def text6 (x:List Nat):List UInt8:=
 if (lrun x).1=(lrun x).2 then joined x else joined (x.take (lrun x).1)++([58,58]++joined (x.drop (lrun x).2))
def nameB (c:UInt8):Bool:= !(decide (c.toNat<33)||(decide (126<c.toNat)||(c==37||forb c)))
def coded (l:List UInt8):Bool:=Lib.hasPrefix l [120,110,45,45]||Lib.contains l [46,120,110,45,45]
def allN (l:List UInt8):Bool:=l.all nameB
def nameV (l:List UInt8):Option (List UInt8):=
 if l=[]∨allN l=false∨coded l=true then none
 else if numberedV l then (fourV l).map text4 else some l
def otherV (l:List UInt8):Option (List UInt8):=if l.any forb then none else some (pct 1 l)
def bracketV (l:List UInt8):Option (List UInt8):=
 if Lib.hasSuffix l [93] then (sixV (Lib.trimSuffix l [93])).map fun x=>91::(text6 x++[93]) else none
def parseV (l:List UInt8) (special:Bool):Option (List UInt8):=
 if Lib.hasPrefix l [91] then bracketV (l.drop 1) else if special then nameV (low (unpct l)) else otherV l
end Go.Proofs.YtijpkalkfbejeaaGreatDoor
