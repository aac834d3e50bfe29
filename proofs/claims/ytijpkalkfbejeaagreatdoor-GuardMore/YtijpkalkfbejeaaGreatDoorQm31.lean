/- Walks and plain facts. -/
import Derived.Test.YtijpkalkfbejeaaGreatDoorQm30
set_option linter.unusedSimpArgs false
set_option linter.unusedVariables false
set_option maxHeartbeats 16000000
set_option maxRecDepth 100000

namespace Go.Proofs.YtijpkalkfbejeaaGreatDoor
open Go.RowKit
theorem tx_getD (L:List (List UInt8)) (w:World) (g:Nat) (h:TxtS w g L): ∀ j,j<(L.map fun x=>(⟨x.toArray⟩:ByteArray)).length->w.cell? ⟨g,0+j,none⟩=some (.string ((L.map fun x=>(⟨x.toArray⟩:ByteArray)).getD j ByteArray.empty)):=fun j hj=>by
 have hj':j<L.length:=by simpa using hj
 rw [getD_ba L j hj',Nat.zero_add];exact h j hj'
theorem ba_inj (A B:List (List UInt8)):(A.map (fun x=>(⟨x.toArray⟩:ByteArray))=B.map (fun x=>(⟨x.toArray⟩:ByteArray))) ↔ A=B:=by
 constructor
 ·intro h
  have:=congrArg (List.map (fun x:ByteArray=>x.data.toList)) h;rw [List.map_map,List.map_map] at this
  have e:((fun x:ByteArray=>x.data.toList) ∘ fun x:List UInt8=>(⟨x.toArray⟩:ByteArray))=id:=rfl;rw [e,List.map_id,List.map_id] at this
  exact this
 ·intro h;rw [h]
theorem beq_dec (a b:List (List UInt8)):(a==b)=decide (a=b):=by by_cases h:a=b<;>simp [h]
theorem equal_tx (g1 n c g2 m d:Nat) (A B:List (List UInt8)) (w:World) (h1:TxtS w g1 A) (h2:TxtS w g2 B) (hn:n<=A.length) (hm:m<=B.length) (ha:A.length<=5000000000) (hb:B.length<=5000000000):
 Calls Tryz.prog 136 #[.slice (some ⟨g1,0,none⟩) n c,.slice (some ⟨g2,0,none⟩) m d] w fun e w'=>e = .returned (.bool (decide (A.take n=B.take m)))/\Below w.heap.size w w':=by
 refine (Tryz.slices_Equal_string g1 0 n c g2 0 m d (A.map fun x=>⟨x.toArray⟩) (B.map fun x=>⟨x.toArray⟩) w (by simpa using hn) (by simpa using hm) (by omega) (by omega) (tx_getD A w g1 h1) (tx_getD B w g2 h2)).mono ?_;rintro e w' ⟨rfl,k,rfl⟩
 refine ⟨?_,Go.below_drewN (Below.refl _ _) _⟩
 rw [<- List.map_take,<- List.map_take];have:(decide ((A.take n).map (fun x=>(⟨x.toArray⟩:ByteArray))=(B.take m).map (fun x=>(⟨x.toArray⟩:ByteArray))))=decide (A.take n=B.take m):=by
  rw [Bool.eq_iff_iff];simp only [decide_eq_true_eq];exact ba_inj _ _
 rw [this]
theorem own_txS {w:World} {B g cap:Nat} {L:List (List UInt8)} (h:w.ownsRow B 9 1 (.slice (some ⟨g,0,none⟩) L.length cap) L.length (cellsS L)):TxtS w g L/\L.length<=cap/\cap<=maxLen:=by
 rcases own_path h with ⟨hv,_⟩ | ⟨b,cap',hv,_,h3,h4,h5⟩
 ·cases hv
 ·cases hv;exact ⟨h5,h3,h4⟩
theorem pathM_yes {hops:Int} {u:Adr} {s:List UInt8} (h:hops≠0∨s=[]∨s=[47]):pathM hops u s=true:=by unfold pathM;rw [if_pos h]
theorem pathM_opq {u:Adr} {s:List UInt8} (h:s≠[]) (h2:s≠[47]) (h3:u.opq=true):pathM 0 u s=false:=by unfold pathM;rw [if_neg (by simp [h,h2]),if_pos h3]
theorem pathM_end {u:Adr} {s:List UInt8} (h:s≠[]) (h2:s≠[47]) (h3:u.opq=false) (h4:Lib.hasSuffix s [47]=true):pathM 0 u s=begN ((cutL 47 (s.drop 1)).map unpct).dropLast (u.path.map unpct):=by unfold pathM;rw [if_neg (by simp [h,h2]),if_neg (by simp [h3]),if_pos h4]
theorem pathM_same {u:Adr} {s:List UInt8} (h:s≠[]) (h2:s≠[47]) (h3:u.opq=false) (h4:Lib.hasSuffix s [47]=false):pathM 0 u s=((cutL 47 (s.drop 1)).map unpct==u.path.map unpct):=by unfold pathM;rw [if_neg (by simp [h,h2]),if_neg (by simp [h3]),if_neg (by simp [h4])]
theorem cutL_mem_le (c:UInt8): ∀ (l:List UInt8),∀ x ∈ cutL c l,x.length<=l.length:=by
 refine cutL_ind c (fun l h x hx=> ?_) (fun a r h ih x hx=> ?_)
 ·rw [cutL_none c l h] at hx
  simp at hx;rw [hx];exact Nat.le_refl _
 ·rw [cutL_some c a r h] at hx
  rcases List.mem_cons.1 hx with rfl | hx
  ·simp
  ·have:=ih x hx
   simp;omega
theorem pathC_any (u:Adr) (uv:Value) (hops:Int) (ch cu cs g cap:Nat) (s:ByteArray) (w:World) (hg:Gd w) (hA:AdrIn w cu u uv) (hh:w.cell? ⟨ch,0,none⟩=some (.int .i64 hops)) (hc:w.cell? ⟨cs,0,none⟩=some (.slice (some ⟨g,0,none⟩) (u.path.map unpct).length cap)) (ht:TxtS w g (u.path.map unpct)) (hcap:(u.path.map unpct).length<=cap) (hl:u.path.length<=5000000000) (hs:s.size<=4000000000):
 Calls Tryz.prog 133 #[.string s,.pointer (some ⟨ch,0,none⟩),.pointer (some ⟨cu,0,none⟩),.pointer (some ⟨cs,0,none⟩)] w fun e w'=>e = .returned (.bool (pathM hops u s.data.toList))/\Below w.heap.size w w':=by
 have hop:=hA.cell 6 _ rfl;have HT:=hid ht;have HG:=hid hg;have HCc:=hid hc;obtain ⟨m,hm⟩: ∃ m,m=(u.path.map unpct).length:=⟨_,rfl⟩
 have hml:m<=5000000000:=by rw [hm,List.length_map];exact hl
 rw [<- hm] at hc hcap HCc;have HM:=hid hm;clear ht hg hA hm hl hc;by_cases hz:hops=0
 ·subst hz
  by_cases h0:s.data.toList=[]
  ·have HV:=hid (pathM_yes (hops:=0) (u:=u) (.inr (.inl h0)))
   have e0:=empty_yes s h0;clear h0
   go_enter Tryz.func133,Tryz.ntmps133
   go_wp2
   go_ret
   exact ⟨ret_bool (by rw [HV.out]<;>rfl),Below.refl _ _⟩
  ·have e0:=empty_no s h0
   by_cases h47:s.data.toList=[47]
   ·have HV:=hid (pathM_yes (hops:=0) (u:=u) (.inr (.inr h47)))
    have e1:=beq_yes s [47] h47;clear h0 h47
    go_enter Tryz.func133,Tryz.ntmps133
    go_wp2
    go_ret
    exact ⟨ret_bool (by rw [HV.out]<;>rfl),Below.refl _ _⟩
   ·have e1:=beq_no s [47] h47
    cases ho:u.opq with
    | true=>
      have HV:=hid (pathM_opq h0 h47 ho);rw [ho] at hop;clear h0 h47
      go_enter Tryz.func133,Tryz.ntmps133
      go_wp2
      go_ret
      exact ⟨ret_bool (by rw [HV.out]<;>rfl),Below.refl _ _⟩
    | false=>
      rw [ho] at hop;have hn1:1<=s.size:=by
       rw [Lib.size_eq];exact List.length_pos_iff.2 h0
      have hn1':(1:Int)<=(s.size:Int):=by omega
      obtain ⟨E,hE⟩: ∃ E:ByteArray,s.extract 1 s.size=E:=⟨_,rfl⟩
      have hEl:E.data.toList=s.data.toList.drop 1:=by rw [<- hE,extract_drop]
      have hEs:E.size<=4000000000:=by rw [Lib.size_eq,hEl,List.length_drop,<- Lib.size_eq];omega
      have HSp:=hid (fun (w:World) (hg:Gd w)=>split_any E 47 w hg hEs);obtain ⟨L,hL⟩: ∃ L,L=cutL 47 E.data.toList:=⟨_,rfl⟩
      have hLl:L.length<=4000000001:=by rw [hL];have:=cutL_len11 47 E.data.toList;rw [<- Lib.size_eq] at this;omega
      have hLm: ∀ x ∈ L,x.length<=140737488351232:=fun x hx=>by rw [hL] at hx;have:=cutL_mem_le 47 E.data.toList x hx;rw [<- Lib.size_eq] at this;omega
      have hL0:L≠[]:=by rw [hL];exact cutL_ne _ _
      rw [<- hL] at HSp;have HUn:=hid (fun (v:Value) (w:World) (h:PathAt w v L)=>unpercented_any v L w h (by omega) hLm);obtain ⟨P,hP⟩: ∃ P,P=L.map unpct:=⟨_,rfl⟩
      have hPl:P.length<=4000000001:=by rw [hP,List.length_map];exact hLl
      have hP0:1<=P.length:=by rw [hP,List.length_map];exact List.length_pos_iff.2 hL0
      rw [<- hP] at HUn;have hPE:P=(cutL 47 (s.data.toList.drop 1)).map unpct:=by rw [hP,hL,hEl]
      obtain ⟨n,hn⟩: ∃ n,n=L.length:=⟨_,rfl⟩
      obtain ⟨k,hk⟩: ∃ k,P.length=k+1:=⟨P.length - 1,by omega⟩
      have HKP:=hid hk;have HNn:=hid hn;have HSf:=hid (fun w=>Tryz.strings_HasSuffix s ⟨#[47]⟩ w (by omega));rw [show (⟨#[47]⟩:ByteArray).data.toList=[47] from rfl] at HSf;have HPL:=hid hPl;unfold TxPost at HSp HUn;rw [<- hn] at HSp;rw [hk] at HUn;have HHc:=hid hop
      cases hsf:Lib.hasSuffix s.data.toList [47] with
      | false=>
        rw [hsf] at HSf;obtain ⟨q,hq⟩: ∃ q,decide (P.take (k+1)=(u.path.map unpct).take m)=q:=⟨_,rfl⟩
        have HV:=hid (show pathM 0 u s.data.toList=q by
         rw [pathM_same h0 h47 ho hsf,<- hPE,<- hq,<- hk,HM.out,List.take_length,List.take_length];exact beq_dec _ _)
        have HEq:=hid (fun (c:Nat) (g1:Nat) (w:World) (h1:TxtS w g1 P) (h2:TxtS w g (u.path.map unpct))=>equal_tx g1 (k+1) c g m cap P (u.path.map unpct) w h1 h2 (by omega) (by rw [<- HM.out];exact Nat.le_refl _) (by omega) (by rw [<- HM.out];exact hml));rw [hq] at HEq;clear h0 h47 ho hEl hEs hL hLl hLm hL0 hP hPl hP0 hPE hn hsf hk hq
        go_enter Tryz.func133,Tryz.ntmps133
        go_wp2_with fail
        refine (HSp.out _ HG.out).mono ?_;rintro e w1 ⟨g1,c1,rfl,hown1,hb1⟩
        have HB1:=hid hb1;have HPa:=hid (show PathAt w1 (.slice (some ⟨g1,0,none⟩) n c1) L by rw [HNn.out] at hown1 ⊢;exact own_path hown1);clear hown1 hb1
        go_wp2_with fail
        refine (HUn.out _ _ HPa.out).mono ?_;rintro e w2 ⟨g2,c2,rfl,hown2,hb2⟩
        have HB2:=hid (below2 HB1.out hb2);have HT2:=hid (show TxtS w2 g2 P by rw [<- HKP.out] at hown2;exact (own_txS hown2).1);have hcell:=keptC HCc.out HB2.out;clear hown2 hb2
        go_wp2_with (first | (go_at_call 135;refine (HSf.out _).mono ?_;rintro e wz ⟨rfl,hwz⟩;rw [hwz];clear hwz) | (go_at_call 136;refine (HEq.out _ _ _ HT2.out (HT.out.kept HB2.out)).mono ?_;rintro e w3 ⟨rfl,hb3⟩))
        go_ret
        exact ⟨ret_bool (by rw [HV.out]),below2 HB2.out hb3⟩
      | true=>
        rw [hsf] at HSf;obtain ⟨q,hq⟩: ∃ q,decide (P.take k=(u.path.map unpct).take k)=q:=⟨_,rfl⟩
        have hdl:P.dropLast=P.take k:=by rw [List.dropLast_eq_take,hk];rfl
        obtain ⟨d,hd⟩: ∃ d,decide (k<m)=d:=⟨_,rfl⟩
        have HV:=hid (show pathM 0 u s.data.toList=(d&&q) by
         rw [pathM_end h0 h47 ho hsf,<- hPE,hdl];unfold begN;have hlk:(P.take k).length=k:=by rw [List.length_take];omega
         rw [hlk,<- hq,<- hd,HM.out]
         congr 1
         exact beq_dec _ _)
        have HEq:=hid (fun (hkm:k<=m) (c:Nat) (g1:Nat) (w:World) (h1:TxtS w g1 P) (h2:TxtS w g (u.path.map unpct))=>equal_tx g1 k c g k cap P (u.path.map unpct) w h1 h2 (by omega) (by rw [<- HM.out];exact hkm) (by omega) (by rw [<- HM.out];exact hml));rw [hq] at HEq;have hkb:k<=4000000001:=by omega
        clear h0 h47 ho hEl hEs hL hLl hLm hL0 hP hPl hP0 hPE hn hsf hk hq hdl
        go_enter Tryz.func133,Tryz.ntmps133
        go_wp2_with fail
        refine (HSp.out _ HG.out).mono ?_;rintro e w1 ⟨g1,c1,rfl,hown1,hb1⟩
        have HB1:=hid hb1;have HPa:=hid (show PathAt w1 (.slice (some ⟨g1,0,none⟩) n c1) L by rw [HNn.out] at hown1 ⊢;exact own_path hown1);clear hown1 hb1
        go_wp2_with fail
        refine (HUn.out _ _ HPa.out).mono ?_;rintro e w2 ⟨g2,c2,rfl,hown2,hb2⟩
        have HB2:=hid (below2 HB1.out hb2);have hO2:TxtS w2 g2 P/\k+1<=c2:=by
         rw [<- HKP.out] at hown2 ⊢;exact ⟨(own_txS hown2).1,(own_txS hown2).2.1⟩
        have HT2:=hid hO2.1;have hc2:k+1<=c2:=hO2.2;have hcell:=keptC HCc.out HB2.out;clear hown2 hb2 hO2
        cases d with
        | false=>
          have hkm: ¬ k<m:=of_decide_eq_false hd;have hkm': ¬ (k:Int)<(m:Int):=by omega
          go_wp2_with (go_at_call 135;refine (HSf.out _).mono ?_;rintro e wz ⟨rfl,hwz⟩;rw [hwz];clear hwz)
          go_ret
          exact ⟨ret_bool (by rw [HV.out]<;>rfl),HB2.out⟩
        | true=>
          have hkm:k<m:=of_decide_eq_true hd;have hkm':(k:Int)<(m:Int):=by omega
          have hkc:k<=cap:=by omega
          go_wp2_with (first | (go_at_call 135;refine (HSf.out _).mono ?_;rintro e wz ⟨rfl,hwz⟩;rw [hwz];clear hwz) | (go_at_call 136;refine (HEq.out (by omega) _ _ _ HT2.out (HT.out.kept HB2.out)).mono ?_;rintro e w3 ⟨rfl,hb3⟩))
          go_ret
          exact ⟨ret_bool (by rw [HV.out]<;>rfl),below2 HB2.out hb3⟩
 ·have HV:=hid (pathM_yes (u:=u) (s:=s.data.toList) (.inl hz))
  have hzb:(hops != 0)=true:=by simpa using hz
  clear hz
  go_enter Tryz.func133,Tryz.ntmps133
  go_wp2
  go_ret
  exact ⟨ret_bool (by rw [HV.out]<;>rfl),Below.refl _ _⟩
section
variable {P : Program} {ops : Array Oper} {Q : Exit -> Act -> World -> Prop} {md : Region.Mode} {S : World -> Prop}
def AnyBut (P:Program) (md:Region.Mode) (ops:Array Oper) (Q:Exit->Act->World->Prop) (S:World->Prop) (n:Nat):Nat->Array Bool->Act->World->Prop
 | 0,listed,a,w=>Region.ready md ops listed=[]/\Q .normal a w
 | m+1,listed,a,w=>(Region.ready md ops listed=[]->Q .normal a w) /\
   ∀ j ∈ Region.ready md ops listed,wpOp P ops Q j (fun a' w'=>(j≠n->S w')/\AnyBut P md ops Q S n m (listed.setIfInBounds j true) a' w') a w
theorem AnyBut.any {n:Nat}: ∀ (m:Nat) (listed:Array Bool) (a:Act) (w:World),AnyBut P md ops Q S n m listed a w->wpAny P md ops Q m listed a w:=by
 intro m
 induction m with
 | zero=>intro listed a w h;exact h
 | succ m ih=>intro listed a w h;exact ⟨h.1,fun j hj=>wpOp_mono (fun a' w' h'=>ih _ a' w' h'.2) (h.2 j hj)⟩
def waitsFor (md:Region.Mode) (ops:Array Oper) (n i:Nat):Bool:=match ops[n]? with
 | some o=>o.after.any fun e=>Region.binds md e&&e.on==i
 | none=>false
theorem not_ready {n i:Nat} (hw:waitsFor md ops n i=true) {listed:Array Bool} (hi:i ∈ Region.ready md ops listed):n ∉ Region.ready md ops listed:=by
 intro hn;obtain ⟨_,o,ho,hall⟩:=mem_ready.1 hn
 unfold waitsFor at hw;rw [ho] at hw;obtain ⟨k,hk,he⟩:=Array.any_eq_true.1 hw
 rw [Bool.and_eq_true] at he;have h1:=hall _ (Array.getElem_mem hk) he.1;have h2:o.after[k].on=i:=by simpa using he.2
 rw [h2] at h1;have h0:=(mem_ready.1 hi).1;rcases Nat.lt_or_ge i listed.size with h' | h'
 ·simp [h'] at h0 h1;rw [h0] at h1;cases h1
 ·simp [Array.getElem?_eq_none h'] at h1
theorem AnyBut.take {n i:Nat} {oi:Oper} {v:Value} (hi:ops[i]? = some oi) (hs:Region.noSelect ops=true) (hw:waitsFor md ops n i=true)
 (hQ: ∀ c a w,Q (.panic c) (a.put oi.dst v) w->Q (.panic c) a w):
 ∀ (m:Nat) (listed:Array Bool) (a:Act) (w:World),Region.free md ops listed i=true->(Region.ready md ops listed).contains i=true->YieldsIf P ops S oi v a->S w ->
   AnyBut P md ops Q S n m (listed.setIfInBounds i true) (a.put oi.dst v) w->AnyBut P md ops Q S n (m+1) listed a w:=by
 have hsel:=Region.noSelect_spec hs
 suffices H: ∀ (m:Nat) (listed:Array Bool) (a:Act) (w:World),
  (∀ j oj,ops[j]? = some oj->j≠i->listed.getD j true=false->(∀ e ∈ oj.after,Region.binds md e=true->e.on≠i)->oi.apart ops oj=true)->i ∈ Region.ready md ops listed->YieldsIf P ops S oi v a->S w ->
  AnyBut P md ops Q S n m (listed.setIfInBounds i true) (a.put oi.dst v) w->AnyBut P md ops Q S n (m+1) listed a w from
  fun m listed a w hf hr=>H m listed a w (Region.free_spec hi hf) (by simpa using hr)
 intro m
 induction m with
 | zero=>
   intro listed a w _ hr hy hS h;refine ⟨fun h0=>absurd hr (by rw [h0];simp),fun j hj=> ?_⟩;by_cases hji:j=i
   ·subst hji;exact hy.wpOp hi hS ⟨fun _=>hS,h⟩
   ·exact absurd (ready_mono hj hji) (by rw [h.1];simp)
 | succ m ih=>
   intro listed a w hf hr hy hS h;refine ⟨fun h0=>absurd hr (by rw [h0];simp),fun j hj=> ?_⟩;by_cases hji:j=i
   ·subst hji;exact hy.wpOp hi hS ⟨fun _=>hS,h⟩
   have hjn:j≠n:=fun e=>not_ready hw hr (e ▸ hj)
   obtain ⟨hun,oj,hoj,hall⟩:=mem_ready.1 hj
   have hno: ∀ e ∈ oj.after,Region.binds md e=true->e.on≠i:=by
    intro e he hb heq;have h1:=hall e he hb;have h0:=(mem_ready.1 hr).1;rw [heq] at h1;rcases Nat.lt_or_ge i listed.size with h' | h'
    ·simp [h'] at h0 h1;rw [h0] at h1;cases h1
    ·simp [Array.getElem?_eq_none h'] at h1
   have h2:=wpOp_putIf hoj (hf j oj hoj hji hun hno) (fun cs b=>hsel i oi cs b hi) (fun cs b=>hsel j oj cs b hoj) hQ hy (h.2 j (ready_mono hj hji));refine wpOp_mono (fun a' w' h3=> ?_) h2;have hS':=h3.2.1 hjn;refine ⟨fun _=>hS',ih _ a' w' ?_ (ready_mono hr (Ne.symm hji)) h3.1 hS' ?_⟩
   ·intro k ok hk hki hun' hno'
    refine hf k ok hk hki ?_ hno';by_cases hjk:j=k
    ·subst hjk;exact hun
    ·rw [getD_set_ne true hjk] at hun';exact hun'
   ·rw [Array.setIfInBounds_comm _ _ hji];exact h3.2.2
theorem AnyBut.one {n i m:Nat} {o:Oper} {listed:Array Bool} {a:Act} {w:World} (hr:Region.ready md ops listed=[i]) (ho:ops[i]? = some o)
 (h: ∀ K':Act->World->Prop,Shut (∀ a w,S w->AnyBut P md ops Q S n m (listed.setIfInBounds i true) a w->K' a w)->if Region.wanted o (yielded ops a.tmps)=true then Oper.wp P o a w K' Q else K' (a.put o.dst undef) w):
 AnyBut P md ops Q S n (m+1) listed a w:=by
 refine ⟨fun h0=>by rw [hr] at h0;simp at h0,fun j hj=> ?_⟩;rw [hr,List.mem_singleton] at hj
 subst hj;exact wpOp_step ho (fun K' hK=>h K' (fun a w hS hW=>hK a w ⟨fun _=>hS,hW⟩))
theorem AnyBut.last {n m:Nat} {o:Oper} {listed:Array Bool} {a:Act} {w:World} (hr:Region.ready md ops listed=[n]) (hr2:Region.ready md ops (listed.setIfInBounds n true)=[]) (ho:ops[n]? = some o)
 (h: ∀ K':Act->World->Prop,Shut (∀ a w,Q .normal a w->K' a w)->if Region.wanted o (yielded ops a.tmps)=true then Oper.wp P o a w K' Q else K' (a.put o.dst undef) w):
 AnyBut P md ops Q S n (m+1) listed a w:=by
 refine ⟨fun h0=>by rw [hr] at h0;simp at h0,fun j hj=> ?_⟩;rw [hr,List.mem_singleton] at hj
 subst hj;refine wpOp_step ho (fun K' hK=>h K' (fun a w hW=>hK a w ⟨fun h=>absurd rfl h,?_⟩))
 cases m with
 | zero=>exact ⟨hr2,hW⟩
 | succ m=>exact ⟨fun _=>hW,by rw [hr2];simp⟩
theorem AnyBut.start {id n:Nat} {a:Act} {w:World} (hm:P.follows .mixedOrders=true) (h:AnyBut P .any ops Q S n ops.size (Array.replicate ops.size false) a w.drew):(Code.region id ops true).wp P Q a w:=
 wp_region_any hm (AnyBut.any _ _ _ _ h)
end
def lineV (s:List UInt8):List UInt8:=low (part 45 s).1++45::(part 45 s).2.1
def lineO (s:List UInt8):Option (List UInt8):=if (part 45 s).2.2 then some (lineV s) else none
def txtsV (L:List (List UInt8)):List (List UInt8):=L.filterMap lineO
theorem txts_yes {L:List (List UInt8)} {s:List UInt8} (h:(part 45 s).2.2=true):txtsV (L++[s])=txtsV L++[lineV s]:=by
 unfold txtsV;rw [List.filterMap_append];simp [lineO,h]
theorem txts_no {L:List (List UInt8)} {s:List UInt8} (h:(part 45 s).2.2=false):txtsV (L++[s])=txtsV L:=by
 unfold txtsV;rw [List.filterMap_append];simp [lineO,h]
theorem txts_len (L:List (List UInt8)):(txtsV L).length<=L.length:=List.length_filterMap_le _ _
def LsI (w wr:World) (X:List (List UInt8)):Prop:=
 ∃ a c,wr.heap[w.heap.size]? = some (.cells #[.slice a X.length c] 22 (0,0))/\wr.ownsRow (w.heap.size+1) 9 1 (.slice a X.length c) X.length (cellsS X)/\Below w.heap.size w wr
theorem slices_Sort_none11 (p:Option Addr) (cap:Nat) (w:World):
 Calls Tryz.prog 137 #[.slice p 0 cap] w fun e w'=>e = .returned (.tuple #[])/\w'=w:=Any.slices_Sort_string_none Tryz.lays190 p cap w
theorem enc_cells (X:List (List UInt8)):X.map encStr=cellsS X:=rfl
def srtT (X:List (List UInt8)):List (List UInt8):=X.mergeSort fun x y=>decide (x<=y)
def LsPost (L:List (List UInt8)) (w:World) (e:Ending) (w':World):Prop:=
 ∃ p sv,e = .returned (.func (.func 138) #[] #[.pointer (some ⟨p,0,none⟩)])/\w'.cell? ⟨p,0,none⟩=some sv/\PathAt w' sv (srtT (txtsV L))/\Below w.heap.size w w'
theorem listed_loop (v:Value) (L:List (List UInt8)) (w:World) (hg:Gd w) (hv:TxAt w v L) (hl:L.length<=1000000) (hs: ∀ x ∈ L,x.length<=1000000):
 Calls Tryz.prog 99 #[v] w (LsPost L w):=by
 have hmf: ∀ (fn:Fn) (first cap:Array Value) (w:World),(Instr.makeFunc fn first cap).run Tryz.prog w = .ok (.func fn first cap) w:=fun _ _ _ _=>rfl
 obtain ⟨i0,hi,hz0,hz1,hz2⟩:=info_parts infoStr
 obtain ⟨a1,c1,rfl,hc1,hm1,hv1⟩:=hv.view
 have HV:=hid hv1;have HS':=hid hs;have HG:=hid hg;obtain ⟨n,hn⟩: ∃ n,n=L.length:=⟨_,rfl⟩
 have HN:=hid hn;rw [<- hn] at hc1 hl ⊢;clear hv hv1 hn hs hg;have HL0:Hid (LsI w (w.alloc (.cells #[.slice none 0 0] 22)) (txtsV (L.take 0))):=⟨none,0,heap_alloc_new w _,World.ownsRow_nil _ _ _ _,(Below.refl _ w).alloc (Nat.le_refl _) _⟩
 go_enter Tryz.func99,Tryz.ntmps99
 go_wp2_with fail
 go_loopw [11] (fun v11 wr=> ∃ k:Nat,k<=n/\v11 = .int .i64 k/\Hid (LsI w wr (txtsV (L.take k)))) (fun v11 _=>n - (intOf v11).toNat)
 case atStart=>exact ⟨0,Nat.zero_le _,rfl,HL0.out⟩
 case round=>
  obtain ⟨k,hk,rfl,HR⟩:=hrel
  by_cases hlt:k<n
  ·have hkL:k<L.length:=by have:=HN.out;omega
   obtain ⟨b1,o1,rfl,e1⟩:=HV.out k hkL
   obtain ⟨a2,c2,hrow,hown,hbw⟩:=HR.out
   obtain ⟨X,hX⟩: ∃ X:ByteArray,X=⟨L[k].toArray⟩:=⟨_,rfl⟩
   have hXl:X.data.toList=L[k]:=by rw [hX]
   have hXs:X.size<=1000000:=by rw [Lib.size_eq,hXl];exact HS'.out _ (List.getElem_mem hkL)
   rw [<- hX] at e1;have f1:=keptC e1 hbw;have hin:(k:Int)<(n:Int):=by omega
   have hpl:=part_le 45 X.data.toList;obtain ⟨A,hA⟩: ∃ A:ByteArray,A=⟨(part 45 X.data.toList).1.toArray⟩:=⟨_,rfl⟩
   obtain ⟨R,hR⟩: ∃ A:ByteArray,A=⟨(part 45 X.data.toList).2.1.toArray⟩:=⟨_,rfl⟩
   obtain ⟨ok,hok⟩: ∃ b,b=(part 45 X.data.toList).2.2:=⟨_,rfl⟩
   have hAl:A.data.toList=(part 45 X.data.toList).1:=by rw [hA]
   have hRl:R.data.toList=(part 45 X.data.toList).2.1:=by rw [hR]
   have hAs:A.size<=1000000:=by rw [hA];exact size_le hpl.1 hXs
   have hRs:R.size<=1000000:=by rw [hR];exact size_le hpl.2 hXs
   have HCut:Hid (∀ w:World,Gd w->Calls Tryz.prog 19 #[.string X,.string ⟨#[45]⟩] w fun e w'=>e = .returned (.tuple #[.string A,.string R,.bool ok])/\Below w.heap.size w w'):=fun w hg=>by
    have:=cut_any X ⟨#[45]⟩ w hg (by omega)
    rw [show (⟨#[45]⟩:ByteArray).data.toList=[45] from rfl,cut_part,<- hA,<- hR,<- hok] at this;exact this
   have htk:L.take (k+1)=L.take k++[X.data.toList]:=by rw [List.take_succ_eq_append_getElem hkL,hXl]
   have HYes:Hid (ok=true->txtsV (L.take (k+1))=txtsV (L.take k)++[low A.data.toList++45::R.data.toList]):=fun h=>by
    rw [htk,txts_yes (by rw [<- hok];exact h),lineV,<- hAl,<- hRl]
   have HNo:Hid (ok=false->txtsV (L.take (k+1))=txtsV (L.take k)):=fun h=>by
    rw [htk,txts_no (by rw [<- hok];exact h)]
   have HLo:=hid (fun w=>lower_any A w (by omega));obtain ⟨N,hNe⟩: ∃ N:ByteArray,N=⟨(low A.data.toList).toArray⟩:=⟨_,rfl⟩
   have hNl:N.data.toList=low A.data.toList:=by rw [hNe]
   have hNs:N.size<=1000000:=by rw [Lib.size_eq,hNl,low,List.length_map,<- Lib.size_eq];exact hAs
   rw [<- hNe] at HLo;obtain ⟨D1,hD1⟩: ∃ Z:ByteArray,N++(⟨#[45]⟩:ByteArray)=Z:=⟨_,rfl⟩
   have hD1l:D1.data.toList=low A.data.toList++[45]:=by rw [<- hD1,ByteArray.data_append,Array.toList_append,hNl]
   have hD1s:D1.size<=1000001:=by rw [Lib.size_eq,hD1l,List.length_append,<- hNl,<- Lib.size_eq];simp;omega
   obtain ⟨D2,hD2⟩: ∃ Z:ByteArray,D1++R=Z:=⟨_,rfl⟩
   have hD2l:D2.data.toList=low A.data.toList++45::R.data.toList:=by rw [<- hD2,ByteArray.data_append,Array.toList_append,hD1l];simp
   have HD2:=hid (show cellsS [low A.data.toList++45::R.data.toList]=[.string D2] by rw [<- hD2l];exact cellsS_one D2);have HRow:=hid hrow;have HOwn:=hid hown;have HBw:=hid hbw;have HLen:=hid (show (txtsV (L.take k)).length<=1000000 by have:=txts_len (L.take k);rw [List.length_take] at this;omega);obtain ⟨Q,hQ⟩: ∃ Q,Q=txtsV (L.take k):=⟨_,rfl⟩
   rw [<- hQ] at HRow HOwn HLen HYes HNo;obtain ⟨m,hm⟩: ∃ m,m=Q.length:=⟨_,rfl⟩
   rw [<- hm] at HRow HOwn HLen;have HM:=hid hm;clear hX hXl hA hR hok hAl hRl hpl hNe hNl hD1l hD2l htk hrow hown hbw e1 hQ hm HR
   go_wp2_with fail
   refine (HCut.out _ (HG.out.kept HBw.out)).mono ?_;rintro e w2 ⟨rfl,hb2⟩
   have HRow2:=hid (row_kept HRow.out hb2);have HOwn2:=hid (own_kept HOwn.out hb2);have HB2:=hid (below2 HBw.out hb2);clear hb2
   cases ok with
   | false=>
     have HRn:Hid (LsI w w2 (txtsV (L.take (k+1)))):=by
      have e:=HNo.out (by first | rfl | trivial)
      rw [e];refine ⟨a2,c2,?_,?_,HB2.out⟩
      ·rw [<- HM.out];exact HRow2.out
      ·rw [<- HM.out];exact HOwn2.out
     go_wp2_with fail
     go_roundw
     case rel=>
      first
       | exact ⟨k+1,by omega,by go_num,HRn.out⟩
       | ((repeat apply Exists.intro);refine ⟨?_,rfl⟩;exact ⟨k+1,by omega,by go_num,HRn.out⟩)
       | ((repeat apply Exists.intro);exact ⟨⟨k+1,by omega,by go_num,HRn.out⟩,rfl⟩)
     case measure=>simp [intOf];omega
   | true=>
     have HSK:=hid (fun (Y:World) (h:Below w2.heap.size w2 Y)=>(show Y.cell? ⟨w.heap.size,0,none⟩=some (.slice a2 m c2) by rw [Lib.cell_of_heap (row_kept HRow2.out h)];rfl));have HQ0:=hid ((Below.refl w2.heap.size w2).drew);have HS:=hid (HSK.out w2.drew HQ0.out)
     go_wp2_with fail
     refine AnyBut.start (n:=8) (S:=(fun wx:World=>wx.cell? ⟨w.heap.size,0,none⟩=some (.slice a2 m c2))) (by kernel_rfl) ?_
     refine' AnyBut.take (i:=0) (oi:=⟨some 22,_,_,_,_,_⟩) (v:=_) rfl (by kernel_rfl) (by kernel_rfl) (fun _ _ _ h=>h) _ _ _ _ (by kernel_rfl) (by kernel_rfl) (Or.inl ⟨by kernel_rfl,?hy0⟩) HS.out ?rest0
     case hy0=>(intro wx hSw;(try dsimp only at hSw);go_simp;first | done | with_reducible rfl | (rw [if_neg (by omega)]))
     (try simp only [Act.put,List.setIfInBounds_toArray,List.set_cons_zero,List.set_cons_succ])
     refine' AnyBut.take (i:=1) (oi:=⟨some 23,_,_,_,_,_⟩) (v:=_) rfl (by kernel_rfl) (by kernel_rfl) (fun _ _ _ h=>h) _ _ _ _ (by kernel_rfl) (by kernel_rfl) (Or.inl ⟨by kernel_rfl,?hy1⟩) HS.out ?rest1
     case hy1=>(intro wx hSw;(try dsimp only at hSw);go_simp;first | done | with_reducible rfl | (rw [if_neg (by omega)]))
     (try simp only [Act.put,List.setIfInBounds_toArray,List.set_cons_zero,List.set_cons_succ])
     refine' AnyBut.take (i:=4) (oi:=⟨some 26,_,_,_,_,_⟩) (v:=_) rfl (by kernel_rfl) (by kernel_rfl) (fun _ _ _ h=>h) _ _ _ _ (by kernel_rfl) (by kernel_rfl) (Or.inl ⟨by kernel_rfl,?hy4⟩) HS.out ?rest4
     case hy4=>(intro wx hSw;(try dsimp only at hSw);go_simp;first | done | with_reducible rfl | (rw [if_neg (by omega)]))
     (try simp only [Act.put,List.setIfInBounds_toArray,List.set_cons_zero,List.set_cons_succ])
     refine AnyBut.one (i:=2) (by kernel_rfl) rfl (fun K' hK=> ?_)
     rw [if_pos (by kernel_rfl)]
     go_simp
     go_wp2_with (go_at_call 37;refine (HLo.out _).mono ?_;rintro e wa ⟨rfl,hba⟩)
     have HQ1:=hid (below2 HQ0.out hba);clear HS;have HS:=hid (HSK.out wa HQ1.out);clear hba;refine hK.out _ _ HS.out ?_;clear hK K'
     refine' AnyBut.take (i:=3) (oi:=⟨some 25,_,_,_,_,_⟩) (v:=_) rfl (by kernel_rfl) (by kernel_rfl) (fun _ _ _ h=>h) _ _ _ _ (by kernel_rfl) (by kernel_rfl) (Or.inl ⟨by kernel_rfl,?hy3⟩) HS.out ?rest3
     case hy3=>(intro wx hSw;(try dsimp only at hSw);go_simp;first | done | with_reducible rfl | (rw [if_neg (by omega)]))
     (try simp only [Act.put,List.setIfInBounds_toArray,List.set_cons_zero,List.set_cons_succ])
     refine' AnyBut.take (i:=5) (oi:=⟨some 27,_,_,_,_,_⟩) (v:=_) rfl (by kernel_rfl) (by kernel_rfl) (fun _ _ _ h=>h) _ _ _ _ (by kernel_rfl) (by kernel_rfl) (Or.inl ⟨by kernel_rfl,?hy5⟩) HS.out ?rest5
     case hy5=>(intro wx hSw;(try dsimp only at hSw);go_simp;first | done | with_reducible rfl | (rw [if_neg (by omega)]))
     (try simp only [Act.put,List.setIfInBounds_toArray,List.set_cons_zero,List.set_cons_succ])
     refine AnyBut.one (i:=6) (by kernel_rfl) rfl (fun K' hK=> ?_)
     rw [if_pos (by kernel_rfl)]
     go_simp
     have HQ2:=hid (below2 HQ1.out ((Below.refl _ wa).alloc (Nat.le_refl _) (.cells #[.string D2] 9)));clear HS;have HS:=hid (HSK.out _ HQ2.out);refine hK.out _ _ HS.out ?_;clear hK K';have HB3:=hid (below2 HB2.out HQ2.out);have HOw3:=hid (own_kept HOwn2.out HQ2.out);have HSz:=hid (show w.heap.size+1<=(wa.alloc (.cells #[.string D2] 9)).heap.size by
      have h1:=(Array.getElem?_eq_some_iff.1 (row_kept HRow2.out HQ2.out)).1
      omega)
     have HRow3:=hid (row_kept HRow2.out HQ2.out);refine AnyBut.one (i:=7) (by kernel_rfl) rfl (fun K' hK=> ?_)
     refine step_append_own0 rfl (.tmp 22) (.tmp 28) 22 rfl (w.heap.size+1) 9 i0 _ 1 16 Tryz.underlying22 hi hz0 hz1 hz2 rfl (by decide) (.slice a2 m c2) m (cellsS Q) rfl HOw3.out ⟨wa.heap.size,0,none⟩ 1 1 [.string D2] rfl rfl ?c1 ?c2 (by have:=HLen.out;unfold maxLen;omega) (by have:=HLen.out;omega) HSz.out ?_
     case c1=>
      intro q u hq
      match q,hq with
      | 0,hq=>simp at hq;subst hq;simp [Addr.add]
     case c2=>intro u hu;simp at hu;rw [hu];rfl
     intro v4 w4 hown4 hgrow4 hnil4;obtain ⟨g4,c4,rfl,hc4,hm4⟩:=own_nonnil (L:=Q++[D2.data.toList]) (n:=m) (by rw [cellsS_app,cellsS_one];exact hown4)
     have hblk:w4.heap[w.heap.size]? = some (.cells #[.slice a2 m c2] 22 (0,0)):=by
      have h1:=(Array.getElem?_eq_some_iff.1 HRow3.out).1;rw [hgrow4.block _ h1 (fun e=>by have:=(HOw3.out.lt w.heap.size e.symm).1;omega)];exact HRow3.out
     have HC4:=hid (show w4.cell? ⟨w.heap.size,0,none⟩=some (.slice a2 m c2) by rw [Lib.cell_of_heap hblk];rfl);have HF4:=hid (show w4.frozen? ⟨w.heap.size,0,none⟩=false by simp [World.frozen?,hblk]);have HB4:=hid (show Below w.heap.size w w4 from HB3.out.grown hgrow4 (by have:=HSz.out;omega) (fun k hk=>by have:=(HOw3.out.lt k hk).1;omega));have HRn:Hid (LsI w (w4.setCell ⟨w.heap.size,0,none⟩ (.slice (some ⟨g4,0,none⟩) (m+1) c4)) (txtsV (L.take (k+1)))):=by
      have e:=HYes.out (by first | rfl | trivial)
      have hlen:(Q++[low A.data.toList++45::R.data.toList]).length=m+1:=by rw [List.length_append,<- HM.out];rfl
      rw [e];refine ⟨some ⟨g4,0,none⟩,c4,?_,?_,HB4.out.setCell (p:=⟨w.heap.size,0,none⟩) (Nat.le_refl _) _⟩
      ·rw [hlen];exact Lib.heap_setCell_same hblk (i:=0) _
      ·rw [hlen,cellsS_app,HD2.out]
       refine ownsRow_same hown4 fun g hg=> ?_
       have:=(hown4.lt g hg).1;exact heap_setCell_other _ _ _ _ (fun e=>by have e2:g=w.heap.size:=e;omega)
     clear hown4 hgrow4 hnil4 hblk;refine hK.out _ _ HC4.out ?_;clear hK K';have d0:=HC4.out;have z0:=HF4.out;refine AnyBut.last (by kernel_rfl) (by kernel_rfl) rfl (fun K' hK=> ?_)
     rw [if_pos (by kernel_rfl)]
     go_simp
     go_wp2_with fail
     refine hK.out _ _ ?_;clear hK K'
     go_wp2_with fail
     go_roundw
     case rel=>
      first
       | exact ⟨k+1,by omega,by go_num,HRn.out⟩
       | ((repeat apply Exists.intro);refine ⟨?_,rfl⟩;exact ⟨k+1,by omega,by go_num,HRn.out⟩)
       | ((repeat apply Exists.intro);exact ⟨⟨k+1,by omega,by go_num,HRn.out⟩,rfl⟩)
     case measure=>simp [intOf];omega
  ·obtain rfl:k=n:=by omega
   obtain ⟨a2,c2,hrow,hown,hbw⟩:=HR.out
   rw [List.take_of_length_le (by have:=HN.out;omega)] at hrow hown;obtain ⟨X,hX⟩: ∃ X,X=txtsV L:=⟨_,rfl⟩
   rw [<- hX] at hrow hown;have HX:=hid hX;have hXl:X.length<=1000000:=by rw [hX];have:=txts_len L;have:=HN.out;omega
   have d0:wr.cell? ⟨w.heap.size,0,none⟩=some (.slice a2 X.length c2):=by rw [Lib.cell_of_heap hrow];rfl
   have HRow:=hid hrow;have HOwn:=hid hown;have HBw:=hid hbw;have HD0:=hid d0;by_cases h0:X.length=0
   ·have hXn:X=[]:=List.eq_nil_of_length_eq_zero h0
    rw [h0] at d0;have HP:=hid (show PathAt wr (.slice a2 X.length c2) (srtT X) by
     rw [hXn,show srtT []=[] by unfold srtT;simp]
     have:=own_path hown;rw [hXn] at this;exact this)
    clear hX hrow hown hbw HR hlt
    go_wp2_with (go_at_call 137;refine (slices_Sort_none11 _ _ _).mono ?_;rintro e wz ⟨rfl,hwz⟩;rw [hwz];clear hwz)
    go_ret
    exact ⟨w.heap.size,.slice a2 X.length c2,rfl,HD0.out,by rw [<- HX.out];exact HP.out,HBw.out⟩
   ·rcases hown.2 with ⟨_,hn0⟩ | ⟨g,cap,cur,hv,hbase,hb,h1,h2,h3,h4⟩
    ·exact absurd hn0 h0
    ·injection hv with e1 e2 e3
     subst e1;subst e3;have HSo:=hid (Tryz.slices_Sort_string g 0 c2 X wr (holds_of_block hb (by simpa [enc_cells] using h4)) (Array.getElem?_eq_some_iff.1 hb).1 (by omega));have hsl:(srtT X).length=X.length:=by unfold srtT;exact List.length_mergeSort ..
     have HAft:Hid (∀ nn os,PathAt (Sort.grow (Sort.putRow encStr (Sort.ahead wr nn) g 0 (srtT X).toArray) os) (.slice (some ⟨g,0,none⟩) X.length c2) (srtT X)/\(Sort.grow (Sort.putRow encStr (Sort.ahead wr nn) g 0 (srtT X).toArray) os).cell? ⟨w.heap.size,0,none⟩=some (.slice (some ⟨g,0,none⟩) X.length c2)/\Below w.heap.size w (Sort.grow (Sort.putRow encStr (Sort.ahead wr nn) g 0 (srtT X).toArray) os)):=fun nn os=>by
      have o1:=ownsRow_sorted (w:=wr) (n:=nn) (os:=os) (ts:=srtT X) (ss:=X) hsl hbase hb h1 h2 (by simpa using h3)
      have g1:=grownBy_sorted (w:=wr) (g:=g) (n:=nn) (os:=os) (srtT X).toArray;refine ⟨?_,?_,?_⟩
      ·rw [<- hsl] at o1 ⊢
       exact own_path o1
      ·have h5:=(Array.getElem?_eq_some_iff.1 HRow.out).1
       have h6:(Sort.grow (Sort.putRow encStr (Sort.ahead wr nn) g 0 (srtT X).toArray) os).heap[w.heap.size]? = wr.heap[w.heap.size]? :=g1.block _ h5 (fun e=>by injection e with e;omega);rw [Lib.cell_of_heap (h6.trans HRow.out)];rfl
      ·exact HBw.out.grown g1 HBw.out.size (fun k hk=>by injection hk with hk;omega)
     clear hX hrow hown hbw HR hlt hb h1 h2 h3 h4 hbase
     go_wp2_with (go_at_call 137;refine HSo.out.mono ?_;rintro e wz ⟨rfl,nn,os,hwz⟩;have HW:=hid hwz;clear hwz)
     go_ret
     obtain ⟨q1,q2,q3⟩:=HAft.out nn os
     have hw:=HW.out;refine ⟨w.heap.size,.slice (some ⟨g,0,none⟩) X.length c2,rfl,?_,?_,?_⟩
     ·rw [hw];exact q2
     ·rw [hw,<- HX.out];exact q1
     ·rw [hw];exact q3
def bs_ren:Go.Shelf.Ren:=⟨fun | 26=>139 | 33=>174 | 34=>175 | 38=>216 | n=>n,fun | 0=>0 | 3=>3 | 4=>4 | 9=>9 | 24=>22 | 40=>120 | n=>n,fun | n=>n⟩
theorem bs_lays:Go.Proofs.Lays2.n26 Tryz.prog bs_ren:={
 mixed:=by kernel_rfl
 f26:=Tryz.func139.trans (congrArg some (by kernel_rfl))
 f33:=Tryz.func174.trans (congrArg some (by kernel_rfl))
 f34:=Tryz.func175.trans (congrArg some (by kernel_rfl))
 f38:=Tryz.func216.trans (congrArg some (by kernel_rfl))
 t0:=Tryz.underlying0
 a0:=Tryz.isAgg0
 z0:=Tryz.sizeOf0
 v0:=Tryz.zeroValue0
 t3:=Tryz.underlying3
 a3:=Tryz.isAgg3
 z3:=Tryz.sizeOf3
 v3:=Tryz.zeroValue3
 t4:=Tryz.underlying4
 a4:=Tryz.isAgg4
 z4:=Tryz.sizeOf4
 v4:=Tryz.zeroValue4
 t9:=Tryz.underlying9
 a9:=Tryz.isAgg9
 z9:=Tryz.sizeOf9
 v9:=Tryz.zeroValue9
 t24:=Tryz.underlying22
 a24:=Tryz.isAgg22
 z24:=Tryz.sizeOf22
 v24:=Tryz.zeroValue22
 t40:=Tryz.underlying120
 a40:=Tryz.isAgg120
 z40:=Tryz.sizeOf120
 v40:=Tryz.zeroValue120 }
theorem srt_mem (X:List (List UInt8)) (t:List UInt8):t ∈ srtT X ↔ t ∈ X:=by unfold srtT;exact List.mem_mergeSort
theorem srt_pair (X:List (List UInt8)):(srtT X).Pairwise (fun a b=>a<=b):=by
 have h:=List.pairwise_mergeSort (le:=fun x y:List UInt8=>decide (x<=y)) (fun a b c h1 h2=>by
  simp only [decide_eq_true_eq] at *
  exact List.le_trans h1 h2) (fun a b=>by
  simp only [Bool.or_eq_true,decide_eq_true_eq]
  exact List.le_total a b) X
 exact h.imp (fun h=>by simpa using h)
theorem bs_found (S:List (List UInt8)) (t:ByteArray) (hp:S.Pairwise (fun a b=>a<=b)) (Sx:Nat->ByteArray) (h1: ∀ j (h:j<S.length),Sx j=⟨S[j].toArray⟩) (h2: ∀ j,S.length<=j->Sx j=t):
 decide (Lib.bsGo (fun j=>Op.bytesLess (Sx j).toList t.toList) S.length 0 S.length<S.length/\Sx (Lib.bsGo (fun j=>Op.bytesLess (Sx j).toList t.toList) S.length 0 S.length)=t)=S.contains t.data.toList:=by
 have hls: ∀ j,Op.bytesLess (Sx j).toList t.toList=decide ((Sx j).data.toList<t.data.toList):=fun j=>by rw [bytesLess_eq,Lib.toList_data,Lib.toList_data]
 obtain ⟨k,hk1,hk2,hk3⟩: ∃ k,k<=S.length/\(∀ j,j<k->(Sx j).data.toList<t.data.toList) /\ ∀ j,k<=j -> ¬ (Sx j).data.toList<t.data.toList:=by
  have key: ∀ n,n<=S.length->(∃ k,k<=n/\(∀ j,j<k->(Sx j).data.toList<t.data.toList) /\ ∀ j,k<=j->j<n -> ¬ (Sx j).data.toList<t.data.toList):=by
   intro n
   induction n with
   | zero=>intro _;exact ⟨0,Nat.le_refl _,fun j h=>absurd h (Nat.not_lt_zero _),fun j _ h=>absurd h (Nat.not_lt_zero _)⟩
   | succ n ih=>
     intro hn;obtain ⟨k,h3,h4,h5⟩:=ih (by omega)
     by_cases hlt:(Sx n).data.toList<t.data.toList
     ·refine ⟨n+1,Nat.le_refl _,fun j hj=> ?_,fun j h6 h7=>by omega⟩
      by_cases hjn:j=n
      ·rw [hjn];exact hlt
      ·have hle:S[j]'(by omega)<=S[n]'(by omega):=List.pairwise_iff_getElem.1 hp j n (by omega) (by omega) (by omega)
       rw [h1 n (by omega)] at hlt;rw [h1 j (by omega)];exact List.lt_of_le_of_lt hle hlt
     ·refine ⟨k,by omega,h4,fun j h6 h7=> ?_⟩
      by_cases hjn:j=n
      ·rw [hjn];exact hlt
      ·exact h5 j h6 (by omega)
  obtain ⟨k,h3,h4,h5⟩:=key S.length (Nat.le_refl _)
  refine ⟨k,h3,h4,fun j hj=> ?_⟩
  by_cases h6:j<S.length
  ·exact h5 j hj h6
  ·rw [h2 j (by omega)];exact List.lt_irrefl _
 have hbs:Lib.bsGo (fun j=>Op.bytesLess (Sx j).toList t.toList) S.length 0 S.length=k:=by
  refine Lib.bsGo_spec _ k (fun j hj=> ?_) (fun j hj=> ?_) _ _ _ (by omega) (by omega) hk1
  ·rw [hls];exact decide_eq_true (hk2 j hj)
  ·rw [hls];exact decide_eq_false (hk3 j hj)
 rw [hbs];rw [Bool.eq_iff_iff];simp only [decide_eq_true_eq,List.contains_iff_mem]
 constructor
 ·rintro ⟨h3,h4⟩
  rw [h1 k h3] at h4;rw [<- h4];exact List.getElem_mem h3
 ·intro hm
  obtain ⟨j,hj,e⟩:=List.getElem_of_mem hm
  have hkj:k<=j:=by
   rcases Nat.lt_or_ge j k with h | h
   ·have:=hk2 j h
    rw [h1 j hj] at this;have e2:(⟨S[j].toArray⟩:ByteArray).data.toList=S[j]:=rfl;rw [e2,e] at this
    exact absurd this (List.lt_irrefl _)
   ·exact h
  have hkl:k<S.length:=by omega
  refine ⟨hkl,?_⟩
  have h5: ¬ S[k]<t.data.toList:=by have:=hk3 k (Nat.le_refl _);rw [h1 k hkl] at this;exact this
  have h6:S[k]<=t.data.toList:=by
   by_cases hjk:k=j
   ·subst hjk;rw [e];exact List.le_refl _
   ·have:=List.pairwise_iff_getElem.1 hp k j hkl hj (by omega)
    rw [e] at this;exact this
  have h7:S[k]=t.data.toList:=List.le_antisymm h6 (List.not_lt.1 h5);rw [h1 k hkl,h7]
theorem search_any (v:Value) (X:List (List UInt8)) (t:ByteArray) (w:World) (hv:PathAt w v (srtT X)) (hl:X.length<=1000000):
 Calls Tryz.prog 139 #[v,.string t] w fun e w'=> ∃ i:Int,e = .returned (.tuple #[.int .i64 i,.bool (X.contains t.data.toList)])/\Below w.heap.size w w':=by
 have hc:(srtT X).contains t.data.toList=X.contains t.data.toList:=by
  rw [Bool.eq_iff_iff];simp only [List.contains_iff_mem];exact srt_mem X _
 have hlen:(srtT X).length=X.length:=by unfold srtT;exact List.length_mergeSort ..
 rcases hv with ⟨rfl,hn⟩ | ⟨b,cap,rfl,_,_,_,h5⟩
 ·refine (Any2.slices_BinarySearch_string_empty bs_lays none 0 t w).mono ?_
  rintro e w' ⟨rfl,rfl⟩
  refine ⟨0,?_,Below.refl _ _⟩
  rw [<- hc,hn];rfl
 ·refine (Any2.slices_BinarySearch_string bs_lays b 0 (srtT X).length cap (fun j=>if h:j<(srtT X).length then ⟨(srtT X)[j].toArray⟩ else t) t w (by omega) (fun j hj=>by
   simp only [hj,dif_pos]
   rw [Nat.zero_add];exact h5 j hj)).mono ?_
  rintro e w' ⟨rfl,q,rfl⟩
  have hf:=bs_found (srtT X) t (srt_pair X) (fun j=>if h:j<(srtT X).length then ⟨(srtT X)[j].toArray⟩ else t) (fun j h=>by simp only [h,dif_pos]) (fun j h=>by rw [dif_neg (by omega)]);rw [<- hc,<- hf];exact ⟨_,rfl,Go.below_drewN (Below.refl _ _) _⟩
theorem enters_lst: ∀ args w,(callFunc 138 args).run Tryz.prog w = .ok (.enter 138 args) w:=enters_of Tryz.func138 (by kernel_rfl) rfl
theorem lst1_any (p:Nat) (sv:Value) (X:List (List UInt8)) (t:ByteArray) (w:World) (hc:w.cell? ⟨p,0,none⟩=some sv) (hv:PathAt w sv (srtT X)) (hl:X.length<=1000000):
 Calls Tryz.prog 138 #[.string t,.pointer (some ⟨p,0,none⟩)] w fun e w'=>e = .returned (.bool (X.contains t.data.toList))/\Below w.heap.size w w':=by
 have HS:=hid (search_any sv X t w hv hl);obtain ⟨q,hq⟩: ∃ q,X.contains t.data.toList=q:=⟨_,rfl⟩
 rw [hq] at HS;rw [hq];clear hq;obtain ⟨a,n,c,rfl⟩: ∃ a n c,sv = .slice a n c:=by
  rcases hv with ⟨rfl,_⟩ | ⟨b,cap,rfl,_⟩
  ·exact ⟨_,_,_,rfl⟩
  ·exact ⟨_,_,_,rfl⟩
 clear hv
 go_enter Tryz.func138,Tryz.ntmps138
 go_wp2_with fail
 refine HS.out.mono ?_;rintro e w1 ⟨i,rfl,hb1⟩
 go_wp2
 go_ret
 exact ⟨rfl,hb1⟩
theorem listed_any (v:Value) (L:List (List UInt8)) (w:World) (hg:Gd w) (hv:TxAt w v L) (hl:L.length<=1000000) (hs: ∀ x ∈ L,x.length<=1000000):
 Calls Tryz.prog 99 #[v] w (MkPost11 (fun s=>(txtsV L).contains s) w):=by
 refine (listed_loop v L w hg hv hl hs).mono ?_;rintro e w' ⟨p,sv,rfl,hc,hp,hb⟩
 have hlt:(txtsV L).length<=1000000:=by have:=txts_len L;omega
 exact ⟨_,rfl,⟨_,_,rfl,enters_lst,fun X s hX _=>lst1_any p sv (txtsV L) s X (keptC hc hX) (hp.kept hX) hlt⟩,hb⟩
end Go.Proofs.YtijpkalkfbejeaaGreatDoor
