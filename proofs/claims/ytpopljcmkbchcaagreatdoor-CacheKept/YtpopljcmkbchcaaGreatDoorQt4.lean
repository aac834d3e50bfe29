/-
  Walks and plain facts that this claim leans on, put together out of 14 texts: Xv, Xx, Za, Zc, Zf, Zh, Zj, Ba, Bb, Bd, Be, Bf, Bg, Bi.
-/
import Derived.Test.YtpopljcmkbchcaaGreatDoorProg
import Derived.Test.YtpopljcmkbchcaaGreatDoorQt1
import Derived.Test.YtpopljcmkbchcaaGreatDoorQt2
import Derived.Test.YtpopljcmkbchcaaGreatDoorQt3
import Derived.WalkKit
import Derived.Lib.Strings
import Derived.Lib.UnsafeStr
import Derived.Laws.IdiomStrings
import Derived.Laws.AppendOwn
import Derived.Laws.BitsAllLaws
import Derived.Lib.Bytealg
import Derived.Lib.BufferMore
import Derived.Shelf.Strings.Builder1
import Derived.Shelf.Strings.Builder2
import Derived.Shelf.Strings.OnBuilder
import Derived.Shelf.Strings.Trim
import Derived.Shelf.Small.Utf8
import Derived.Shelf.Small.Bits
import Derived.Shelf.Small.Strs
import Derived.Shelf.Small.Wraps
import Derived.Shelf.Strings.BuilderF
import Derived.Shelf.Strings.BuilderK
import Derived.Shelf.Strings.BuilderRune
import Derived.Shelf.Utf8.AppendRune
import Derived.Shelf.Utf8.AppendRunePlain
import Derived.Shelf.Strings.Builder2Cap
import Derived.Shelf.Strconv.Itoa0
import Derived.Shelf.Strconv.Itoa1
import Derived.Shelf.LaysM
import Derived.Shelf.Strconv.Itoa2
import Derived.Shelf.Strconv.Itoa3
import Derived.Shelf.Strings.Search1
import Derived.Shelf.Strings.Search2
import Derived.Shelf.Strings.Cut
import Derived.Shelf.Strings.Shaped
import Derived.Shelf.Sort.Plain
import Derived.Shelf.Strings.Prefix
import Derived.Shelf.Unicode.Latin
import Derived.Shelf.Strings.Runes
import Derived.Shelf.Strings.IndexAny
import Derived.Shelf.Strings.AsciiSet
import Derived.Shelf.Strings.IndexAnyAll
import Derived.Shelf.Unicode.DecodeSlow
import Derived.Shelf.Unicode.DecodeAny
import Derived.Shelf.Unicode.DecodeLast
import Derived.Shelf.Unicode.CaseLookup
import Derived.Shelf.Unicode.CaseConvert
import Derived.Shelf.Unicode.CaseTo
import Derived.Shelf.Unicode.CaseLaid
import Derived.Shelf.Slices.CompactS
import Derived.Shelf.Slices.In.SortNone
import Derived.WalkSpells
import Derived.WalkLawsBesides
import Derived.Lib.SlTrimSet
import Derived.Lib.Join
import Derived.Lib.IndexMore
import Derived.Laws.OwnMore
import Derived.Below
import Derived.WalkSmall
import Derived.Lib.SmallJoins
import Derived.Deep.QuietTactic
import Derived.BigQuiet
import Derived.Deep.LoopGhost
import Derived.Deep.MidRow
import Derived.Shelf.Strings.SlTrimAscii
import Derived.Deep.CutRange
import Derived.Laws.Rows
import Derived.Laws.CopyOwn
import Derived.Laws.MakeOwn
import Derived.Laws.RangeAny
import Derived.Lib.DecodeN
import Derived.Lib.OthersKept
import Derived.RegionTactic
import Derived.Deep.RegionWith
import Derived.Laws.Runes
import Derived.Deep.WholeRow
import Derived.Deep.RegionLaw
import Derived.Deep.RegionHeldLaw
import Derived.LoopN
import Derived.Laws.AppendOwnNone
import Derived.BigRegion
import Derived.Deep.RegionHeld
set_option linter.unusedSimpArgs false
set_option linter.unusedVariables false

namespace Go.Proofs.YtpopljcmkbchcaaGreatDoor
open Go.RowKit

def dropV (L:List Hd) (n:List UInt8):List Hd:=L.filter fun h=> !isN n h

theorem dropV_snoc (L:List Hd) (h:Hd) (n:List UInt8):dropV (L++[h]) n=dropV L n++(if isN n h then [] else [h]):=by
 unfold dropV;rw [List.filter_append];by_cases hh:isN n h=true<;>simp [hh]

theorem dropV_len (L:List Hd) (n:List UInt8):(dropV L n).length≤L.length:=List.length_filter_le _ _

theorem hd_eta (h:Hd) (a b:ByteArray) (ha:a=⟨h.name.toArray⟩) (hb:b=⟨h.value.toArray⟩):[Value.string a,.string b]=cellsH [h]:=by rw [ha,hb];rfl

def NonNil (v:Value):Prop:=v ≠ .slice none 0 0

def HdPost2 (L:List Hd) (w:World) (e:Ending) (w':World):Prop:= ∃ v,e = .returned v∧w'.ownsRow w.heap.size 45 2 v L.length (cellsH L)∧Below w.heap.size w w'∧NonNil v

theorem NonNil.form {w:World} {B n:Nat} {e:TypeId} {k:Nat} {v:Value} {xs:List Value} (h:NonNil v) (ho:w.ownsRow B e k v n xs): ∃ g cap,v = .slice (some ⟨g,0,none⟩) n cap∧n≤cap∧cap≤maxLen:=by
 rcases ho.2 with ⟨hv,_⟩ | ⟨g,cap,cur,rfl,_,_,h1,h2,_⟩
 ·exact absurd hv h
 ·exact ⟨g,cap,rfl,h1,h2⟩

set_option maxHeartbeats 2000000 in
set_option maxRecDepth 100000 in
theorem drop_any (v:Value) (L:List Hd) (n:ByteArray) (w:World) (h:HdAt w v L) (hs:n.size≤140737488351232) (hz:Szd 140737488351232 L) (hl:L.length≤1000000):
 Calls Tryz.prog 123 #[v,.string n] w (HdPost2 (dropV L n.data.toList) w):=by
 obtain ⟨a1,c1,rfl,hc1,hm1,hv1⟩:=h.view
 have V1:=hid hv1;clear h hv1;obtain ⟨i0,hi,hz0,hz1,hz2⟩:=info3 infoHd
 have HZ:=hid hz;clear hz;obtain ⟨N,hN⟩: ∃ N:ByteArray,N=⟨(low n.data.toList).toArray⟩:=⟨_,rfl⟩
 have HN:=hid (show N.data.toList=low n.data.toList by rw [hN]);have HNe:=hid hN;clear hN
 go_enter Tryz.func123,Tryz.ntmps123
 go_wp2_with fail
 refine (lower_any n _ hs).mono ?_;rintro e w0 ⟨rfl,hb0⟩
 rw [← HNe.out];obtain ⟨w1,hmk,hown1,hgr1⟩:=run_make_own (P:=Tryz.prog) w0 w0.heap.size 27 45 i0 _ 2 Tryz.underlying27 hi hz0 hz1 .i64 .i64 L.length (by rw [hz2];omega) (by unfold maxLen;omega) (Nat.le_refl _)
 have hb1:Below w.heap.size w w1:=hb0.grown hgr1 hb0.size (fun g hg=>by cases hg);have hown1':w1.ownsRow w.heap.size 45 2 (.slice (some ⟨w0.heap.size,0,none⟩) 0 L.length) 0 []:=by
  rcases hown1.2 with ⟨h1,h2⟩ | ⟨g,cap,cur,e1,e2,e3⟩
  ·cases h1
  ·exact ⟨hown1.1,.inr ⟨g,cap,cur,e1,Nat.le_trans hb0.size e2,e3⟩⟩
 have HO1:=hid hown1';have HB1:=hid hb1;clear hown1 hown1' hgr1 hb1 hb0
 go_wp2
 go_loopw [5,7,15] (fun vv x i wr=> ∃ k:Nat,k≤L.length∧i = .int .i64 k∧wr.ownsRow w.heap.size 45 2 vv (dropV (L.take k) n.data.toList).length (cellsH (dropV (L.take k) n.data.toList))∧Below w.heap.size w wr∧NonNil vv)
  (fun _ _ i _=>L.length - (intOf i).toNat)
 case atStart=>exact ⟨0,Nat.zero_le _,rfl,HO1.out,HB1.out,fun h=>by cases h⟩
 case round=>
  obtain ⟨k,hk,rfl,hown,hbw,hnn⟩:=hrel
  have HO:=hid hown;have HNN:=hid hnn;clear hnn;have hwr:=hbw.size;clear hown;by_cases hlt:k<L.length
  ·have hlt':(k:Int)<(L.length:Int):=by omega
   obtain ⟨b1,o1,rfl,e1,e2⟩:=V1.out k hlt
   have f1:wr.cell? ⟨b1,o1+k*2,none⟩=some (.string ⟨L[k].name.toArray⟩):=(hbw.cell (World.block_lt_of_cell? w _ e1)).trans e1
   have f2:wr.cell? ⟨b1,o1+k*2+1,none⟩=some (.string ⟨L[k].value.toArray⟩):=(hbw.cell (World.block_lt_of_cell? w _ e2)).trans e2
   clear e1 e2;obtain ⟨nm,hnm⟩: ∃ x:ByteArray,x=⟨L[k].name.toArray⟩:=⟨_,rfl⟩
   obtain ⟨vl,hvl⟩: ∃ x:ByteArray,x=⟨L[k].value.toArray⟩:=⟨_,rfl⟩
   rw [← hnm] at f1;rw [← hvl] at f2;have hsz:nm.size≤140737488351232:=by rw [hnm,xsize];exact (HZ.out _ (List.getElem_mem hlt)).1
   have HV:=hid hvl;have HM:=hid hnm;clear hnm hvl;have HT:=hid (show L.take (k+1)=L.take k++[L[k]] by rw [List.take_add_one,List.getElem?_eq_getElem hlt];rfl);obtain ⟨M,hM⟩: ∃ x:ByteArray,x=⟨(low nm.data.toList).toArray⟩:=⟨_,rfl⟩
   have HMe:=hid hM;clear hM
   go_wp2_with fail
   refine (lower_any nm _ hsz).mono ?_;rintro e w1 ⟨rfl,hb1⟩
   rw [← HMe.out];have hbw1:=(hbw.alloc hwr (.cells #[.string nm,.string vl] 45)).trans (hb1.mono (by simp;omega));have g1:w1.cell? ⟨wr.heap.size,0,none⟩=some (.string nm):=(hb1.cell (p:=⟨wr.heap.size,0,none⟩) (by simp)).trans (by simp [go_sem])
   have g2:w1.cell? ⟨wr.heap.size,1,none⟩=some (.string vl):=(hb1.cell (p:=⟨wr.heap.size,1,none⟩) (by simp)).trans (by simp [go_sem])
   have HO1:=hid (own_same (HO.out.alloc (.cells #[.string nm,.string vl] 45)) hb1);have hw1:=hbw1.size;have hdl:=dropV_len (L.take k) n.data.toList;rw [List.length_take] at hdl;by_cases hmn:M=N
   ·subst hmn
    have HS:=hid (show dropV (L.take (k+1)) n.data.toList=dropV (L.take k) n.data.toList by
     rw [HT.out,dropV_snoc,if_pos,List.append_nil]
     rw [isN,beq_iff_eq,← HN.out,HMe.out,HM.out])
    go_wp2
    go_roundw
    case rel=>
     refine ⟨k+1,by omega,by go_num,?_,hbw1,HNN.out⟩;rw [HS.out];exact HO1.out
    case measure=>simp [intOf];omega
   ·have hne:=strNe hmn
    have HS:=hid (show dropV (L.take (k+1)) n.data.toList=dropV (L.take k) n.data.toList++[L[k]] by
     rw [HT.out,dropV_snoc,if_neg]
     rw [isN,beq_iff_eq,← HN.out]
     intro e;exact hmn (xba (by rw [← e,HMe.out,HM.out])))
    clear hmn
    go_wp2_with (at_builtin;go_must (refine wpList_append_own _ rfl _ _ 27 rfl w.heap.size 45 i0 _ 2 32 Tryz.underlying27 hi hz0 hz1 hz2 rfl (by decide) _ _ _ rfl (HO1.out.alloc _) ⟨w1.heap.size,0,none⟩ 1 1 [.string nm,.string vl] rfl rfl ?c1 ?c2 ?c3 ?c4 ?c5 ?_))
    case c1=>
     intro q u hq
     match q,hq with
     | 0,hq=>simp at hq;subst hq;simp [Addr.add]
     | 1,hq=>simp at hq;subst hq;simp [Addr.add]
    case c2=>intro u hu;simp at hu;rcases hu with rfl | rfl<;>rfl
    case c3=>unfold maxLen;omega
    case c4=>omega
    case c5=>simp;omega
    intro v' w2 hown' hgrow hnil;have HO2:=hid hown';have HB2:=hid (show Below w.heap.size w w2 from (hbw1.alloc hw1 _).grown hgrow (by simp;omega) (fun g hg=>(HO1.out.lt g hg).1));have HNN2:=hid (show NonNil v' from hnil);clear hown' hgrow hnil
    go_wp2
    go_roundw
    case rel=>
     refine ⟨k+1,by omega,by go_num,?_,HB2.out,HNN2.out⟩;rw [HS.out,cellsH_app,List.length_append,← hd_eta L[k] nm vl HM.out HV.out]
     exact HO2.out
    case measure=>simp [intOf];omega
  ·have hke:k=L.length:=by omega
   subst hke;have HT:=hid (show dropV (L.take L.length) n.data.toList=dropV L n.data.toList by rw [List.take_length])
   go_wp2
   go_ret
   refine ⟨_,rfl,?_,hbw,HNN.out⟩
   rw [← HT.out];exact HO.out

def firstV (L:List Hd) (n:List UInt8):Option Nat:=L.findIdx? (isN n)

set_option maxHeartbeats 2000000 in
set_option maxRecDepth 100000 in
theorem first_any (v:Value) (L:List Hd) (n:ByteArray) (w:World) (h:HdAt w v L) (hs:n.size≤140737488351232) (hz:Szd 140737488351232 L) (hl:L.length≤1000000):
 Calls Tryz.prog 163 #[v,.string n] w fun e w'=>Below w.heap.size w w'∧((firstV L n.data.toList=none∧e = .returned (.int .i64 (-1))) ∨ ∃ k:Nat,firstV L n.data.toList=some k∧e = .returned (.int .i64 (k:Int))):=by
 obtain ⟨a1,c1,rfl,hc1,hm1,hv1⟩:=h.view
 have V1:=hid hv1;clear h hv1;have HZ:=hid hz;clear hz;obtain ⟨N,hN⟩: ∃ N:ByteArray,N=⟨(low n.data.toList).toArray⟩:=⟨_,rfl⟩
 have HN:=hid (show N.data.toList=low n.data.toList by rw [hN]);have HNe:=hid hN;clear hN
 go_enter Tryz.func163,Tryz.ntmps163
 go_wp2_with fail
 refine (lower_any n _ hs).mono ?_;rintro e w0 ⟨rfl,hb0⟩
 rw [← HNe.out]
 go_wp2
 go_loopw [5,6,11] (fun y x i wr=> ∃ k:Nat,k≤L.length∧i = .int .i64 k∧(∀ j (hj:j<L.length),j<k→isN n.data.toList L[j]=false)∧Below w.heap.size w wr)
  (fun _ _ i _=>L.length - (intOf i).toNat)
 case atStart=>exact ⟨0,Nat.zero_le _,rfl,fun j _ h=>absurd h (by omega),hb0⟩
 case round=>
  obtain ⟨k,hk,rfl,hno,hbw⟩:=hrel
  have HO:=hid hno;have hwr:=hbw.size;clear hno;by_cases hlt:k<L.length
  ·have hlt':(k:Int)<(L.length:Int):=by omega
   obtain ⟨b1,o1,rfl,e1,e2⟩:=V1.out k hlt
   have f1:wr.cell? ⟨b1,o1+k*2,none⟩=some (.string ⟨L[k].name.toArray⟩):=(hbw.cell (World.block_lt_of_cell? w _ e1)).trans e1
   have f2:wr.cell? ⟨b1,o1+k*2+1,none⟩=some (.string ⟨L[k].value.toArray⟩):=(hbw.cell (World.block_lt_of_cell? w _ e2)).trans e2
   clear e1 e2;obtain ⟨nm,hnm⟩: ∃ x:ByteArray,x=⟨L[k].name.toArray⟩:=⟨_,rfl⟩
   obtain ⟨vl,hvl⟩: ∃ x:ByteArray,x=⟨L[k].value.toArray⟩:=⟨_,rfl⟩
   rw [← hnm] at f1;rw [← hvl] at f2;have hsz:nm.size≤140737488351232:=by rw [hnm,xsize];exact (HZ.out _ (List.getElem_mem hlt)).1
   have HM:=hid hnm;clear hnm hvl;obtain ⟨M,hM⟩: ∃ x:ByteArray,x=⟨(low nm.data.toList).toArray⟩:=⟨_,rfl⟩
   have HMe:=hid hM;clear hM
   go_wp2_with fail
   refine (lower_any nm _ hsz).mono ?_;rintro e w1 ⟨rfl,hb1⟩
   rw [← HMe.out];have hbw1:=(hbw.alloc hwr (.cells #[.string nm,.string vl] 45)).trans (hb1.mono (by simp;omega));by_cases hmn:M=N
   ·subst hmn
    have HS:=hid (show isN n.data.toList L[k]=true by rw [isN,beq_iff_eq,← HN.out,HMe.out,HM.out])
    go_wp2
    go_ret
    refine ⟨hbw1,.inr ⟨k,?_,rfl⟩⟩
    unfold firstV;rw [List.findIdx?_eq_some_iff_getElem];exact ⟨hlt,HS.out,fun j hj=>by have:=HO.out j (by omega) hj;simp [this]⟩
   ·have hne:=strNe hmn
    have HS:=hid (show isN n.data.toList L[k]=false by
     rw [isN,beq_eq_false_iff_ne,← HN.out]
     intro e;exact hmn (xba (by rw [← e,HMe.out,HM.out])))
    clear hmn
    go_wp2
    go_roundw
    case rel=>
     refine ⟨k+1,by omega,by go_num,fun j hj hjk=> ?_,hbw1⟩;by_cases he:j=k
     ·subst he;exact HS.out
     ·exact HO.out j hj (by omega)
    case measure=>simp [intOf];omega
  ·go_wp2
   go_ret
   refine ⟨hbw,.inl ⟨?_,rfl⟩⟩
   unfold firstV;rw [List.findIdx?_eq_none_iff];intro x hx;obtain ⟨j,hj,rfl⟩:=List.getElem_of_mem hx
   exact HO.out j hj (by omega)

end Go.Proofs.YtpopljcmkbchcaaGreatDoor

namespace Go.Proofs.YtpopljcmkbchcaaGreatDoor
open Go.RowKit

theorem xstep_append_own {P:Program} {ops:Array Oper} {o:Oper} {a:Act} {w:World} {K:Act→World→Prop} {Q:Exit→Act→World→Prop} {E:Prop} (hgd:o.guard=none) (s x:Operand) (t:TypeId)
 (ho:o.op = .call { callee:= .builtin .append,args:= #[s,x],argTypes:= #[t,t] })
 (base:Nat) (e:TypeId) (i:TypeInfo) (z:Value) (size bytes:Nat) (ht:P.underlying t=some (.slice e)) (hi:P.info? e=some i) (hz:i.zero=some z)
 (hsize:i.size=size) (hby:i.bytes=bytes) (hzs:z.cells.size=size) (hsz:0<size)
 (v:Value) (n:Nat) (xs:List Value) (hs:a.eval s=v) (hown:w.ownsRow base e size v n xs)
 (ad:Addr) (m c:Nat) (news:List Value) (hx:a.eval x = .slice (some ad) m c) (hl:news.length=m*size) (hnews: ∀ j u,news[j]? = some u→w.cell? (ad.add j)=some u) (h1: ∀ u ∈ news,u.oneCell'=true)
 (h63:n+m≤maxLen) (hbytes:(n+m)*bytes≤140737488355328) (hbase:base≤w.heap.size)
 (h: ∀ v' w',w'.ownsRow base e size v' (n+m) (xs++news)→w.grownBy w' v.ownBlock→(v' = .slice none 0 0 ↔ v = .slice none 0 0∧m=0)→K (a.put o.dst v') w'):
 if Region.wanted o (yielded ops a.tmps)=true then Oper.wp P o a w K Q else E:=by
 rw [if_pos (by simp [Region.wanted,hgd])];exact wp_append_own w s x t ho base e i z size bytes ht hi hz hsize hby hzs hsz v n xs hs hown ad m c news hx hl hnews h1 h63 hbytes hbase h

theorem hd_take {w:World} {a:Option Addr} {n cap:Nat} {L:List Hd} (h:HdAt w (.slice a n cap) L) (k:Nat) (hk:k≤L.length):HdAt w (.slice a k cap) (L.take k):=by
 obtain ⟨a',cap',e,h1,h2,h3⟩:=h
 cases e
 have hl:(L.take k).length=k:=by simp;omega
 refine ⟨a,cap,by rw [hl],by omega,h2,fun j hj=> ?_⟩
 rw [hl] at hj;have:=h3 j (by omega)
 simpa using this

theorem hd_drop {w:World} {b off n cap:Nat} {L:List Hd} (h:HdAt w (.slice (some ⟨b,off,none⟩) n cap) L) (k:Nat) (hk:k≤L.length):HdAt w (.slice (some ⟨b,off+k*2,none⟩) (n - k) (cap - k)) (L.drop k):=by
 obtain ⟨a',cap',e,h1,h2,h3⟩:=h
 cases e
 have hl:(L.drop k).length=L.length - k:=by simp
 refine ⟨_,cap - k,by rw [hl],by omega,by omega,fun j hj=> ?_⟩
 rw [hl] at hj;obtain ⟨b',off',e,c1,c2⟩:=h3 (k+j) (by omega)
 cases e
 refine ⟨b,off+k*2,rfl,?_,?_⟩
 ·rw [show off+k*2+j*2=off+(k+j)*2 by omega,c1];simp
 ·rw [show off+k*2+j*2=off+(k+j)*2 by omega,c2];simp

def setE (L:List Hd) (n v:List UInt8):Nat:=match firstV L n with | none=>addE L n v | some _=>hdE n v

def setV (L:List Hd) (n v:List UInt8):List Hd:=match firstV L n with
 | none=>L++[⟨n,valT v⟩]
 | some k=>L.take k++[⟨(L.getD k ⟨[],[]⟩).name,valT v⟩]++dropV (L.drop (k+1)) n

def SetPost (L:List Hd) (n v:List UInt8) (w:World) (e:Ending) (w':World):Prop:=
 Below w.heap.size w w'∧((setE L n v≠0∧e = .returned (.tuple #[.slice none 0 0,.int .i64 (setE L n v:Int)])) ∨
  (setE L n v=0 ∧ ∃ vv,e = .returned (.tuple #[vv,.int .i64 0])∧w'.ownsRow w.heap.size 45 2 vv (setV L n v).length (cellsH (setV L n v))))

set_option maxHeartbeats 2000000 in
set_option maxRecDepth 100000 in
theorem set_any (vv:Value) (L:List Hd) (n v:ByteArray) (w:World) (h:HdAt w vv L) (hl:L.length≤1000000) (hn:n.size≤140737488351232) (hv:v.size≤9223372036854775807) (hz:Szd 140737488351232 L):
 Calls Tryz.prog 118 #[vv,.string n,.string v] w (SetPost L n.data.toList v.data.toList w):=by
 have HL:=hid h;have HZ:=hid hz;obtain ⟨i0,hi,hz0,hz1,hz2⟩:=info3 infoHd
 obtain ⟨a1,c1,rfl,hc1,hm1,hv1⟩:=h.view
 have V1:=hid hv1;clear h hv1 hz
 go_enter Tryz.func118,Tryz.ntmps118
 go_wp2_with fail
 refine (first_any _ L n _ HL.out hn HZ.out hl).mono ?_;rintro e w1 ⟨hb1,⟨hf,rfl⟩ | ⟨k,hf,rfl⟩⟩
 ·have HE:=hid (show setE L n.data.toList v.data.toList=addE L n.data.toList v.data.toList by unfold setE;rw [hf])
  have HV:=hid (show setV L n.data.toList v.data.toList=L++[⟨n.data.toList,valT v.data.toList⟩] by unfold setV;rw [hf]);clear hf
  go_wp2_with fail
  refine (add_any _ L n v _ (HL.out.kept hb1) hl hn hv).mono ?_;rintro e w2 ⟨hb2,⟨hne,rfl⟩ | ⟨he,v2,rfl,hown2⟩⟩
  ·go_wp2
   go_ret2
   refine ⟨belowT hb1 hb2,.inl ⟨by rw [HE.out];exact hne,by rw [HE.out];rfl⟩⟩
  ·have HO:=hid hown2
   clear hown2
   go_wp2
   go_ret2
   refine ⟨belowT hb1 hb2,.inr ⟨by rw [HE.out];exact he,_,rfl,?_⟩⟩;rw [HV.out,List.length_append]
   rcases HO.out.2 with ⟨h1,h2⟩ | ⟨g,cap,cur,e1,e2,e3⟩
   ·simp at h2
   ·exact ⟨HO.out.1,.inr ⟨g,cap,cur,e1,Nat.le_trans hb1.size e2,e3⟩⟩
 ·have hkl:k<L.length:=by unfold firstV at hf;rw [List.findIdx?_eq_some_iff_getElem] at hf;exact hf.1
  have HE:=hid (show setE L n.data.toList v.data.toList=hdE n.data.toList v.data.toList by unfold setE;rw [hf]);have HV:=hid (show setV L n.data.toList v.data.toList=L.take k++[⟨L[k].name,valT v.data.toList⟩]++dropV (L.drop (k+1)) n.data.toList by unfold setV;rw [hf];simp [List.getD,hkl]);clear hf;have hk0: ¬ (k:Int)<0:=by omega
  obtain ⟨q,hq⟩: ∃ q,q=hdE n.data.toList v.data.toList:=⟨_,rfl⟩
  have hk3:q=0∨q=1∨q=3:=by rw [hq];unfold hdE;split;exact .inr (.inl rfl);split;exact .inr (.inr rfl);exact .inl rfl
  have HQ:=hid hq;clear hq
  go_wp2_with fail
  refine (header_any n v _ hn hv).mono ?_;rintro e w2 ⟨N,V,rfl,hb2,hNV⟩
  rw [← HQ.out] at hNV;rw [← HQ.out];unfold hdVal;have hbw2:=belowT hb1 hb2;have HB3:=hid (belowA hbw2 (.cells #[.string N,.string V] 45));have HTwo:Hid (Two (w2.alloc (.cells #[.string N,.string V] 45)) w2.heap.size N V):=heap_alloc_new _ _;obtain ⟨W3,hW3⟩: ∃ W3,W3=w2.alloc (.cells #[.string N,.string V] 45):=⟨_,rfl⟩
  rcases hk3 with rfl | hk3
  ·obtain ⟨rfl,hVv⟩:=hNV rfl
   have HVv:=hid hVv;clear hVv hNV;have hkl':(k:Int)<(L.length:Int):=by omega
   obtain ⟨b1,o1,rfl,e1,e2⟩:=V1.out k hkl
   have f1:(w2.alloc (.cells #[.string N,.string V] 45)).cell? ⟨b1,o1+k*2,none⟩=some (.string ⟨L[k].name.toArray⟩):=(HB3.out.cell (World.block_lt_of_cell? w _ e1)).trans e1
   clear e1 e2;clear hW3 W3;obtain ⟨nk,hnk⟩: ∃ x:ByteArray,x=⟨L[k].name.toArray⟩:=⟨_,rfl⟩
   rw [← hnk] at f1;have HNk:=hid (show nk.data.toList=L[k].name by rw [hnk]);have HB4:=hid (belowA hbw2 (.cells #[.string nk,.string V] 45));clear hnk
   go_wp2_with fail
   obtain ⟨W,hW⟩: ∃ W,W=w2.alloc (.cells #[.string nk,.string V] 45):=⟨_,rfl⟩
   have hTW:Two W w2.heap.size nk V:=by rw [hW];exact heap_alloc_new _ _
   rw [← hW];rw [← hW] at HB4;obtain ⟨g0,g1,_,_⟩:=hTW.cells
   have HLW:=hid (HL.out.kept HB4.out);have hkc:(k:Int)≤(c1:Int):=by omega
   have hk1c:(k:Int)+1≤(L.length:Int):=by omega
   have hk1n:((k:Int)+1).toNat=k+1:=by omega
   have hlc:(L.length:Int)≤(c1:Int):=by omega
   have hwrap:IntKind.i64.wrap ((k:Int)+1)=(k:Int)+1:=by rw [IntKind.wrap_i64];omega
   have hq0:(0:Int)≤(k:Int)+1:=by omega
   have hwl:w2.heap.size<W.heap.size:=by rw [hW];simp
   have HK:=hid (fun (X:World) (hX:Below W.heap.size W X)=>(⟨hX,(hX.cell hwl).trans g0,(hX.cell hwl).trans g1⟩:Below W.heap.size W X∧X.cell? ⟨w2.heap.size,0,none⟩=some (.string nk)∧X.cell? ⟨w2.heap.size,1,none⟩=some (.string V)));have hbD:Below W.heap.size W W.drew:=(Below.refl _ W).drew;obtain ⟨C4,hC4⟩: ∃ C,cellsH (L.take k++[⟨nk.data.toList,V.data.toList⟩])=C:=⟨_,rfl⟩
   obtain ⟨C5,hC5⟩: ∃ C,cellsH (dropV (L.drop (k+1)) N.data.toList)=C:=⟨_,rfl⟩
   obtain ⟨m5,hm5⟩: ∃ m,(dropV (L.drop (k+1)) N.data.toList).length=m:=⟨_,rfl⟩
   have hm5l:m5≤1000000:=by have:=dropV_len (L.drop (k+1)) N.data.toList;simp at this;omega
   have HC5l:=hid (show C5.length=m5*2 by rw [← hC5,← hm5];exact cellsH_len _);have HC5o:=hid (show ∀ u ∈ C5,u.oneCell'=true by rw [← hC5];exact cellsH_oneCell _);have HC4:=hid hC4;have HC5:=hid hC5;have HM5:=hid hm5;have HVe:=hid (show L.take k++[⟨L[k].name,valT v.data.toList⟩]=L.take k++[⟨nk.data.toList,V.data.toList⟩] by rw [HNk.out,HVv.out]);clear hW hTW f1 HB3 HTwo hC4 hC5 hm5 hwl;by_cases hce:c1=k+1
   ·have HTL:Hid (HdAt W (.slice (some ⟨b1,o1,none⟩) (L.length - (k+1)) (c1 - (k+1))) (L.drop (k+1))):=by
     rw [show L.drop (k+1)=[] from List.drop_eq_nil_of_le (by omega)];refine ⟨_,c1 - (k+1),by rw [show L.length - (k+1)=0 by omega];rfl,by simp,by omega,fun j hj=>by simp at hj⟩
    have hcet:(c1=k+1)=True:=by simp [hce]
    clear hce;have HWith:Hid (∀ X:World,Below W.heap.size W X→Calls Tryz.prog 166 #[.slice (some ⟨b1,o1,none⟩) k c1,.agg #[.string nk,.string V]] X fun e X'=> ∃ v4,e = .returned v4∧X'.ownsRow W.heap.size 45 2 v4 (k+1) C4∧Below W.heap.size W X'):=fun X hX=>by
     have:=with_any _ _ nk V X ((hd_take HLW.out k (by omega)).kept hX) (by simp;omega)
     unfold hdVal at this;refine this.mono ?_;rintro e X' ⟨v4,rfl,ho,hb⟩
     rw [HC4.out,show (L.take k++[(⟨nk.data.toList,V.data.toList⟩:Hd)]).length=k+1 by simp;omega] at ho
     refine ⟨v4,rfl,?_,hX.trans (hb.mono hX.size)⟩
     rcases ho.2 with ⟨h1,h2⟩ | ⟨g,cap,cur,e1,e2,e3⟩
     ·simp at h2
     ·exact ⟨ho.1,.inr ⟨g,cap,cur,e1,Nat.le_trans hX.size e2,e3⟩⟩
    have HDrop:Hid (∀ X:World,Below W.heap.size W X→Calls Tryz.prog 123 #[.slice (some ⟨b1,o1,none⟩) (L.length - (k+1)) (c1 - (k+1)),.string N] X fun e X'=> ∃ g5 cap5,e = .returned (.slice (some ⟨g5,0,none⟩) m5 cap5)∧(∀ j u,C5[j]? = some u→X'.cell? ((⟨g5,0,none⟩:Addr).add j)=some u)∧Below W.heap.size W X'∧Below X.heap.size X X'):=fun X hX=>by
     refine (drop_any _ (L.drop (k+1)) N X (HTL.out.kept hX) hn (fun h hh=>HZ.out h (List.mem_of_mem_drop hh)) (by simp;omega)).mono ?_;rintro e X' ⟨v5,rfl,ho,hb,hnn⟩
     obtain ⟨g5,cap5,rfl,hcap5,hmax5⟩:=hnn.form ho
     have hc:=(own_hd ho).cells.2;rw [HC5.out] at hc;rw [← HM5.out];exact ⟨g5,cap5,rfl,fun j u hj=>by obtain ⟨x,e,h⟩:=hc j u hj;cases e;exact h,hX.trans (hb.mono hX.size),hb⟩
    go_region_held_law (fun wx=>Below W.heap.size W wx∧wx.cell? ⟨w2.heap.size,0,none⟩=some (.string nk)∧wx.cell? ⟨w2.heap.size,1,none⟩=some (.string V))
     (first | exact HK.out _ hbD | exact HK.out _ (by assumption) | (go_split_ands;exact HK.out _ (by assumption)))
     (first
       | (go_at_call 166;refine (HWith.out _ (by (try dsimp only at *);go_split_ands;assumption)).mono ?_;rintro e w4 ⟨v4,rfl,ho4,hbW4⟩)
       | (go_at_call 123;refine (HDrop.out _ (by (try dsimp only at *);go_split_ands;assumption)).mono ?_;rintro e w5 ⟨g5,cap5,rfl,hcell5,hbW5,hb5⟩)
       | (refine xstep_append_own rfl (.tmp 41) (.tmp 47) 27 rfl W.heap.size 45 i0 _ 2 32 Tryz.underlying27 hi hz0 hz1 hz2 rfl (by decide) v4 (k+1) C4 rfl (own_same ho4 hb5) ⟨g5,0,none⟩ m5 cap5 C5 rfl HC5l.out hcell5 HC5o.out (by unfold maxLen;omega) (by omega) hbW5.size ?_;intro v6 w6 hown6 hgrow6 hnil6;have hbW6:Below W.heap.size W w6:=hbW5.grown hgrow6 hbW5.size (fun g hg=>(ho4.lt g hg).1)))
    all_goals
     (try dsimp only at *)
     go_wp2
     go_ret2
     refine ⟨HB4.out.trans (hbW6.mono HB4.out.size),.inr ⟨by rw [HE.out,← HQ.out],v6,by simp,?_⟩⟩;rw [HV.out,HVe.out,cellsH_app,HC4.out,HC5.out,List.length_append,HM5.out,show (L.take k++[(⟨nk.data.toList,V.data.toList⟩:Hd)]).length=k+1 by simp;omega]
     rcases hown6.2 with ⟨h1,h2⟩ | ⟨g,cap,cur,e1,e2,e3⟩
     ·omega
     ·exact ⟨hown6.1,.inr ⟨g,cap,cur,e1,Nat.le_trans HB4.out.size e2,e3⟩⟩
   ·have HTL:=hid (hd_drop HLW.out (k+1) (by omega))
    have HWith:Hid (∀ X:World,Below W.heap.size W X→Calls Tryz.prog 166 #[.slice (some ⟨b1,o1,none⟩) k c1,.agg #[.string nk,.string V]] X fun e X'=> ∃ v4,e = .returned v4∧X'.ownsRow W.heap.size 45 2 v4 (k+1) C4∧Below W.heap.size W X'):=fun X hX=>by
     have:=with_any _ _ nk V X ((hd_take HLW.out k (by omega)).kept hX) (by simp;omega)
     unfold hdVal at this;refine this.mono ?_;rintro e X' ⟨v4,rfl,ho,hb⟩
     rw [HC4.out,show (L.take k++[(⟨nk.data.toList,V.data.toList⟩:Hd)]).length=k+1 by simp;omega] at ho
     refine ⟨v4,rfl,?_,hX.trans (hb.mono hX.size)⟩
     rcases ho.2 with ⟨h1,h2⟩ | ⟨g,cap,cur,e1,e2,e3⟩
     ·simp at h2
     ·exact ⟨ho.1,.inr ⟨g,cap,cur,e1,Nat.le_trans hX.size e2,e3⟩⟩
    have HDrop:Hid (∀ X:World,Below W.heap.size W X→Calls Tryz.prog 123 #[.slice (some ⟨b1,o1+(k+1)*2,none⟩) (L.length - (k+1)) (c1 - (k+1)),.string N] X fun e X'=> ∃ g5 cap5,e = .returned (.slice (some ⟨g5,0,none⟩) m5 cap5)∧(∀ j u,C5[j]? = some u→X'.cell? ((⟨g5,0,none⟩:Addr).add j)=some u)∧Below W.heap.size W X'∧Below X.heap.size X X'):=fun X hX=>by
     refine (drop_any _ (L.drop (k+1)) N X (HTL.out.kept hX) hn (fun h hh=>HZ.out h (List.mem_of_mem_drop hh)) (by simp;omega)).mono ?_;rintro e X' ⟨v5,rfl,ho,hb,hnn⟩
     obtain ⟨g5,cap5,rfl,hcap5,hmax5⟩:=hnn.form ho
     have hc:=(own_hd ho).cells.2;rw [HC5.out] at hc;rw [← HM5.out];exact ⟨g5,cap5,rfl,fun j u hj=>by obtain ⟨x,e,h⟩:=hc j u hj;cases e;exact h,hX.trans (hb.mono hX.size),hb⟩
    go_region_held_law (fun wx=>Below W.heap.size W wx∧wx.cell? ⟨w2.heap.size,0,none⟩=some (.string nk)∧wx.cell? ⟨w2.heap.size,1,none⟩=some (.string V))
     (first | exact HK.out _ hbD | exact HK.out _ (by assumption) | (go_split_ands;exact HK.out _ (by assumption)))
     (first
       | (go_at_call 166;refine (HWith.out _ (by (try dsimp only at *);go_split_ands;assumption)).mono ?_;rintro e w4 ⟨v4,rfl,ho4,hbW4⟩)
       | (go_at_call 123;refine (HDrop.out _ (by (try dsimp only at *);go_split_ands;assumption)).mono ?_;rintro e w5 ⟨g5,cap5,rfl,hcell5,hbW5,hb5⟩)
       | (refine xstep_append_own rfl (.tmp 41) (.tmp 47) 27 rfl W.heap.size 45 i0 _ 2 32 Tryz.underlying27 hi hz0 hz1 hz2 rfl (by decide) v4 (k+1) C4 rfl (own_same ho4 hb5) ⟨g5,0,none⟩ m5 cap5 C5 rfl HC5l.out hcell5 HC5o.out (by unfold maxLen;omega) (by omega) hbW5.size ?_;intro v6 w6 hown6 hgrow6 hnil6;have hbW6:Below W.heap.size W w6:=hbW5.grown hgrow6 hbW5.size (fun g hg=>(ho4.lt g hg).1)))
    all_goals
     (try dsimp only at *)
     go_wp2
     go_ret2
     refine ⟨HB4.out.trans (hbW6.mono HB4.out.size),.inr ⟨by rw [HE.out,← HQ.out],v6,by simp,?_⟩⟩;rw [HV.out,HVe.out,cellsH_app,HC4.out,HC5.out,List.length_append,HM5.out,show (L.take k++[(⟨nk.data.toList,V.data.toList⟩:Hd)]).length=k+1 by simp;omega]
     rcases hown6.2 with ⟨h1,h2⟩ | ⟨g,cap,cur,e1,e2,e3⟩
     ·omega
     ·exact ⟨hown6.1,.inr ⟨g,cap,cur,e1,Nat.le_trans HB4.out.size e2,e3⟩⟩
  ·clear hW3
   have hqz:q≠0:=by omega
   have HE2:=hid (show setE L n.data.toList v.data.toList=q by rw [HE.out,← HQ.out]);rcases hk3 with rfl | rfl
   ·go_wp2
    go_ret2
    refine ⟨HB3.out,.inl ⟨by rw [HE2.out];decide,by rw [HE2.out];rfl⟩⟩
   ·go_wp2
    go_ret2
    refine ⟨HB3.out,.inl ⟨by rw [HE2.out];decide,by rw [HE2.out];rfl⟩⟩

end Go.Proofs.YtpopljcmkbchcaaGreatDoor

namespace Go.Proofs.YtpopljcmkbchcaaGreatDoor
open Go.RowKit

def RowZ (w:World) (g:Nat) (l:List UInt8):Prop:=w.heap[g]? = some (.cells (l.map fun c=>Value.int .u8 (c.toNat:Int)).toArray 5 (0,0))

theorem RowZ.cell {w:World} {g:Nat} {l:List UInt8} (h:RowZ w g l) (j:Nat) (hj:j<l.length):w.cell? ⟨g,j,none⟩=some (.int .u8 (l[j].toNat:Int)):=by
 rw [Lib.cell_of_heap h];simp [hj]

theorem RowZ.set {w:World} {g:Nat} {l:List UInt8} (h:RowZ w g l) (j:Nat) (c:UInt8):RowZ (w.setCell ⟨g,j,none⟩ (.int .u8 (c.toNat:Int))) g (l.set j c):=by
 have:=Lib.heap_setCell_same h (i:=j) (.int .u8 (c.toNat:Int));unfold RowZ;rw [this];simp [List.map_set]

theorem RowZ.string {w:World} {g cap:Nat} {l:List UInt8} (h:RowZ w g l):(convert 28 9 (.slice (some ⟨g,0,none⟩) l.length cap)).run Tryz.prog w = .ok (.string ⟨l.toArray⟩) w:=by
 refine run_convert_bytes_back w 28 9 5 ⟨g,0,none⟩ cap l Tryz.underlying28 Tryz.underlying5 Tryz.underlying9 fun j hj=> ?_
 have:=h.cell j hj;rw [Addr.add_lit];simpa using this

end Go.Proofs.YtpopljcmkbchcaaGreatDoor

namespace Go.Proofs.YtpopljcmkbchcaaGreatDoor
open Go.RowKit

theorem Szd.mono {a b:Nat} {L:List Hd} (h:Szd a L) (hab:a≤b):Szd b L:=fun x hx=>⟨Nat.le_trans (h x hx).1 hab,Nat.le_trans (h x hx).2 hab⟩

theorem Szd.bulk {a:Nat} {L:List Hd} (h:Szd a L):bulkV L≤(a+2)*L.length:=by
 unfold bulkV
 induction L with
 | nil=>simp
 | cons x L ih=>
   have h1:=(h x (by simp)).2;have:=ih (fun y hy=>h y (by simp [hy]));simp only [List.map_cons,List.sum_cons,List.length_cons]
   rw [Nat.mul_add];omega

end Go.Proofs.YtpopljcmkbchcaaGreatDoor

namespace Go.Proofs.YtpopljcmkbchcaaGreatDoor
open Go.RowKit

def endT (c:Int):Bool:=c==9||c==32

theorem dropWhile_left (p:UInt8→Bool) (A X:List UInt8) (h:A.all p=true):(A++X).dropWhile p=X.dropWhile p:=by
 induction A with
 | nil=>rfl
 | cons a A ih=>
   simp only [List.all_cons,Bool.and_eq_true] at h
   rw [List.cons_append,List.dropWhile_cons_of_pos h.1,ih h.2]

theorem dropWhile_stop5 (p:UInt8→Bool) (X Y:List UInt8) (c:UInt8) (hc:p c=false):(X++c::Y).dropWhile p=X.dropWhile p++c::Y:=by
 induction X with
 | nil=>rw [List.nil_append,List.dropWhile_cons_of_neg (by simp [hc])];rfl
 | cons x X ih=>
   cases hx:p x with
   | true=>rw [List.cons_append,List.dropWhile_cons_of_pos hx,List.dropWhile_cons_of_pos hx,ih]
   | false=>rw [List.cons_append,List.dropWhile_cons_of_neg (by simp [hx]),List.dropWhile_cons_of_neg (by simp [hx])];rfl

theorem all_split (p:UInt8→Bool): ∀ l:List UInt8,¬ l.all p=true → ∃ A c r,A.all p=true∧p c=false∧l=A++c::r
 | [],h=>absurd rfl h
 | x::l,h=>by
   cases hx:p x with
   | false=>exact ⟨[],x,l,rfl,hx,rfl⟩
   | true=>
     obtain ⟨A,c,r,h1,h2,h3⟩:=all_split p l (fun e=>h (by rw [List.all_cons,hx,e];rfl))
     exact ⟨x::A,c,r,by rw [List.all_cons,hx,h1];rfl,h2,by rw [h3];rfl⟩

theorem trim_comm (p:UInt8→Bool) (l:List UInt8):((l.dropWhile p).reverse.dropWhile p).reverse=(l.reverse.dropWhile p).reverse.dropWhile p:=by
 by_cases h:l.all p=true
 ·have h1:l.dropWhile p=[]:=by
   have:=dropWhile_left p l [] h;simpa using this
  have h2:l.reverse.dropWhile p=[]:=by
   have:=dropWhile_left p l.reverse [] (by simpa using h)
   simpa using this
  rw [h1,h2];rfl
 ·obtain ⟨A,c,r,hA,hc,rfl⟩:=all_split p l h
  rw [dropWhile_left p A _ hA,List.dropWhile_cons_of_neg (by simp [hc])];rw [List.reverse_cons,List.reverse_append,List.reverse_cons,List.append_assoc,List.singleton_append]
  rw [dropWhile_stop5 p _ _ c hc,dropWhile_stop5 p _ _ c hc];rw [List.reverse_append,List.reverse_append,List.reverse_cons,List.reverse_cons,List.reverse_reverse]
  simp only [List.reverse_nil,List.nil_append,List.append_assoc,List.singleton_append]
  rw [dropWhile_left p A _ hA,List.dropWhile_cons_of_neg (by simp [hc])]

end Go.Proofs.YtpopljcmkbchcaaGreatDoor

namespace Go.Proofs.YtpopljcmkbchcaaGreatDoor
open Go.RowKit

def rsetV (n V:List UInt8):Bool→List Hd→List Hd
 | _,[]=>[]
 | d,h::r=>if isN n h then (if d then rsetV n V d r else ⟨h.name,V⟩::rsetV n V true r) else h::rsetV n V d r

def RsInv (L:List Hd) (n V:List UInt8) (k:Nat) (out:List Hd) (d:Bool):Prop:=out++rsetV n V d (L.drop k)=rsetV n V false L∧d=(L.take k).any (isN n)∧out.length≤k

theorem RsInv.skip {L:List Hd} {n V:List UInt8} {k:Nat} {out:List Hd} {d:Bool} (h:RsInv L n V k out d) (hk:k<L.length) (hn:isN n L[k]=false):RsInv L n V (k+1) (out++[L[k]]) d:=by
 obtain ⟨h1,h2,h3⟩:=h
 refine ⟨?_,?_,by simp;omega⟩
 ·rw [← h1,← List.getElem_cons_drop hk,rsetV,if_neg (by simp [hn])];simp
 ·rw [List.take_add_one,List.getElem?_eq_getElem hk,h2,List.any_append];simp [hn]

theorem RsInv.place {L:List Hd} {n V:List UInt8} {k:Nat} {out:List Hd} (h:RsInv L n V k out false) (hk:k<L.length) (hn:isN n L[k]=true):RsInv L n V (k+1) (out++[⟨L[k].name,V⟩]) true:=by
 obtain ⟨h1,h2,h3⟩:=h
 refine ⟨?_,?_,by simp;omega⟩
 ·rw [← h1,← List.getElem_cons_drop hk,rsetV,if_pos hn,if_neg (by simp)];simp
 ·rw [List.take_add_one,List.getElem?_eq_getElem hk,List.any_append];simp [hn]

end Go.Proofs.YtpopljcmkbchcaaGreatDoor

namespace Go.Proofs.YtpopljcmkbchcaaGreatDoor
open Go.RowKit

def RowH (w:World) (g:Nat) (M:List Hd):Prop:=w.heap[g]? = some (.cells (cellsH M).toArray 45 (0,0))

theorem RowH.at {w:World} {g:Nat} {M:List Hd} (h:RowH w g M) (hm:M.length≤maxLen):HdAt w (.slice (some ⟨g,0,none⟩) M.length M.length) M:=
 hd_of (Nat.le_refl _) hm fun j hj=>by
  have:=cellsH_at M j hj;rw [Nat.zero_add,Lib.cell_of_heap h,Lib.cell_of_heap h]
  simpa using this

theorem cellsH_set: ∀ (M:List Hd) (i:Nat) (h:Hd),((cellsH M).set (i*2) (.string ⟨h.name.toArray⟩)).set (i*2+1) (.string ⟨h.value.toArray⟩)=cellsH (M.set i h)
 | [],i,h=>by simp [cellsH]
 | a::M,0,h=>rfl
 | a::M,i+1,h=>by
   have ih:=cellsH_set M i h;have e:cellsH (a::M)=Value.string ⟨a.name.toArray⟩::Value.string ⟨a.value.toArray⟩::cellsH M:=rfl;have e2:cellsH ((a::M).set (i+1) h)=Value.string ⟨a.name.toArray⟩::Value.string ⟨a.value.toArray⟩::cellsH (M.set i h):=rfl;rw [e,e2,show (i+1)*2=i*2+1+1 by omega,List.set_cons_succ,List.set_cons_succ,List.set_cons_succ,List.set_cons_succ,ih]

theorem RowH.set {w:World} {g:Nat} {M:List Hd} (h:RowH w g M) (i:Nat) (a b:ByteArray):RowH ((w.setCell ⟨g,i*2,none⟩ (.string a)).setCell ⟨g,i*2+1,none⟩ (.string b)) g (M.set i ⟨a.data.toList,b.data.toList⟩):=by
 have h1:=Lib.heap_setCell_same h (i:=i*2) (.string a);have h2:=Lib.heap_setCell_same h1 (i:=i*2+1) (.string b);unfold RowH;rw [h2];have:=cellsH_set M i ⟨a.data.toList,b.data.toList⟩
 rw [← xself a,← xself b] at this;rw [← this];simp

end Go.Proofs.YtpopljcmkbchcaaGreatDoor

namespace Go.Proofs.YtpopljcmkbchcaaGreatDoor
open Go.RowKit

def ltN (a b:List UInt8):Bool:=decide (Lib.compareBytes a b<0)

theorem cmp_cons (x y:UInt8) (a b:List UInt8):Lib.compareBytes (x::a) (y::b)=if x<y then -1 else if y<x then 1 else Lib.compareBytes a b:=rfl

theorem cmp_anti: ∀ (a b:List UInt8),Lib.compareBytes a b = - Lib.compareBytes b a
 | [],[]=>rfl
 | [],_::_=>rfl
 | _::_,[]=>rfl
 | x::a,y::b=>by
   rw [cmp_cons,cmp_cons]
   have:=cmp_anti a b;by_cases h1:x<y
   ·have h2: ¬ y<x:=fun h=>absurd (UInt8.lt_trans h1 h) (UInt8.lt_irrefl _)
    simp [h1,h2]
   ·by_cases h2:y<x
    ·simp [h1,h2]
    ·simp [h1,h2,this]

theorem cmp_zero: ∀ (a b:List UInt8),Lib.compareBytes a b=0→a=b
 | [],[],_=>rfl
 | [],_::_,h=>by cases h
 | _::_,[],h=>by cases h
 | x::a,y::b,h=>by
   rw [cmp_cons] at h;by_cases h1:x<y
   ·simp [h1] at h
   ·by_cases h2:y<x
    ·simp [h1,h2] at h
    ·simp [h1,h2] at h
     have:x=y:=by
      apply UInt8.toNat_inj.1;rw [UInt8.lt_iff_toNat_lt] at h1 h2;omega
     rw [this,cmp_zero a b h]

theorem cmp_self: ∀ a:List UInt8,Lib.compareBytes a a=0
 | []=>rfl
 | x::a=>by rw [cmp_cons,if_neg (UInt8.lt_irrefl _),if_neg (UInt8.lt_irrefl _)];exact cmp_self a

theorem cmp_trans: ∀ (a b c:List UInt8),Lib.compareBytes a b<0→Lib.compareBytes b c<0→Lib.compareBytes a c<0
 | [],_,[],_,h2=>by
   rename_i b h1
   cases b with
   | nil=>simp [Lib.compareBytes] at h1
   | cons y b=>simp [Lib.compareBytes] at h2
 | [],_,_::_,_,_=>by simp [Lib.compareBytes]
 | x::a,[],_,h1,_=>by simp [Lib.compareBytes] at h1
 | x::a,y::b,[],_,h2=>by simp [Lib.compareBytes] at h2
 | x::a,y::b,z::c,h1,h2=>by
   rw [cmp_cons] at h1 h2 ⊢;simp only [UInt8.lt_iff_toNat_lt] at h1 h2 ⊢;have ih:=cmp_trans a b c;split at h1
   ·split at h2
    ·rw [if_pos (by omega)];decide
    ·split at h2
     ·omega
     ·rw [if_pos (by omega)];decide
   ·split at h1
    ·omega
    ·split at h2
     ·rw [if_pos (by omega)];decide
     ·split at h2
      ·omega
      ·rw [if_neg (by omega),if_neg (by omega)];exact ih h1 h2

theorem ltN_irrefl (a:List UInt8):ltN a a=false:=by unfold ltN;rw [cmp_self];rfl

theorem ltN_trans {a b c:List UInt8} (h1:ltN a b=true) (h2:ltN b c=true):ltN a c=true:=by
 unfold ltN at *;simp at *;exact cmp_trans a b c h1 h2

theorem ltN_asymm {a b:List UInt8} (h:ltN a b=true):ltN b a=false:=by
 cases h2:ltN b a with
 | false=>rfl
 | true=>have:=ltN_trans h h2;rw [ltN_irrefl] at this;cases this

theorem ltN_total (a b:List UInt8):ltN a b=true∨a=b∨ltN b a=true:=by
 have h:=cmp_anti a b;rcases Int.lt_trichotomy (Lib.compareBytes a b) 0 with h1 | h1 | h1
 ·left;unfold ltN;simpa using h1
 ·right;left;exact cmp_zero a b h1
 ·right;right;unfold ltN;simp;omega

theorem leN_trans {a b c:List UInt8} (h1:ltN b a=false) (h2:ltN c b=false):ltN c a=false:=by
 cases h3:ltN c a with
 | false=>rfl
 | true=>
   rcases ltN_total a b with h | h | h
   ·have:=ltN_trans h3 h;rw [h2] at this;cases this
   ·subst h;rw [h3] at h2;cases h2
   ·rw [h1] at h;cases h

def nmAt (M:List Hd) (i:Nat):List UInt8:=(M.getD i ⟨[],[]⟩).name

def Srt (M:List Hd) (b:Nat):Prop:= ∀ p q,p<q→q<b→ltN (nmAt M q) (nmAt M p)=false

def Stab (M0 M:List Hd):Prop:= ∀ x:List UInt8,M.filter (fun h=>h.name==x)=M0.filter (fun h=>h.name==x)

theorem Stab.refl (M:List Hd):Stab M M:=fun _=>rfl

theorem Stab.trans {A B C:List Hd} (h1:Stab A B) (h2:Stab B C):Stab A C:=fun x=>(h2 x).trans (h1 x)

def Ins (M:List Hd) (i j:Nat):Prop:=j≤i∧(∀ p q,p<q→q≤i→p≠j→q≠j→ltN (nmAt M q) (nmAt M p)=false)∧(∀ q,j<q→q≤i→ltN (nmAt M q) (nmAt M j)=false)

theorem Ins.start {M:List Hd} {i:Nat} (h:Srt M i):Ins M i i:=⟨Nat.le_refl _,fun p q h1 h2 _ h4=>h p q h1 (by omega),fun q h1 h2=>by omega⟩

theorem Ins.done {M:List Hd} {i j:Nat} (h:Ins M i j) (hd:j=0∨ltN (nmAt M j) (nmAt M (j - 1))=false):Srt M (i+1):=by
 obtain ⟨h1,h2,h3⟩:=h
 intro p q hpq hq;by_cases e1:p=j
 ·subst e1;exact h3 q hpq (by omega)
 ·by_cases e2:q=j
  ·subst e2
   rcases hd with hd | hd
   ·omega
   ·by_cases e3:p=q - 1
    ·subst e3;exact hd
    ·exact leN_trans (h2 p (q - 1) (by omega) (by omega) e1 (by omega)) hd
  ·exact h2 p q hpq (by omega) e1 e2

end Go.Proofs.YtpopljcmkbchcaaGreatDoor

namespace Go.Proofs.YtpopljcmkbchcaaGreatDoor
open Go.RowKit

theorem RowH.cells {w:World} {g:Nat} {M:List Hd} (h:RowH w g M) (i:Nat) (hi:i<M.length):w.cell? ⟨g,i*2,none⟩=some (.string ⟨(M.getD i ⟨[],[]⟩).name.toArray⟩)∧w.cell? ⟨g,i*2+1,none⟩=some (.string ⟨(M.getD i ⟨[],[]⟩).value.toArray⟩):=by
 have e:M.getD i ⟨[],[]⟩=M[i]:=by simp [List.getD,hi]
 have:=cellsH_at M i hi;rw [e,Lib.cell_of_heap h,Lib.cell_of_heap h]
 simpa using this

theorem RowH.kept {w w':World} {g:Nat} {M:List Hd} (h:RowH w g M) (hb:Below w.heap.size w w'):RowH w' g M:=
 (hb.block g (Array.getElem?_eq_some_iff.1 h).1).trans h

theorem RowH.lt {w:World} {g:Nat} {M:List Hd} (h:RowH w g M):g<w.heap.size:=(Array.getElem?_eq_some_iff.1 h).1

end Go.Proofs.YtpopljcmkbchcaaGreatDoor

namespace Go.Proofs.YtpopljcmkbchcaaGreatDoor
open Go.RowKit

def lowHd (h:Hd):Hd:=⟨low h.name,h.value⟩

def lowH (L:List Hd):List Hd:=L.map lowHd

end Go.Proofs.YtpopljcmkbchcaaGreatDoor

namespace Go.Proofs.YtpopljcmkbchcaaGreatDoor
open Go.RowKit

def scN:List UInt8:=[115,101,116,45,99,111,111,107,105,101]

def Tog (M:List Hd) (k:Nat):Prop:=1≤k∧k≤M.length∧(∀ j,j<k→nmAt M j=nmAt M 0)∧(k=1∨nmAt M 0≠scN)∧(k=M.length∨nmAt M k≠nmAt M 0∨nmAt M 0=scN)

end Go.Proofs.YtpopljcmkbchcaaGreatDoor

namespace Go.Proofs.YtpopljcmkbchcaaGreatDoor
open Go.RowKit

inductive Bld : List Hd → List Hd → Prop
 | nil:Bld [] []
 | step {R O:List Hd} (k:Nat) (h:Tog R k) (hO:Bld (R.drop k) O):Bld R (⟨nmAt R 0,getT (R.take k) (nmAt R 0)⟩::O)

def SortsTo (L O:List Hd):Prop:= ∃ M,M.length=L.length∧Stab (lowH L) M∧Srt M M.length∧Bld M O

theorem Stab.mem {A B:List Hd} (h:Stab A B) {x:Hd} (hx:x ∈ B):x ∈ A:=by
 have:x ∈ B.filter (fun y=>y.name==x.name):=List.mem_filter.2 ⟨hx,by simp⟩
 rw [h] at this;exact (List.mem_filter.1 this).1

end Go.Proofs.YtpopljcmkbchcaaGreatDoor

namespace Go.Proofs.YtpopljcmkbchcaaGreatDoor
open Go.RowKit

def LeH (x y:Hd):Prop:=ltN y.name x.name=false

theorem ltN_eq {a b:List UInt8} (h1:ltN a b=false) (h2:ltN b a=false):a=b:=by
 rcases ltN_total a b with h | h | h
 ·rw [h1] at h;cases h
 ·exact h
 ·rw [h2] at h;cases h

theorem Srt.pair {M:List Hd} (h:Srt M M.length):M.Pairwise LeH:=by
 rw [List.pairwise_iff_getElem];intro i j hi hj hij;have:=h i j hij hj;unfold nmAt at this;rw [show M.getD j ⟨[],[]⟩=M[j] by simp [List.getD,hj],show M.getD i ⟨[],[]⟩=M[i] by simp [List.getD,hi]] at this;exact this

theorem same_of_stab: ∀ {A B:List Hd},A.Pairwise LeH→B.Pairwise LeH→Stab A B→A=B
 | [],B,_,_,hs=>by
   cases B with
   | nil=>rfl
   | cons b B=>exact absurd (hs.mem List.mem_cons_self) (by simp)
 | a::A,B,ha,hb,hs=>by
   cases B with
   | nil=>
     have:=hs a.name;simp at this
   | cons b B=>
     have h1:b ∈ a::A:=hs.mem List.mem_cons_self;have hs':Stab (b::B) (a::A):=fun x=>(hs x).symm
     have h2:a ∈ b::B:=hs'.mem List.mem_cons_self;have e1:ltN b.name a.name=false:=by
      rcases List.mem_cons.1 h1 with e | e
      ·rw [e];exact ltN_irrefl _
      ·exact (List.pairwise_cons.1 ha).1 b e
     have e2:ltN a.name b.name=false:=by
      rcases List.mem_cons.1 h2 with e | e
      ·rw [e];exact ltN_irrefl _
      ·exact (List.pairwise_cons.1 hb).1 a e
     have en:=ltN_eq e2 e1;have hh:=hs a.name;rw [List.filter_cons_of_pos (by simp [en]),List.filter_cons_of_pos (by simp)] at hh;have eab:b=a:=(List.cons.inj hh).1;subst eab
     congr 1
     refine same_of_stab (List.pairwise_cons.1 ha).2 (List.pairwise_cons.1 hb).2 fun x=> ?_
     have:=hs x;by_cases hx:b.name=x
     ·rw [List.filter_cons_of_pos (by simp [hx]),List.filter_cons_of_pos (by simp [hx])] at this
      exact (List.cons.inj this).2
     ·rw [List.filter_cons_of_neg (by simp [hx]),List.filter_cons_of_neg (by simp [hx])] at this
      exact this

def LtH (x y:Hd):Prop:=ltN y.name x.name=false∧(x.name=y.name→x.name=scN)

structure Told (R O : List Hd) : Prop where
 ordered:O.Pairwise LtH
 named: ∀ x ∈ O,∃ y ∈ R,y.name=x.name
 valued: ∀ x ∈ O,x.name≠scN→x.value=Lib.join ((R.filter (fun y=>y.name==x.name)).map (·.value)) [44,32]
 few:O.length≤R.length
 small: ∀ x ∈ O,x.value.length≤bulkV R

theorem bulkV_app (A B:List Hd):bulkV (A++B)=bulkV A+bulkV B:=by simp [bulkV]

theorem nmAt_get {M:List Hd} {j:Nat} (h:j<M.length):nmAt M j=M[j].name:=by simp [nmAt,List.getD,h]

theorem Bld.told: ∀ {R O:List Hd},Bld R O→R.Pairwise LeH→Told R O:=by
 intro R O h
 induction h with
 | nil=>exact fun _=>⟨.nil,by simp,by simp,Nat.le_refl _,by simp⟩
 | @step R O k h hO ih=>
   intro hp;obtain ⟨hk1,hkl,hall,hk2,hend⟩:=h
   have hsp:R.take k++R.drop k=R:=List.take_append_drop k R;have hp':=hp;rw [← hsp,List.pairwise_append] at hp';obtain ⟨hpt,hpd,hcr⟩:=hp'
   have T:=ih hpd;have h0:0<R.length:=by omega
   have hR0:R[0] ∈ R.take k:=List.mem_take_iff_getElem.2 ⟨0,by omega,rfl⟩
   have hn0:nmAt R 0=R[0].name:=nmAt_get h0;have hck: ∀ z ∈ R.drop k,z.name=nmAt R 0→nmAt R 0=scN:=by
    intro z hz hzn;rcases hend with e | e | e
    ·rw [e,List.drop_length] at hz;cases hz
    ·exfalso
     have hkR:k<R.length:=by
      by_cases q:k<R.length
      ·exact q
      ·rw [List.drop_eq_nil_of_le (by omega)] at hz;cases hz
     have hd:R.drop k=R[k]::R.drop (k+1):=List.drop_eq_getElem_cons hkR;have l1:ltN R[k].name R[0].name=false:=hcr R[0] hR0 R[k] (by rw [hd];exact List.mem_cons_self)
     have l2:ltN z.name R[k].name=false:=by
      rw [hd] at hz hpd;rcases List.mem_cons.1 hz with q | q
      ·rw [q];exact ltN_irrefl _
      ·exact (List.pairwise_cons.1 hpd).1 z q
     rw [hzn,hn0] at l2
     apply e;rw [nmAt_get hkR,hn0];exact ltN_eq l1 l2
    ·exact e
   have hta: ∀ y ∈ R.take k,y.name=nmAt R 0:=by
    intro y hy;obtain ⟨j,hj,rfl⟩:=List.mem_take_iff_getElem.1 hy
    have:=hall j (by omega)
    rw [nmAt_get (by omega)] at this;exact this
   refine ⟨List.pairwise_cons.2 ⟨?_,T.ordered⟩,?_,?_,?_,?_⟩
   ·intro y hy
    obtain ⟨z,hz,hzn⟩:=T.named y hy
    refine ⟨?_,fun e=> ?_⟩
    ·show ltN y.name (nmAt R 0)=false
     rw [← hzn,hn0];exact hcr R[0] hR0 z hz
    ·exact hck z hz (hzn.trans e.symm)
   ·intro x hx
    rcases List.mem_cons.1 hx with e | e
    ·subst e
     exact ⟨R[0],List.getElem_mem _,hn0.symm⟩
    ·obtain ⟨z,hz,hzn⟩:=T.named x e
     exact ⟨z,List.mem_of_mem_drop hz,hzn⟩
   ·intro x hx hne
    rcases List.mem_cons.1 hx with e | e
    ·subst e
     show getT (R.take k) (nmAt R 0)=_;have e1:R.filter (fun y=>y.name==nmAt R 0)=R.take k:=by
      conv=>lhs;rw [← hsp]
      rw [List.filter_append,List.filter_eq_self.2 (fun y hy=>by simp [hta y hy]),List.filter_eq_nil_iff.2,List.append_nil]
      intro z hz q;exact hne (hck z hz (by simpa using q))
     show _=Lib.join ((R.filter (fun y=>y.name==nmAt R 0)).map (·.value)) [44,32]
     rw [e1];unfold getT selV;rw [List.filter_eq_self.2 (fun y hy=>by rw [isN,hta y hy];simp)]
    ·rw [T.valued x e hne]
     congr 2
     conv=>rhs;rw [← hsp]
     have e2:(R.take k).filter (fun y=>y.name==x.name)=[]:=List.filter_eq_nil_iff.2 (by
      intro y hy q;obtain ⟨z,hz,hzn⟩:=T.named x e
      have q':y.name=x.name:=by simpa using q
      have:=hck z hz (by rw [hzn,← q',hta y hy])
      exact hne (by rw [← q',hta y hy,this]))
     rw [List.filter_append,e2,List.nil_append]
   ·have:=T.few
    rw [List.length_drop] at this;simp only [List.length_cons];omega
   ·intro x hx
    rw [← hsp,bulkV_app];rcases List.mem_cons.1 hx with e | e
    ·subst e
     have:=getT_len (R.take k) (nmAt R 0);show (getT (R.take k) (nmAt R 0)).length≤_;omega
    ·have:=T.small x e
     omega

theorem join_one (x:List UInt8) (s:List UInt8):Lib.join [x] s=x:=by simp [Lib.join,List.intercalate]

theorem Bld.same: ∀ {R O:List Hd},Bld R O→R.Pairwise LtH→O=R:=by
 intro R O h
 induction h with
 | nil=>exact fun _=>rfl
 | @step R O k h hO ih=>
   intro hp;obtain ⟨hk1,hkl,hall,hk2,hend⟩:=h
   have h0:0<R.length:=by omega
   have hk:k=1:=by
    rcases hk2 with e | e
    ·exact e
    ·by_cases q:k=1
     ·exact q
     ·exfalso
      have h1:1<R.length:=by omega
      have:=List.pairwise_iff_getElem.1 hp 0 1 h0 h1 (by omega)
      have q2:=hall 1 (by omega)
      rw [nmAt_get h1,nmAt_get h0] at q2;exact e (by rw [nmAt_get h0];exact this.2 q2.symm)
   subst hk
   cases R with
   | nil=>simp at h0
   | cons x R=>
     have:=ih (List.pairwise_cons.1 hp).2;rw [this];show (⟨x.name,getT [x] x.name⟩:Hd)::R=x::R
     have:getT [x] x.name=x.value:=by simp [getT,selV,isN,join_one]
     rw [this]

end Go.Proofs.YtpopljcmkbchcaaGreatDoor

namespace Go.Proofs.YtpopljcmkbchcaaGreatDoor
open Go.RowKit

theorem Tog.le {M:List Hd} {k n:Nat} (h:Tog M k) (h':Tog M n):n≤k:=by
 by_cases hl:n≤k
 ·exact hl
 ·exfalso
  obtain ⟨a1,a2,a3,a4,a5⟩:=h
  obtain ⟨b1,b2,b3,b4,b5⟩:=h'
  rcases a5 with e | e | e
  ·omega
  ·exact e (b3 k (by omega))
  ·rcases b4 with q | q
   ·omega
   ·exact q e

theorem Tog.one {M:List Hd} {k n:Nat} (h:Tog M k) (h':Tog M n):k=n:=Nat.le_antisymm (h'.le h) (h.le h')

theorem Bld.one: ∀ {R O:List Hd},Bld R O → ∀ {Q:List Hd},Bld R Q→O=Q:=by
 intro R O h
 induction h with
 | nil=>
   intro Q h'
   cases h' with
   | nil=>rfl
   | step k h _=>obtain ⟨h1,h2,_⟩:=h;simp at h2;omega
 | @step R O k h hO ih=>
   intro Q h'
   cases h' with
   | nil=>obtain ⟨h1,h2,_⟩:=h;simp at h2;omega
   | step n h2 hQ=>
     obtain rfl:=h.one h2;rw [ih hQ]

theorem SortsTo.one {L O Q:List Hd} (h:SortsTo L O) (h':SortsTo L Q):O=Q:=by
 obtain ⟨M,_,hst,hsr,hb⟩:=h
 obtain ⟨M',_,hst',hsr',hb'⟩:=h'
 have:M=M':=same_of_stab hsr.pair hsr'.pair (fun x=>(hst' x).trans (hst x).symm);subst this;exact hb.one hb'

theorem Bld.all: ∀ {R O:List Hd},Bld R O → ∀ y ∈ R,∃ x ∈ O,x.name=y.name:=by
 intro R O h
 induction h with
 | nil=>intro y hy;cases hy
 | @step R O k h hO ih=>
   intro y hy;obtain ⟨hk1,hkl,hall,_,_⟩:=h
   rw [← List.take_append_drop k R,List.mem_append] at hy;rcases hy with hy | hy
   ·obtain ⟨j,hj,rfl⟩:=List.mem_take_iff_getElem.1 hy
    refine ⟨_,List.mem_cons_self,?_⟩
    have:=hall j (by omega)
    rw [nmAt_get (by omega)] at this;exact this.symm
   ·obtain ⟨x,hx,e⟩:=ih y hy
    exact ⟨x,List.mem_cons_of_mem _ hx,e⟩

theorem Bld.cookies: ∀ {R O:List Hd},Bld R O→O.filter (fun x=>x.name==scN)=R.filter (fun x=>x.name==scN):=by
 intro R O h
 induction h with
 | nil=>rfl
 | @step R O k h hO ih=>
   obtain ⟨hk1,hkl,hall,hk2,_⟩:=h
   have h0:0<R.length:=by omega
   by_cases hs:nmAt R 0=scN
   ·have hk:k=1:=by
     rcases hk2 with e | e
     ·exact e
     ·exact absurd hs e
    subst hk
    cases R with
    | nil=>simp at h0
    | cons x R=>
      have hx:x.name=scN:=hs;have e1:getT [x] x.name=x.value:=by simp [getT,selV,isN,join_one]
      show List.filter _ ((⟨x.name,getT [x] x.name⟩:Hd)::O)=_
      rw [e1,List.filter_cons_of_pos (by simp [hx]),List.filter_cons_of_pos (by simp [hx]),ih]
      rfl
   ·rw [List.filter_cons_of_neg (by simpa using hs),ih]
    conv=>rhs;rw [← List.take_append_drop k R]
    have e2:(R.take k).filter (fun x=>x.name==scN)=[]:=List.filter_eq_nil_iff.2 (by
     intro y hy q;obtain ⟨j,hj,rfl⟩:=List.mem_take_iff_getElem.1 hy
     have:=hall j (by omega)
     rw [nmAt_get (by omega)] at this;exact hs (by rw [← this];simpa using q))
    rw [List.filter_append,e2,List.nil_append]

end Go.Proofs.YtpopljcmkbchcaaGreatDoor
