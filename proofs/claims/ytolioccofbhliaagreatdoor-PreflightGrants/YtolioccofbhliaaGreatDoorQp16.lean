/-
  Walks and plain facts that this claim leans on, put together out of 22 texts: Xk, Xl, Xr, Xt, Wh, Xu, Xv, Xx, Za, Zc, Zd, Zf, Zh, Zj, Ba, Bb, Bd, Be, Bf, Bg, Bi, Bj.
-/
import Derived.Test.YtolioccofbhliaaGreatDoorProg
import Derived.Test.YtolioccofbhliaaGreatDoorQp1
import Derived.Test.YtolioccofbhliaaGreatDoorQp2
import Derived.Test.YtolioccofbhliaaGreatDoorQp3
import Derived.Test.YtolioccofbhliaaGreatDoorQp13
import Derived.Test.YtolioccofbhliaaGreatDoorQp14
import Derived.WalkKit
import Derived.Lib.Strings
import Derived.Lib.UnsafeStr
import Derived.Laws.IdiomStrings
import Derived.Laws.AppendOwn
import Derived.Laws.BitsAllLaws
import Derived.Lib.Bytealg
import Derived.Lib.BufferMore
import Derived.Shelf.Strings.Builder1
import Derived.Shelf.Strings.Builder2
import Derived.Shelf.Strings.OnBuilder
import Derived.Shelf.Strings.Trim
import Derived.Shelf.Small.Utf8
import Derived.Shelf.Small.Bits
import Derived.Shelf.Small.Strs
import Derived.Shelf.Small.Wraps
import Derived.Shelf.Strings.BuilderF
import Derived.Shelf.Strings.BuilderK
import Derived.Shelf.Strings.Builder2Cap
import Derived.Shelf.Strconv.Itoa0
import Derived.Shelf.Strconv.Itoa1
import Derived.Shelf.LaysM
import Derived.Shelf.Strconv.Itoa2
import Derived.Shelf.Strconv.Itoa3
import Derived.Shelf.Strings.Search1
import Derived.Shelf.Strings.Search2
import Derived.Shelf.Strings.Cut
import Derived.Shelf.Strings.Shaped
import Derived.Shelf.Sort.Plain
import Derived.Shelf.Strings.Prefix
import Derived.Shelf.Strings.Runes
import Derived.Shelf.Strings.IndexAny
import Derived.Shelf.Strings.AsciiSet
import Derived.Shelf.Strings.IndexAnyAll
import Derived.Shelf.Unicode.DecodeSlow
import Derived.Shelf.Unicode.DecodeAny
import Derived.Shelf.Unicode.DecodeLast
import Derived.Shelf.Slices.CompactS
import Derived.Shelf.Slices.In.SortNone
import Derived.Ground.SlgnProg
import Derived.Shelf.SlicesE.Compact
import Derived.Ground.SlgfProg
import Derived.Shelf.SlicesE.IndexFunc
import Derived.Shelf.SlicesE.DeleteFunc
import Derived.WalkSpells
import Derived.WalkLawsBesides
import Derived.Lib.SlTrimSet
import Derived.Lib.Join
import Derived.Lib.IndexMore
import Derived.Laws.OwnMore
import Derived.Below
import Derived.WalkSmall
import Derived.Lib.SmallJoins
import Derived.Deep.QuietTactic
import Derived.BigQuiet
import Derived.Deep.LoopGhost
import Derived.Deep.MidRow
import Derived.Shelf.Strings.SlTrimAscii
import Derived.Deep.CutRange
import Derived.Laws.Rows
import Derived.Laws.CopyOwn
import Derived.Laws.MakeOwn
import Derived.Laws.RangeAny
import Derived.Lib.DecodeN
import Derived.Lib.OthersKept
import Derived.RegionTactic
import Derived.Deep.RegionWith
import Derived.Laws.Runes
import Derived.Deep.WholeRow
import Derived.Deep.RegionLaw
import Derived.Deep.RegionHeldLaw
import Derived.LoopN
import Derived.Laws.AppendOwnNone
import Derived.BigRegion
import Derived.Deep.RegionHeld
set_option linter.unusedSimpArgs false
set_option linter.unusedVariables false

namespace Go.Proofs.YtolioccofbhliaaGreatDoor
open Go.RowKit

def restP (out:List (List UInt8)) (r:List UInt8) (mo:Bool):List (List UInt8):=if mo then out++(pcs r).map trimB else out

theorem pcs_cut (r:List UInt8):pcs r=if cutB r then cutA r::pcs (cutR r) else [cutA r]:=by
 unfold cutA cutR cutB
 cases h:cutQ false r with
 | none=>rw [pcs_none r h];rfl
 | some k=>rw [pcs_some r k h];rfl

theorem restP_step (out:List (List UInt8)) (r:List UInt8):restP out r true=restP (out++[trimB (cutA r)]) (cutR r) (cutB r):=by
 unfold restP;rw [if_pos rfl,pcs_cut]
 cases cutB r<;>simp

theorem cutR_len (r:List UInt8) (h:cutB r=true):(cutR r).length+1≤r.length:=by
 unfold cutB at h;unfold cutR
 cases hc:cutQ false r with
 | none=>rw [hc] at h;cases h
 | some k=>
   have:=cutQ_lt r.length false r k (Nat.le_refl _) hc
   simp;omega

theorem cutA_len (r:List UInt8):(cutA r).length≤r.length:=by
 unfold cutA;split<;>simp<;>omega

theorem cutR_le (r:List UInt8):(cutR r).length≤r.length:=by
 unfold cutR;split<;>simp

def SplitPost (L:List (List UInt8)) (w:World) (e:Ending) (w':World):Prop:=
 ∃ v,e = .returned (.tuple #[v,.bool true])∧w'.ownsRow w.heap.size 9 1 v L.length (cellsT L)∧Below w.heap.size w w'

set_option maxHeartbeats 2000000 in
set_option maxRecDepth 100000 in
theorem hsplit_any (v:Value) (L:List Hd) (n:ByteArray) (w:World) (h:HdAt w v L) (hs:n.size≤140737488351232) (hz:Szd 140737488351232 L) (hl:L.length≤1000000) (hb:bulkV L≤1000000000) (hh:getB L n.data.toList=true):
 Calls Tryz.prog 98 #[v,.string n] w (SplitPost (splitV L n.data.toList) w):=by
 obtain ⟨i0,hi,hz0,hz1,hz2⟩:=info3 infoTx
 have HG:=hid (get_any v L n w h hs hz hl (by omega));have hgl:=getT_len L n.data.toList;obtain ⟨T,hT⟩: ∃ T:ByteArray,T=⟨(getT L n.data.toList).toArray⟩:=⟨_,rfl⟩
 rw [← hT,hh] at HG;have hTs:T.size≤1000000000:=by rw [hT,xsize];omega
 have HV:=hid (show splitV L n.data.toList=restP [] T.data.toList true by rw [hT];rfl);clear hT hgl h hz hb hh
 go_enter Tryz.func98,Tryz.ntmps98
 go_wp2_with fail
 refine HG.out.mono ?_;rintro e w0 ⟨rfl,hb0⟩
 go_wp2
 go_loopw [6,7,8,9] (fun r m vv x wr=> ∃ (R:ByteArray) (mo:Bool) (out:List (List UInt8)),r = .string R∧m = .bool mo∧out.length+R.size≤1000000001∧(mo=true→out.length+R.size≤1000000000)∧R.size≤1000000000∧restP out R.data.toList mo=restP [] T.data.toList true∧wr.ownsRow w.heap.size 9 1 vv out.length (cellsT out)∧Below w.heap.size w wr)
  (fun r m _ _ _=>match r,m with | .string R,.bool true=>R.size+1 | _,_=>0)
 case atStart=>exact ⟨T,true,[],rfl,rfl,by simp;omega,fun _=>by simp;omega,hTs,rfl,World.ownsRow_nil _ _ _ _,hb0⟩
 case round=>
  obtain ⟨R,mo,out,rfl,rfl,hol,holm,hRs,hrest,hown,hbw⟩:=hrel
  have HO:=hid hown;have hwr:=hbw.size;have HR:=hid hrest;clear hown hrest
  cases mo with
  | false=>
    have HE:=hid (show out=splitV L n.data.toList by rw [HV.out,← HR.out];rfl)
    go_wp2
    go_ret2
    unfold SplitPost;rw [← HE.out];exact ⟨_,rfl,HO.out,hbw⟩
  | true=>
    have hol':=holm rfl;obtain ⟨A,hA⟩: ∃ x:ByteArray,x=⟨(cutA R.data.toList).toArray⟩:=⟨_,rfl⟩
    obtain ⟨B,hB⟩: ∃ x:ByteArray,x=⟨(cutR R.data.toList).toArray⟩:=⟨_,rfl⟩
    obtain ⟨mo,hmo⟩: ∃ x,x=cutB R.data.toList:=⟨_,rfl⟩
    have HCP:Hid (∀ w:World,Calls Tryz.prog 148 #[.string R] w fun e w'=>e = .returned (.tuple #[.string A,.string B,.bool mo])∧Below w.heap.size w w'):=fun w=>by
     have:=cutPiece_any R w (by omega)
     rw [← hA,← hB,← hmo] at this;exact this
    have hAs:A.size≤1000000000:=by have:=cutA_len R.data.toList;rw [hA,xsize];simp at this;omega
    have hBs:B.size≤R.size:=by have:=cutR_le R.data.toList;rw [hB,xsize];simpa using this
    have hBm:mo=true→B.size+1≤R.size:=fun h=>by have:=cutR_len R.data.toList (by rw [← hmo];exact h);rw [hB,xsize];simpa using this
    obtain ⟨P,hP⟩: ∃ x:ByteArray,x=⟨(trimB A.data.toList).toArray⟩:=⟨_,rfl⟩
    have HTr:Hid (∀ w:World,Calls Tryz.prog 149 #[.string A,.string ⟨#[9,32]⟩] w fun e w'=>e = .returned (.string P)∧Below w.heap.size w w'):=fun w=>by
     have:=trimB_any A w (by omega)
     rw [← hP] at this;exact this
    have HS:=hid (show restP (out++[P.data.toList]) B.data.toList mo=restP [] T.data.toList true by
     rw [← HR.out,restP_step,hP,hB,hmo,hA])
    clear hA hB hmo hP holm
    go_wp2_with fail
    refine (HCP.out _).mono ?_;rintro e w1 ⟨rfl,hb1⟩
    have hbw1:=hbw.trans (hb1.mono hwr);have hw1:=hbw1.size;have HO1:=hid (own_same HO.out hb1)
    go_wp2_with fail
    refine (HTr.out _).mono ?_;rintro e w2 ⟨rfl,hb2⟩
    have hbw2:=hbw1.trans (hb2.mono hw1);have hw2:=hbw2.size;have HO2:=hid (own_same HO1.out hb2)
    go_wp2_with (at_builtin;go_must (refine wpList_append_own _ rfl _ _ 50 rfl w.heap.size 9 i0 (.string ByteArray.empty) 1 16 Tryz.underlying50 hi hz0 hz1 hz2 rfl (by decide) _ _ _ rfl (HO2.out.alloc _) ⟨w2.heap.size,0,none⟩ 1 1 [.string P] rfl rfl ?c1 ?c2 ?c3 ?c4 ?c5 ?_))
    case c1=>
     intro q u hq
     match q,hq with
     | 0,hq=>simp at hq;subst hq;simp [Addr.add]
    case c2=>intro u hu;simp at hu;subst hu;rfl
    case c3=>unfold maxLen;omega
    case c4=>omega
    case c5=>simp;omega
    intro v' w3 hown' hgrow hnil;have HO3:=hid hown';have HB3:=hid (show Below w.heap.size w w3 from (hbw2.alloc hw2 _).grown hgrow (by simp;omega) (fun g hg=>(HO2.out.lt g hg).1));clear hown' hgrow hnil
    go_wp2
    go_roundw
    case rel=>
     refine ⟨B,mo,out++[P.data.toList],rfl,rfl,by simp;omega,fun h=>by have:=hBm h;simp;omega,by omega,HS.out,?_,HB3.out⟩
     rw [cellsT_app,cellsT_one,List.length_append]
     exact HO3.out
    case measure=>
     cases mo with
     | false=>simp
     | true=>have:=hBm rfl;simp;omega

end Go.Proofs.YtolioccofbhliaaGreatDoor

namespace Go.Proofs.YtolioccofbhliaaGreatDoor
open Go.RowKit

theorem lst_ne {M:ByteArray} {l:List UInt8} (h: ¬ M.data.toList=l):(M.toList==l)=false:=by
 rw [Lib.toList_data,beq_eq_false_iff_ne];exact h

theorem lst_yes {M:ByteArray} {l:List UInt8} (h:M.data.toList=l):M=⟨l.toArray⟩:=xext h

end Go.Proofs.YtolioccofbhliaaGreatDoor

namespace Go.Proofs.YtolioccofbhliaaGreatDoor
open Go.RowKit

theorem cellsH_cell (L:List Hd) (j:Nat) (u:Value) (h:(cellsH L)[j]? = some u): ∃ k,∃ hk:k<L.length,(j=k*2∧u = .string ⟨L[k].name.toArray⟩)∨(j=k*2+1∧u = .string ⟨L[k].value.toArray⟩):=by
 have hj:j<L.length*2:=by
  rw [← cellsH_len];exact (List.getElem?_eq_some_iff.1 h).1
 refine ⟨j / 2,by omega,?_⟩;have h2:=cellsH_at L (j / 2) (by omega)
 rcases (show j=j / 2*2∨j=j / 2*2+1 by omega) with e | e
 ·left
  refine ⟨e,?_⟩
  rw [e,h2.1] at h
  exact (Option.some.inj h).symm
 ·right
  refine ⟨e,?_⟩
  rw [e,h2.2] at h
  exact (Option.some.inj h).symm

theorem add_of (b off j:Nat):(⟨b,off,none⟩:Addr).add j=⟨b,off+j,none⟩:=by unfold Addr.add;split<;>simp_all

theorem HdAt.cells {w:World} {a:Option Addr} {n cap:Nat} {L:List Hd} (h:HdAt w (.slice a n cap) L):n=L.length ∧ ∀ j u,(cellsH L)[j]? = some u → ∃ x,a=some x∧w.cell? (x.add j)=some u:=by
 obtain ⟨a',cap',e,_,_,hc⟩:=h
 cases e
 refine ⟨rfl,fun j u hu=> ?_⟩
 obtain ⟨k,hk,h⟩:=cellsH_cell L j u hu
 obtain ⟨b,off,rfl,c1,c2⟩:=hc k hk
 refine ⟨_,rfl,?_⟩
 rw [add_of];rcases h with ⟨rfl,rfl⟩ | ⟨rfl,rfl⟩
 ·exact c1
 ·rw [← Nat.add_assoc];exact c2

end Go.Proofs.YtolioccofbhliaaGreatDoor

namespace Go.Proofs.YtolioccofbhliaaGreatDoor
open Go.RowKit

def badC (c:UInt8):Bool:=c==0||(c==10||c==13)

def valT (l:List UInt8):List UInt8:=Lib.trimS l [9,10,13,32]

def valB (l:List UInt8):Bool:= !(valT l).any badC

end Go.Proofs.YtolioccofbhliaaGreatDoor

namespace Go.Proofs.YtolioccofbhliaaGreatDoor
open Go.RowKit

def tokC (c:UInt8):Bool:=tokI c.toNat

def tokL (l:List UInt8):Bool:=l.all tokC && !l.isEmpty

set_option maxHeartbeats 400000 in
theorem token_any (s:ByteArray) (w:World) (hs:s.size≤140737488351232):
 Calls Tryz.prog 133 #[.string s] w fun e w'=>e = .returned (.bool (tokL s.data.toList))∧w=w':=by
 go_enter Tryz.func133,Tryz.ntmps133
 go_wp2
 go_loop [6] (fun i=> ∃ k:Nat,k≤s.size∧i = .int .i64 k∧(s.data.toList.take k).all tokC=true) (fun i=>s.size - (intOf i).toNat)
 case atStart=>exact ⟨0,Nat.zero_le _,rfl,rfl⟩
 case round=>
  obtain ⟨k,hk,rfl,hall⟩:=hrel
  have HA:=hid hall;clear hall;by_cases hlt:k<s.size
  ·have HT:=hid (take_snoc s k hlt)
   by_cases ht:tokI (s[k].toNat:Int)=true
   ·go_wp2_with (go_at_call 177;refine (tokenByte_any _ _).mono ?_;rintro e w' ⟨rfl,rfl⟩)
    go_round
    case rel=>exact ⟨k+1,by omega,by go_num,by rw [HT.out,List.all_append,HA.out];simp [tokC,ht]⟩
    case measure=>simp [intOf];omega
   ·have ht':tokI (s[k].toNat:Int)=false:=by simpa using ht
    clear ht
    go_wp2_with (go_at_call 177;refine (tokenByte_any _ _).mono ?_;rintro e w' ⟨rfl,rfl⟩)
    go_ret
    refine ⟨ret_bool ?_,rfl⟩;have:s.data.toList.all tokC=false:=by
     rw [List.all_eq_false];refine ⟨s[k],?_,by simp [tokC,ht']⟩
     have:s[k]=s.data.toList[k]'(by simpa using hlt):=rfl
     rw [this];exact List.getElem_mem _
    simp [tokL,this]
  ·have ha:=HA.out
   rw [take_all s k hlt] at ha
   go_wp2
   go_ret
   exact ⟨ret_bool (by rw [Lib.toList_data];simp [tokL,ha]),rfl⟩

end Go.Proofs.YtolioccofbhliaaGreatDoor

namespace Go.Proofs.YtolioccofbhliaaGreatDoor
open Go.RowKit

def hdE (n v:List UInt8):Nat:=if valB v=false∨tokL n=false then 1 else if 4096<n.length∨4096<(valT v).length then 3 else 0

def Two (w:World) (b:Nat) (n v:ByteArray):Prop:=w.heap[b]? = some (.cells #[.string n,.string v] 45 (0,0))

theorem Two.range {w:World} {b:Nat} {n v:ByteArray} (h:Two w b n v):w.rangeAt b 0 [.string n,.string v]:=fun j u hu=>by
 rw [Nat.zero_add,Lib.cell_of_heap h]
 match j,hu with
 | 0,hu=>simpa using hu
 | 1,hu=>simpa using hu
 | j+2,hu=>simp at hu

theorem Two.cells {w:World} {b:Nat} {n v:ByteArray} (h:Two w b n v):w.cell? ⟨b,0,none⟩=some (.string n)∧w.cell? ⟨b,1,none⟩=some (.string v)∧w.frozen? ⟨b,0,none⟩=false∧w.frozen? ⟨b,1,none⟩=false:=
 ⟨by rw [Lib.cell_of_heap h];rfl,by rw [Lib.cell_of_heap h];rfl,Lib.frozen_of_heap h 0,Lib.frozen_of_heap h 1⟩

theorem Two.set {w:World} {b:Nat} {n v n' v':ByteArray} (h:Two w b n v):Two ((w.setCell ⟨b,0,none⟩ (.string n')).setCell ⟨b,1,none⟩ (.string v')) b n' v':=by
 have h1:=Lib.heap_setCell_same h (i:=0) (.string n');have h2:=Lib.heap_setCell_same h1 (i:=1) (.string v');exact h2

def addE (L:List Hd) (n v:List UInt8):Nat:=if hdE n v≠0 then hdE n v else if 64≤L.length then 4 else 0

end Go.Proofs.YtolioccofbhliaaGreatDoor

namespace Go.Proofs.YtolioccofbhliaaGreatDoor
open Go.RowKit

def dropV (L:List Hd) (n:List UInt8):List Hd:=L.filter fun h=> !isN n h

theorem dropV_snoc (L:List Hd) (h:Hd) (n:List UInt8):dropV (L++[h]) n=dropV L n++(if isN n h then [] else [h]):=by
 unfold dropV;rw [List.filter_append];by_cases hh:isN n h=true<;>simp [hh]

theorem dropV_len (L:List Hd) (n:List UInt8):(dropV L n).length≤L.length:=List.length_filter_le _ _

def NonNil (v:Value):Prop:=v ≠ .slice none 0 0

theorem NonNil.form {w:World} {B n:Nat} {e:TypeId} {k:Nat} {v:Value} {xs:List Value} (h:NonNil v) (ho:w.ownsRow B e k v n xs): ∃ g cap,v = .slice (some ⟨g,0,none⟩) n cap∧n≤cap∧cap≤maxLen:=by
 rcases ho.2 with ⟨hv,_⟩ | ⟨g,cap,cur,rfl,_,_,h1,h2,_⟩
 ·exact absurd hv h
 ·exact ⟨g,cap,rfl,h1,h2⟩

def firstV (L:List Hd) (n:List UInt8):Option Nat:=L.findIdx? (isN n)

end Go.Proofs.YtolioccofbhliaaGreatDoor

namespace Go.Proofs.YtolioccofbhliaaGreatDoor
open Go.RowKit

def setE (L:List Hd) (n v:List UInt8):Nat:=match firstV L n with | none=>addE L n v | some _=>hdE n v

def setV (L:List Hd) (n v:List UInt8):List Hd:=match firstV L n with
 | none=>L++[⟨n,valT v⟩]
 | some k=>L.take k++[⟨(L.getD k ⟨[],[]⟩).name,valT v⟩]++dropV (L.drop (k+1)) n

end Go.Proofs.YtolioccofbhliaaGreatDoor

namespace Go.Proofs.YtolioccofbhliaaGreatDoor
open Go.RowKit

def RowZ (w:World) (g:Nat) (l:List UInt8):Prop:=w.heap[g]? = some (.cells (l.map fun c=>Value.int .u8 (c.toNat:Int)).toArray 5 (0,0))

theorem RowZ.cell {w:World} {g:Nat} {l:List UInt8} (h:RowZ w g l) (j:Nat) (hj:j<l.length):w.cell? ⟨g,j,none⟩=some (.int .u8 (l[j].toNat:Int)):=by
 rw [Lib.cell_of_heap h];simp [hj]

theorem RowZ.set {w:World} {g:Nat} {l:List UInt8} (h:RowZ w g l) (j:Nat) (c:UInt8):RowZ (w.setCell ⟨g,j,none⟩ (.int .u8 (c.toNat:Int))) g (l.set j c):=by
 have:=Lib.heap_setCell_same h (i:=j) (.int .u8 (c.toNat:Int));unfold RowZ;rw [this];simp [List.map_set]

theorem RowZ.string {w:World} {g cap:Nat} {l:List UInt8} (h:RowZ w g l):(convert 28 9 (.slice (some ⟨g,0,none⟩) l.length cap)).run Tryz.prog w = .ok (.string ⟨l.toArray⟩) w:=by
 refine run_convert_bytes_back w 28 9 5 ⟨g,0,none⟩ cap l Tryz.underlying28 Tryz.underlying5 Tryz.underlying9 fun j hj=> ?_
 have:=h.cell j hj;rw [Addr.add_lit];simpa using this

end Go.Proofs.YtolioccofbhliaaGreatDoor

namespace Go.Proofs.YtolioccofbhliaaGreatDoor
open Go.RowKit

theorem Szd.mono {a b:Nat} {L:List Hd} (h:Szd a L) (hab:a≤b):Szd b L:=fun x hx=>⟨Nat.le_trans (h x hx).1 hab,Nat.le_trans (h x hx).2 hab⟩

theorem Szd.bulk {a:Nat} {L:List Hd} (h:Szd a L):bulkV L≤(a+2)*L.length:=by
 unfold bulkV
 induction L with
 | nil=>simp
 | cons x L ih=>
   have h1:=(h x (by simp)).2;have:=ih (fun y hy=>h y (by simp [hy]));simp only [List.map_cons,List.sum_cons,List.length_cons]
   rw [Nat.mul_add];omega

end Go.Proofs.YtolioccofbhliaaGreatDoor

namespace Go.Proofs.YtolioccofbhliaaGreatDoor
open Go.RowKit

theorem dropV_app (A B:List Hd) (n:List UInt8):dropV (A++B) n=dropV A n++dropV B n:=by unfold dropV;simp

theorem dropV_twice (L:List Hd) (n:List UInt8):dropV (dropV L n) n=dropV L n:=by
 unfold dropV;rw [List.filter_filter];simp

theorem isN_other {n o:List UInt8} (h:low n≠low o) (x:Hd) (hx:isN n x=true):isN o x=false:=by
 unfold isN at hx ⊢;rw [beq_iff_eq] at hx;rw [beq_eq_false_iff_ne,hx]
 exact h

theorem selV_other (L:List Hd) (n o:List UInt8) (h:low n≠low o):selV (dropV L n) o=selV L o:=by
 unfold selV dropV;rw [List.filter_filter]
 congr 1
 apply List.filter_congr;intro x _
 cases hx:isN n x with
 | false=>simp
 | true=>simp [isN_other h x hx]

theorem first_ahead (L:List Hd) (n:List UInt8) (k:Nat) (h:firstV L n=some k): ∃ hk:k<L.length,isN n L[k]=true∧selV (L.take k) n=[]∧dropV (L.take k) n=L.take k:=by
 unfold firstV at h;rw [List.findIdx?_eq_some_iff_getElem] at h;obtain ⟨hk,h1,h2⟩:=h
 have hno: ∀ x ∈ L.take k,isN n x=false:=fun x hx=>by
  obtain ⟨j,hj,rfl⟩:=List.getElem_of_mem hx
  have hj':j<k:=by simp at hj;omega
  have:=h2 j hj';simpa using this
 refine ⟨hk,h1,?_,?_⟩
 ·unfold selV
  rw [List.filter_eq_nil_iff.2 (fun x hx=>by rw [hno x hx];simp)];rfl
 ·unfold dropV
  rw [List.filter_eq_self];intro x hx;rw [hno x hx];rfl

theorem isN_self (n v:List UInt8):isN n ⟨n,v⟩=true:=by unfold isN;simp

theorem isN_name (n v:List UInt8) (x:Hd) (h:isN n x=true):isN n ⟨x.name,v⟩=true:=h

theorem set_drop (L:List Hd) (n v:List UInt8):dropV (setV L n v) n=dropV L n:=by
 unfold setV
 cases h:firstV L n with
 | none=>
   simp only;rw [dropV_snoc,isN_self];simp
 | some k=>
   obtain ⟨hk,h1,h2,h3⟩:=first_ahead L n k h
   simp only;rw [dropV_app,dropV_app,h3,dropV_twice]
   have hL:L=L.take k++([L[k]]++L.drop (k+1)):=by
    rw [List.singleton_append,List.getElem_cons_drop,List.take_append_drop]
   have e1:dropV [(⟨(L.getD k ⟨[],[]⟩).name,valT v⟩:Hd)] n=[]:=by
    unfold dropV;rw [List.getD_eq_getElem?_getD,List.getElem?_eq_getElem hk,Option.getD_some,List.filter_cons_of_neg (by rw [isN_name n _ L[k] h1];simp)];rfl
   have e2:dropV [L[k]] n=[]:=by
    unfold dropV;rw [List.filter_cons_of_neg (by rw [h1];simp)];rfl
   rw [e1]
   conv=>rhs;rw [hL,dropV_app,dropV_app,e2,h3]
   simp

theorem set_other (L:List Hd) (n v o:List UInt8) (hno:low n≠low o):selV (setV L n v) o=selV L o:=by
 rw [← selV_other (setV L n v) n o hno,set_drop,selV_other L n o hno]

end Go.Proofs.YtolioccofbhliaaGreatDoor

namespace Go.Proofs.YtolioccofbhliaaGreatDoor
open Go.RowKit

def endT (c:Int):Bool:=c==9||c==32

theorem dropWhile_left (p:UInt8→Bool) (A X:List UInt8) (h:A.all p=true):(A++X).dropWhile p=X.dropWhile p:=by
 induction A with
 | nil=>rfl
 | cons a A ih=>
   simp only [List.all_cons,Bool.and_eq_true] at h
   rw [List.cons_append,List.dropWhile_cons_of_pos h.1,ih h.2]

theorem dropWhile_stop5 (p:UInt8→Bool) (X Y:List UInt8) (c:UInt8) (hc:p c=false):(X++c::Y).dropWhile p=X.dropWhile p++c::Y:=by
 induction X with
 | nil=>rw [List.nil_append,List.dropWhile_cons_of_neg (by simp [hc])];rfl
 | cons x X ih=>
   cases hx:p x with
   | true=>rw [List.cons_append,List.dropWhile_cons_of_pos hx,List.dropWhile_cons_of_pos hx,ih]
   | false=>rw [List.cons_append,List.dropWhile_cons_of_neg (by simp [hx]),List.dropWhile_cons_of_neg (by simp [hx])];rfl

theorem all_split (p:UInt8→Bool): ∀ l:List UInt8,¬ l.all p=true → ∃ A c r,A.all p=true∧p c=false∧l=A++c::r
 | [],h=>absurd rfl h
 | x::l,h=>by
   cases hx:p x with
   | false=>exact ⟨[],x,l,rfl,hx,rfl⟩
   | true=>
     obtain ⟨A,c,r,h1,h2,h3⟩:=all_split p l (fun e=>h (by rw [List.all_cons,hx,e];rfl))
     exact ⟨x::A,c,r,by rw [List.all_cons,hx,h1];rfl,h2,by rw [h3];rfl⟩

theorem trim_comm (p:UInt8→Bool) (l:List UInt8):((l.dropWhile p).reverse.dropWhile p).reverse=(l.reverse.dropWhile p).reverse.dropWhile p:=by
 by_cases h:l.all p=true
 ·have h1:l.dropWhile p=[]:=by
   have:=dropWhile_left p l [] h;simpa using this
  have h2:l.reverse.dropWhile p=[]:=by
   have:=dropWhile_left p l.reverse [] (by simpa using h)
   simpa using this
  rw [h1,h2];rfl
 ·obtain ⟨A,c,r,hA,hc,rfl⟩:=all_split p l h
  rw [dropWhile_left p A _ hA,List.dropWhile_cons_of_neg (by simp [hc])];rw [List.reverse_cons,List.reverse_append,List.reverse_cons,List.append_assoc,List.singleton_append]
  rw [dropWhile_stop5 p _ _ c hc,dropWhile_stop5 p _ _ c hc];rw [List.reverse_append,List.reverse_append,List.reverse_cons,List.reverse_cons,List.reverse_reverse]
  simp only [List.reverse_nil,List.nil_append,List.append_assoc,List.singleton_append]
  rw [dropWhile_left p A _ hA,List.dropWhile_cons_of_neg (by simp [hc])]

end Go.Proofs.YtolioccofbhliaaGreatDoor

namespace Go.Proofs.YtolioccofbhliaaGreatDoor
open Go.RowKit

def rsetV (n V:List UInt8):Bool→List Hd→List Hd
 | _,[]=>[]
 | d,h::r=>if isN n h then (if d then rsetV n V d r else ⟨h.name,V⟩::rsetV n V true r) else h::rsetV n V d r

def RsInv (L:List Hd) (n V:List UInt8) (k:Nat) (out:List Hd) (d:Bool):Prop:=out++rsetV n V d (L.drop k)=rsetV n V false L∧d=(L.take k).any (isN n)∧out.length≤k

theorem RsInv.skip {L:List Hd} {n V:List UInt8} {k:Nat} {out:List Hd} {d:Bool} (h:RsInv L n V k out d) (hk:k<L.length) (hn:isN n L[k]=false):RsInv L n V (k+1) (out++[L[k]]) d:=by
 obtain ⟨h1,h2,h3⟩:=h
 refine ⟨?_,?_,by simp;omega⟩
 ·rw [← h1,← List.getElem_cons_drop hk,rsetV,if_neg (by simp [hn])];simp
 ·rw [List.take_add_one,List.getElem?_eq_getElem hk,h2,List.any_append];simp [hn]

theorem RsInv.place {L:List Hd} {n V:List UInt8} {k:Nat} {out:List Hd} (h:RsInv L n V k out false) (hk:k<L.length) (hn:isN n L[k]=true):RsInv L n V (k+1) (out++[⟨L[k].name,V⟩]) true:=by
 obtain ⟨h1,h2,h3⟩:=h
 refine ⟨?_,?_,by simp;omega⟩
 ·rw [← h1,← List.getElem_cons_drop hk,rsetV,if_pos hn,if_neg (by simp)];simp
 ·rw [List.take_add_one,List.getElem?_eq_getElem hk,List.any_append];simp [hn]

theorem RsInv.pass {L:List Hd} {n V:List UInt8} {k:Nat} {out:List Hd} (h:RsInv L n V k out true) (hk:k<L.length) (hn:isN n L[k]=true):RsInv L n V (k+1) out true:=by
 obtain ⟨h1,h2,h3⟩:=h
 refine ⟨?_,?_,by omega⟩
 ·rw [← h1,← List.getElem_cons_drop hk,rsetV,if_pos hn,if_pos rfl]
 ·rw [List.take_add_one,List.getElem?_eq_getElem hk,List.any_append];simp [hn]

end Go.Proofs.YtolioccofbhliaaGreatDoor

namespace Go.Proofs.YtolioccofbhliaaGreatDoor
open Go.RowKit

def RowH (w:World) (g:Nat) (M:List Hd):Prop:=w.heap[g]? = some (.cells (cellsH M).toArray 45 (0,0))

theorem RowH.at {w:World} {g:Nat} {M:List Hd} (h:RowH w g M) (hm:M.length≤maxLen):HdAt w (.slice (some ⟨g,0,none⟩) M.length M.length) M:=
 hd_of (Nat.le_refl _) hm fun j hj=>by
  have:=cellsH_at M j hj;rw [Nat.zero_add,Lib.cell_of_heap h,Lib.cell_of_heap h]
  simpa using this

theorem cellsH_set: ∀ (M:List Hd) (i:Nat) (h:Hd),((cellsH M).set (i*2) (.string ⟨h.name.toArray⟩)).set (i*2+1) (.string ⟨h.value.toArray⟩)=cellsH (M.set i h)
 | [],i,h=>by simp [cellsH]
 | a::M,0,h=>rfl
 | a::M,i+1,h=>by
   have ih:=cellsH_set M i h;have e:cellsH (a::M)=Value.string ⟨a.name.toArray⟩::Value.string ⟨a.value.toArray⟩::cellsH M:=rfl;have e2:cellsH ((a::M).set (i+1) h)=Value.string ⟨a.name.toArray⟩::Value.string ⟨a.value.toArray⟩::cellsH (M.set i h):=rfl;rw [e,e2,show (i+1)*2=i*2+1+1 by omega,List.set_cons_succ,List.set_cons_succ,List.set_cons_succ,List.set_cons_succ,ih]

theorem RowH.set {w:World} {g:Nat} {M:List Hd} (h:RowH w g M) (i:Nat) (a b:ByteArray):RowH ((w.setCell ⟨g,i*2,none⟩ (.string a)).setCell ⟨g,i*2+1,none⟩ (.string b)) g (M.set i ⟨a.data.toList,b.data.toList⟩):=by
 have h1:=Lib.heap_setCell_same h (i:=i*2) (.string a);have h2:=Lib.heap_setCell_same h1 (i:=i*2+1) (.string b);unfold RowH;rw [h2];have:=cellsH_set M i ⟨a.data.toList,b.data.toList⟩
 rw [← xself a,← xself b] at this;rw [← this];simp

end Go.Proofs.YtolioccofbhliaaGreatDoor

namespace Go.Proofs.YtolioccofbhliaaGreatDoor
open Go.RowKit

def ltN (a b:List UInt8):Bool:=decide (Lib.compareBytes a b<0)

theorem cmp_cons (x y:UInt8) (a b:List UInt8):Lib.compareBytes (x::a) (y::b)=if x<y then -1 else if y<x then 1 else Lib.compareBytes a b:=rfl

theorem cmp_anti: ∀ (a b:List UInt8),Lib.compareBytes a b = - Lib.compareBytes b a
 | [],[]=>rfl
 | [],_::_=>rfl
 | _::_,[]=>rfl
 | x::a,y::b=>by
   rw [cmp_cons,cmp_cons]
   have:=cmp_anti a b;by_cases h1:x<y
   ·have h2: ¬ y<x:=fun h=>absurd (UInt8.lt_trans h1 h) (UInt8.lt_irrefl _)
    simp [h1,h2]
   ·by_cases h2:y<x
    ·simp [h1,h2]
    ·simp [h1,h2,this]

theorem cmp_zero: ∀ (a b:List UInt8),Lib.compareBytes a b=0→a=b
 | [],[],_=>rfl
 | [],_::_,h=>by cases h
 | _::_,[],h=>by cases h
 | x::a,y::b,h=>by
   rw [cmp_cons] at h;by_cases h1:x<y
   ·simp [h1] at h
   ·by_cases h2:y<x
    ·simp [h1,h2] at h
    ·simp [h1,h2] at h
     have:x=y:=by
      apply UInt8.toNat_inj.1;rw [UInt8.lt_iff_toNat_lt] at h1 h2;omega
     rw [this,cmp_zero a b h]

theorem cmp_self: ∀ a:List UInt8,Lib.compareBytes a a=0
 | []=>rfl
 | x::a=>by rw [cmp_cons,if_neg (UInt8.lt_irrefl _),if_neg (UInt8.lt_irrefl _)];exact cmp_self a

theorem cmp_trans: ∀ (a b c:List UInt8),Lib.compareBytes a b<0→Lib.compareBytes b c<0→Lib.compareBytes a c<0
 | [],_,[],_,h2=>by
   rename_i b h1
   cases b with
   | nil=>simp [Lib.compareBytes] at h1
   | cons y b=>simp [Lib.compareBytes] at h2
 | [],_,_::_,_,_=>by simp [Lib.compareBytes]
 | x::a,[],_,h1,_=>by simp [Lib.compareBytes] at h1
 | x::a,y::b,[],_,h2=>by simp [Lib.compareBytes] at h2
 | x::a,y::b,z::c,h1,h2=>by
   rw [cmp_cons] at h1 h2 ⊢;simp only [UInt8.lt_iff_toNat_lt] at h1 h2 ⊢;have ih:=cmp_trans a b c;split at h1
   ·split at h2
    ·rw [if_pos (by omega)];decide
    ·split at h2
     ·omega
     ·rw [if_pos (by omega)];decide
   ·split at h1
    ·omega
    ·split at h2
     ·rw [if_pos (by omega)];decide
     ·split at h2
      ·omega
      ·rw [if_neg (by omega),if_neg (by omega)];exact ih h1 h2

theorem ltN_irrefl (a:List UInt8):ltN a a=false:=by unfold ltN;rw [cmp_self];rfl

theorem ltN_trans {a b c:List UInt8} (h1:ltN a b=true) (h2:ltN b c=true):ltN a c=true:=by
 unfold ltN at *;simp at *;exact cmp_trans a b c h1 h2

theorem ltN_asymm {a b:List UInt8} (h:ltN a b=true):ltN b a=false:=by
 cases h2:ltN b a with
 | false=>rfl
 | true=>have:=ltN_trans h h2;rw [ltN_irrefl] at this;cases this

theorem ltN_total (a b:List UInt8):ltN a b=true∨a=b∨ltN b a=true:=by
 have h:=cmp_anti a b;rcases Int.lt_trichotomy (Lib.compareBytes a b) 0 with h1 | h1 | h1
 ·left;unfold ltN;simpa using h1
 ·right;left;exact cmp_zero a b h1
 ·right;right;unfold ltN;simp;omega

theorem leN_trans {a b c:List UInt8} (h1:ltN b a=false) (h2:ltN c b=false):ltN c a=false:=by
 cases h3:ltN c a with
 | false=>rfl
 | true=>
   rcases ltN_total a b with h | h | h
   ·have:=ltN_trans h3 h;rw [h2] at this;cases this
   ·subst h;rw [h3] at h2;cases h2
   ·rw [h1] at h;cases h

def nmAt (M:List Hd) (i:Nat):List UInt8:=(M.getD i ⟨[],[]⟩).name

def Srt (M:List Hd) (b:Nat):Prop:= ∀ p q,p<q→q<b→ltN (nmAt M q) (nmAt M p)=false

def Stab (M0 M:List Hd):Prop:= ∀ x:List UInt8,M.filter (fun h=>h.name==x)=M0.filter (fun h=>h.name==x)

theorem Stab.refl (M:List Hd):Stab M M:=fun _=>rfl

theorem Stab.trans {A B C:List Hd} (h1:Stab A B) (h2:Stab B C):Stab A C:=fun x=>(h2 x).trans (h1 x)

def Ins (M:List Hd) (i j:Nat):Prop:=j≤i∧(∀ p q,p<q→q≤i→p≠j→q≠j→ltN (nmAt M q) (nmAt M p)=false)∧(∀ q,j<q→q≤i→ltN (nmAt M q) (nmAt M j)=false)

theorem Ins.start {M:List Hd} {i:Nat} (h:Srt M i):Ins M i i:=⟨Nat.le_refl _,fun p q h1 h2 _ h4=>h p q h1 (by omega),fun q h1 h2=>by omega⟩

theorem Ins.done {M:List Hd} {i j:Nat} (h:Ins M i j) (hd:j=0∨ltN (nmAt M j) (nmAt M (j - 1))=false):Srt M (i+1):=by
 obtain ⟨h1,h2,h3⟩:=h
 intro p q hpq hq;by_cases e1:p=j
 ·subst e1;exact h3 q hpq (by omega)
 ·by_cases e2:q=j
  ·subst e2
   rcases hd with hd | hd
   ·omega
   ·by_cases e3:p=q - 1
    ·subst e3;exact hd
    ·exact leN_trans (h2 p (q - 1) (by omega) (by omega) e1 (by omega)) hd
  ·exact h2 p q hpq (by omega) e1 e2

end Go.Proofs.YtolioccofbhliaaGreatDoor

namespace Go.Proofs.YtolioccofbhliaaGreatDoor
open Go.RowKit

theorem RowH.cells {w:World} {g:Nat} {M:List Hd} (h:RowH w g M) (i:Nat) (hi:i<M.length):w.cell? ⟨g,i*2,none⟩=some (.string ⟨(M.getD i ⟨[],[]⟩).name.toArray⟩)∧w.cell? ⟨g,i*2+1,none⟩=some (.string ⟨(M.getD i ⟨[],[]⟩).value.toArray⟩):=by
 have e:M.getD i ⟨[],[]⟩=M[i]:=by simp [List.getD,hi]
 have:=cellsH_at M i hi;rw [e,Lib.cell_of_heap h,Lib.cell_of_heap h]
 simpa using this

theorem RowH.kept {w w':World} {g:Nat} {M:List Hd} (h:RowH w g M) (hb:Below w.heap.size w w'):RowH w' g M:=
 (hb.block g (Array.getElem?_eq_some_iff.1 h).1).trans h

theorem RowH.lt {w:World} {g:Nat} {M:List Hd} (h:RowH w g M):g<w.heap.size:=(Array.getElem?_eq_some_iff.1 h).1

end Go.Proofs.YtolioccofbhliaaGreatDoor

namespace Go.Proofs.YtolioccofbhliaaGreatDoor
open Go.RowKit

def lowHd (h:Hd):Hd:=⟨low h.name,h.value⟩

def lowH (L:List Hd):List Hd:=L.map lowHd

end Go.Proofs.YtolioccofbhliaaGreatDoor

namespace Go.Proofs.YtolioccofbhliaaGreatDoor
open Go.RowKit

def scN:List UInt8:=[115,101,116,45,99,111,111,107,105,101]

def Tog (M:List Hd) (k:Nat):Prop:=1≤k∧k≤M.length∧(∀ j,j<k→nmAt M j=nmAt M 0)∧(k=1∨nmAt M 0≠scN)∧(k=M.length∨nmAt M k≠nmAt M 0∨nmAt M 0=scN)

end Go.Proofs.YtolioccofbhliaaGreatDoor

namespace Go.Proofs.YtolioccofbhliaaGreatDoor
open Go.RowKit

inductive Bld : List Hd → List Hd → Prop
 | nil:Bld [] []
 | step {R O:List Hd} (k:Nat) (h:Tog R k) (hO:Bld (R.drop k) O):Bld R (⟨nmAt R 0,getT (R.take k) (nmAt R 0)⟩::O)

def SortsTo (L O:List Hd):Prop:= ∃ M,M.length=L.length∧Stab (lowH L) M∧Srt M M.length∧Bld M O

theorem Stab.mem {A B:List Hd} (h:Stab A B) {x:Hd} (hx:x ∈ B):x ∈ A:=by
 have:x ∈ B.filter (fun y=>y.name==x.name):=List.mem_filter.2 ⟨hx,by simp⟩
 rw [h] at this;exact (List.mem_filter.1 this).1

end Go.Proofs.YtolioccofbhliaaGreatDoor

namespace Go.Proofs.YtolioccofbhliaaGreatDoor
open Go.RowKit

def LeH (x y:Hd):Prop:=ltN y.name x.name=false

theorem ltN_eq {a b:List UInt8} (h1:ltN a b=false) (h2:ltN b a=false):a=b:=by
 rcases ltN_total a b with h | h | h
 ·rw [h1] at h;cases h
 ·exact h
 ·rw [h2] at h;cases h

theorem Srt.pair {M:List Hd} (h:Srt M M.length):M.Pairwise LeH:=by
 rw [List.pairwise_iff_getElem];intro i j hi hj hij;have:=h i j hij hj;unfold nmAt at this;rw [show M.getD j ⟨[],[]⟩=M[j] by simp [List.getD,hj],show M.getD i ⟨[],[]⟩=M[i] by simp [List.getD,hi]] at this;exact this

theorem same_of_stab: ∀ {A B:List Hd},A.Pairwise LeH→B.Pairwise LeH→Stab A B→A=B
 | [],B,_,_,hs=>by
   cases B with
   | nil=>rfl
   | cons b B=>exact absurd (hs.mem List.mem_cons_self) (by simp)
 | a::A,B,ha,hb,hs=>by
   cases B with
   | nil=>
     have:=hs a.name;simp at this
   | cons b B=>
     have h1:b ∈ a::A:=hs.mem List.mem_cons_self;have hs':Stab (b::B) (a::A):=fun x=>(hs x).symm
     have h2:a ∈ b::B:=hs'.mem List.mem_cons_self;have e1:ltN b.name a.name=false:=by
      rcases List.mem_cons.1 h1 with e | e
      ·rw [e];exact ltN_irrefl _
      ·exact (List.pairwise_cons.1 ha).1 b e
     have e2:ltN a.name b.name=false:=by
      rcases List.mem_cons.1 h2 with e | e
      ·rw [e];exact ltN_irrefl _
      ·exact (List.pairwise_cons.1 hb).1 a e
     have en:=ltN_eq e2 e1;have hh:=hs a.name;rw [List.filter_cons_of_pos (by simp [en]),List.filter_cons_of_pos (by simp)] at hh;have eab:b=a:=(List.cons.inj hh).1;subst eab
     congr 1
     refine same_of_stab (List.pairwise_cons.1 ha).2 (List.pairwise_cons.1 hb).2 fun x=> ?_
     have:=hs x;by_cases hx:b.name=x
     ·rw [List.filter_cons_of_pos (by simp [hx]),List.filter_cons_of_pos (by simp [hx])] at this
      exact (List.cons.inj this).2
     ·rw [List.filter_cons_of_neg (by simp [hx]),List.filter_cons_of_neg (by simp [hx])] at this
      exact this

def LtH (x y:Hd):Prop:=ltN y.name x.name=false∧(x.name=y.name→x.name=scN)

structure Told (R O : List Hd) : Prop where
 ordered:O.Pairwise LtH
 named: ∀ x ∈ O,∃ y ∈ R,y.name=x.name
 valued: ∀ x ∈ O,x.name≠scN→x.value=Lib.join ((R.filter (fun y=>y.name==x.name)).map (·.value)) [44,32]
 few:O.length≤R.length
 small: ∀ x ∈ O,x.value.length≤bulkV R

theorem bulkV_app (A B:List Hd):bulkV (A++B)=bulkV A+bulkV B:=by simp [bulkV]

theorem nmAt_get {M:List Hd} {j:Nat} (h:j<M.length):nmAt M j=M[j].name:=by simp [nmAt,List.getD,h]

theorem Bld.told: ∀ {R O:List Hd},Bld R O→R.Pairwise LeH→Told R O:=by
 intro R O h
 induction h with
 | nil=>exact fun _=>⟨.nil,by simp,by simp,Nat.le_refl _,by simp⟩
 | @step R O k h hO ih=>
   intro hp;obtain ⟨hk1,hkl,hall,hk2,hend⟩:=h
   have hsp:R.take k++R.drop k=R:=List.take_append_drop k R;have hp':=hp;rw [← hsp,List.pairwise_append] at hp';obtain ⟨hpt,hpd,hcr⟩:=hp'
   have T:=ih hpd;have h0:0<R.length:=by omega
   have hR0:R[0] ∈ R.take k:=List.mem_take_iff_getElem.2 ⟨0,by omega,rfl⟩
   have hn0:nmAt R 0=R[0].name:=nmAt_get h0;have hck: ∀ z ∈ R.drop k,z.name=nmAt R 0→nmAt R 0=scN:=by
    intro z hz hzn;rcases hend with e | e | e
    ·rw [e,List.drop_length] at hz;cases hz
    ·exfalso
     have hkR:k<R.length:=by
      by_cases q:k<R.length
      ·exact q
      ·rw [List.drop_eq_nil_of_le (by omega)] at hz;cases hz
     have hd:R.drop k=R[k]::R.drop (k+1):=List.drop_eq_getElem_cons hkR;have l1:ltN R[k].name R[0].name=false:=hcr R[0] hR0 R[k] (by rw [hd];exact List.mem_cons_self)
     have l2:ltN z.name R[k].name=false:=by
      rw [hd] at hz hpd;rcases List.mem_cons.1 hz with q | q
      ·rw [q];exact ltN_irrefl _
      ·exact (List.pairwise_cons.1 hpd).1 z q
     rw [hzn,hn0] at l2
     apply e;rw [nmAt_get hkR,hn0];exact ltN_eq l1 l2
    ·exact e
   have hta: ∀ y ∈ R.take k,y.name=nmAt R 0:=by
    intro y hy;obtain ⟨j,hj,rfl⟩:=List.mem_take_iff_getElem.1 hy
    have:=hall j (by omega)
    rw [nmAt_get (by omega)] at this;exact this
   refine ⟨List.pairwise_cons.2 ⟨?_,T.ordered⟩,?_,?_,?_,?_⟩
   ·intro y hy
    obtain ⟨z,hz,hzn⟩:=T.named y hy
    refine ⟨?_,fun e=> ?_⟩
    ·show ltN y.name (nmAt R 0)=false
     rw [← hzn,hn0];exact hcr R[0] hR0 z hz
    ·exact hck z hz (hzn.trans e.symm)
   ·intro x hx
    rcases List.mem_cons.1 hx with e | e
    ·subst e
     exact ⟨R[0],List.getElem_mem _,hn0.symm⟩
    ·obtain ⟨z,hz,hzn⟩:=T.named x e
     exact ⟨z,List.mem_of_mem_drop hz,hzn⟩
   ·intro x hx hne
    rcases List.mem_cons.1 hx with e | e
    ·subst e
     show getT (R.take k) (nmAt R 0)=_;have e1:R.filter (fun y=>y.name==nmAt R 0)=R.take k:=by
      conv=>lhs;rw [← hsp]
      rw [List.filter_append,List.filter_eq_self.2 (fun y hy=>by simp [hta y hy]),List.filter_eq_nil_iff.2,List.append_nil]
      intro z hz q;exact hne (hck z hz (by simpa using q))
     show _=Lib.join ((R.filter (fun y=>y.name==nmAt R 0)).map (·.value)) [44,32]
     rw [e1];unfold getT selV;rw [List.filter_eq_self.2 (fun y hy=>by rw [isN,hta y hy];simp)]
    ·rw [T.valued x e hne]
     congr 2
     conv=>rhs;rw [← hsp]
     have e2:(R.take k).filter (fun y=>y.name==x.name)=[]:=List.filter_eq_nil_iff.2 (by
      intro y hy q;obtain ⟨z,hz,hzn⟩:=T.named x e
      have q':y.name=x.name:=by simpa using q
      have:=hck z hz (by rw [hzn,← q',hta y hy])
      exact hne (by rw [← q',hta y hy,this]))
     rw [List.filter_append,e2,List.nil_append]
   ·have:=T.few
    rw [List.length_drop] at this;simp only [List.length_cons];omega
   ·intro x hx
    rw [← hsp,bulkV_app];rcases List.mem_cons.1 hx with e | e
    ·subst e
     have:=getT_len (R.take k) (nmAt R 0);show (getT (R.take k) (nmAt R 0)).length≤_;omega
    ·have:=T.small x e
     omega

theorem join_one (x:List UInt8) (s:List UInt8):Lib.join [x] s=x:=by simp [Lib.join,List.intercalate]

theorem Bld.same: ∀ {R O:List Hd},Bld R O→R.Pairwise LtH→O=R:=by
 intro R O h
 induction h with
 | nil=>exact fun _=>rfl
 | @step R O k h hO ih=>
   intro hp;obtain ⟨hk1,hkl,hall,hk2,hend⟩:=h
   have h0:0<R.length:=by omega
   have hk:k=1:=by
    rcases hk2 with e | e
    ·exact e
    ·by_cases q:k=1
     ·exact q
     ·exfalso
      have h1:1<R.length:=by omega
      have:=List.pairwise_iff_getElem.1 hp 0 1 h0 h1 (by omega)
      have q2:=hall 1 (by omega)
      rw [nmAt_get h1,nmAt_get h0] at q2;exact e (by rw [nmAt_get h0];exact this.2 q2.symm)
   subst hk
   cases R with
   | nil=>simp at h0
   | cons x R=>
     have:=ih (List.pairwise_cons.1 hp).2;rw [this];show (⟨x.name,getT [x] x.name⟩:Hd)::R=x::R
     have:getT [x] x.name=x.value:=by simp [getT,selV,isN,join_one]
     rw [this]

end Go.Proofs.YtolioccofbhliaaGreatDoor

namespace Go.Proofs.YtolioccofbhliaaGreatDoor
open Go.RowKit

theorem Tog.le {M:List Hd} {k n:Nat} (h:Tog M k) (h':Tog M n):n≤k:=by
 by_cases hl:n≤k
 ·exact hl
 ·exfalso
  obtain ⟨a1,a2,a3,a4,a5⟩:=h
  obtain ⟨b1,b2,b3,b4,b5⟩:=h'
  rcases a5 with e | e | e
  ·omega
  ·exact e (b3 k (by omega))
  ·rcases b4 with q | q
   ·omega
   ·exact q e

theorem Tog.one {M:List Hd} {k n:Nat} (h:Tog M k) (h':Tog M n):k=n:=Nat.le_antisymm (h'.le h) (h.le h')

theorem Bld.one: ∀ {R O:List Hd},Bld R O → ∀ {Q:List Hd},Bld R Q→O=Q:=by
 intro R O h
 induction h with
 | nil=>
   intro Q h'
   cases h' with
   | nil=>rfl
   | step k h _=>obtain ⟨h1,h2,_⟩:=h;simp at h2;omega
 | @step R O k h hO ih=>
   intro Q h'
   cases h' with
   | nil=>obtain ⟨h1,h2,_⟩:=h;simp at h2;omega
   | step n h2 hQ=>
     obtain rfl:=h.one h2;rw [ih hQ]

theorem SortsTo.one {L O Q:List Hd} (h:SortsTo L O) (h':SortsTo L Q):O=Q:=by
 obtain ⟨M,_,hst,hsr,hb⟩:=h
 obtain ⟨M',_,hst',hsr',hb'⟩:=h'
 have:M=M':=same_of_stab hsr.pair hsr'.pair (fun x=>(hst' x).trans (hst x).symm);subst this;exact hb.one hb'

theorem Bld.all: ∀ {R O:List Hd},Bld R O → ∀ y ∈ R,∃ x ∈ O,x.name=y.name:=by
 intro R O h
 induction h with
 | nil=>intro y hy;cases hy
 | @step R O k h hO ih=>
   intro y hy;obtain ⟨hk1,hkl,hall,_,_⟩:=h
   rw [← List.take_append_drop k R,List.mem_append] at hy;rcases hy with hy | hy
   ·obtain ⟨j,hj,rfl⟩:=List.mem_take_iff_getElem.1 hy
    refine ⟨_,List.mem_cons_self,?_⟩
    have:=hall j (by omega)
    rw [nmAt_get (by omega)] at this;exact this.symm
   ·obtain ⟨x,hx,e⟩:=ih y hy
    exact ⟨x,List.mem_cons_of_mem _ hx,e⟩

theorem Bld.cookies: ∀ {R O:List Hd},Bld R O→O.filter (fun x=>x.name==scN)=R.filter (fun x=>x.name==scN):=by
 intro R O h
 induction h with
 | nil=>rfl
 | @step R O k h hO ih=>
   obtain ⟨hk1,hkl,hall,hk2,_⟩:=h
   have h0:0<R.length:=by omega
   by_cases hs:nmAt R 0=scN
   ·have hk:k=1:=by
     rcases hk2 with e | e
     ·exact e
     ·exact absurd hs e
    subst hk
    cases R with
    | nil=>simp at h0
    | cons x R=>
      have hx:x.name=scN:=hs;have e1:getT [x] x.name=x.value:=by simp [getT,selV,isN,join_one]
      show List.filter _ ((⟨x.name,getT [x] x.name⟩:Hd)::O)=_
      rw [e1,List.filter_cons_of_pos (by simp [hx]),List.filter_cons_of_pos (by simp [hx]),ih]
      rfl
   ·rw [List.filter_cons_of_neg (by simpa using hs),ih]
    conv=>rhs;rw [← List.take_append_drop k R]
    have e2:(R.take k).filter (fun x=>x.name==scN)=[]:=List.filter_eq_nil_iff.2 (by
     intro y hy q;obtain ⟨j,hj,rfl⟩:=List.mem_take_iff_getElem.1 hy
     have:=hall j (by omega)
     rw [nmAt_get (by omega)] at this;exact hs (by rw [← this];simpa using q))
    rw [List.filter_append,e2,List.nil_append]

end Go.Proofs.YtolioccofbhliaaGreatDoor

namespace Go.Proofs.YtolioccofbhliaaGreatDoor
open Go.RowKit

def SpI (s:List UInt8) (f i:Nat) (q:Bool):Prop:=f≤i∧i≤s.length∧cutQ false (s.drop f)=(cutQ q (s.drop i)).map (· + (i - f))

theorem SpI.start (s:List UInt8) (f:Nat) (h:f≤s.length):SpI s f f false:=⟨Nat.le_refl _,h,by simp⟩

theorem SpI.last {s:List UInt8} {f:Nat} {q:Bool} (h:SpI s f s.length q):pcs (s.drop f)=[s.drop f]:=by
 obtain ⟨_,_,h3⟩:=h
 rw [List.drop_length] at h3;refine pcs_none _ (h3.trans ?_)
 cases q<;>simp [cutQ]

theorem SpI.comma {s:List UInt8} {f i:Nat} (h:SpI s f i false) (hi:i<s.length) (hc:s[i]=44):pcs (s.drop f)=(s.drop f).take (i - f)::pcs (s.drop (i+1)):=by
 obtain ⟨h1,_,h3⟩:=h
 rw [List.drop_eq_getElem_cons hi,hc,cutQ_comma] at h3;rw [pcs_some _ (i - f) (by rw [h3];simp),List.drop_drop,show f+(i - f+1)=i+1 by omega]

theorem map_add {o:Option Nat} {a b c:Nat} (h:a+b=c):(o.map (· + a)).map (· + b)=o.map (· + c):=by rw [map_map_add,h]

theorem SpI.step {s:List UInt8} {f i d:Nat} {q r:Bool} (h:SpI s f i q) (hd:i+d≤s.length) (hc:cutQ q (s.drop i)=(cutQ r (s.drop (i+d))).map (· + d)):SpI s f (i+d) r:=by
 obtain ⟨h1,h2,h3⟩:=h
 refine ⟨by omega,hd,?_⟩
 rw [h3,hc]
 exact map_add (by omega)

theorem SpI.quote {s:List UInt8} {f i:Nat} {q:Bool} (h:SpI s f i q) (hi:i<s.length) (hc:s[i]=34):SpI s f (i+1) (!q):=by
 refine h.step (by omega) ?_
 rw [List.drop_eq_getElem_cons hi,hc]
 cases q
 ·exact cutQ_open _
 ·exact cutQ_close _

theorem SpI.other {s:List UInt8} {f i:Nat} {q:Bool} (h:SpI s f i q) (hi:i<s.length) (h1:s[i]≠34) (h2:q=false→s[i]≠44) (h3:q=true→s[i]≠92):SpI s f (i+1) q:=by
 refine h.step (by omega) ?_
 rw [List.drop_eq_getElem_cons hi]
 cases q
 ·exact cutQ_other _ _ (h2 rfl) h1
 ·exact cutQ_in _ _ h1 (h3 rfl)

end Go.Proofs.YtolioccofbhliaaGreatDoor
