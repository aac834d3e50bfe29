/-
  Walks and plain facts that this claim leans on, put together out of 19 texts: Xb, Xc, Xd, Xe, Xh, Xi, Xj, Yk, Ym, Yn, Era, Erh, Eri, Ewa, Yrg, Erc, Erd, Ewd, Eye.
-/
import Derived.Test.YtolioccofbhliaaGreatDoorProg
import Derived.Test.YtolioccofbhliaaGreatDoorQp1
import Derived.Test.YtolioccofbhliaaGreatDoorQp2
import Derived.Test.YtolioccofbhliaaGreatDoorQp3
import Derived.Test.YtolioccofbhliaaGreatDoorQp4
import Derived.Test.YtolioccofbhliaaGreatDoorQp5
import Derived.Test.YtolioccofbhliaaGreatDoorQp8
import Derived.Test.YtolioccofbhliaaGreatDoorQp11
import Derived.Test.YtolioccofbhliaaGreatDoorQp13
import Derived.WalkKit
import Derived.Lib.Strings
import Derived.Lib.UnsafeStr
import Derived.Laws.IdiomStrings
import Derived.Laws.AppendOwn
import Derived.Lib.BufferMore
import Derived.Lib.SlTrimSet
import Derived.Lib.Join
import Derived.Lib.IndexMore
import Derived.Laws.OwnMore
import Derived.Below
import Derived.WalkSmall
import Derived.Lib.SmallJoins
import Derived.Laws.BitsAllLaws
import Derived.Lib.Bytealg
import Derived.WalkSpells
import Derived.WalkLawsBesides
import Derived.Deep.QuietTactic
import Derived.BigQuiet
import Derived.Deep.LoopGhost
import Derived.Deep.MidRow
import Derived.Shelf.Strings.Builder1
import Derived.Shelf.Strings.Builder2
import Derived.Shelf.Strings.OnBuilder
import Derived.Shelf.Strings.Trim
import Derived.Shelf.Small.Utf8
import Derived.Shelf.Small.Bits
import Derived.Shelf.Small.Strs
import Derived.Shelf.Small.Wraps
import Derived.Shelf.Strings.BuilderF
import Derived.Shelf.Strings.BuilderK
import Derived.Shelf.Strings.Builder2Cap
import Derived.Shelf.Strconv.Itoa0
import Derived.Shelf.Strconv.Itoa1
import Derived.Shelf.LaysM
import Derived.Shelf.Strconv.Itoa2
import Derived.Shelf.Strconv.Itoa3
import Derived.Shelf.Strings.Search1
import Derived.Shelf.Strings.Search2
import Derived.Shelf.Strings.Cut
import Derived.Shelf.Strings.Shaped
import Derived.Shelf.Sort.Plain
import Derived.Shelf.Strings.Prefix
import Derived.Shelf.Strings.Runes
import Derived.Shelf.Strings.IndexAny
import Derived.Shelf.Strings.AsciiSet
import Derived.Shelf.Strings.IndexAnyAll
import Derived.Shelf.Unicode.DecodeSlow
import Derived.Shelf.Unicode.DecodeAny
import Derived.Shelf.Unicode.DecodeLast
import Derived.Shelf.Slices.CompactS
import Derived.Shelf.Slices.In.SortNone
import Derived.Ground.SlgnProg
import Derived.Shelf.SlicesE.Compact
import Derived.Ground.SlgfProg
import Derived.Shelf.SlicesE.IndexFunc
import Derived.Shelf.SlicesE.DeleteFunc
import Derived.Shelf.Strings.SlTrimAscii
import Derived.Lib.LastIndexByte
import Derived.Lib.IndexAny
import Derived.Lib.Replace
import Derived.Lib.TrimByte
import Derived.Lib.ItoaNum
import Derived.Lib.AppendIntMem
import Derived.WalkMore
import Derived.OwnWalk
import Derived.Laws.CopyOwn
import Derived.Laws.ResultCell
import Derived.Deep.RegionWith
import Derived.Lib.FrozenHead2
import Derived.Lib.OthersKept
import Derived.Lib.Builder
import Derived.LoopN
import Derived.RegionTactic
import Derived.Scope
import Derived.ScopeJumps
import Derived.Laws.RangeAny
import Derived.Lib.DecodeN
import Derived.Laws.BytesString
import Derived.Deep.WholeRow
import Derived.BigRegion
import Derived.Deep.RegionLaw
import Derived.Lib.AppendStr
import Derived.Deep.RegionHeld
import Derived.Lib.BufferRead
import Derived.Lib.RuneBytes
import Derived.Laws.AppendOwnNone
import Derived.Deep.Cut
import Derived.Laws.Runes
set_option linter.unusedSimpArgs false
set_option linter.unusedVariables false

namespace Go.Proofs.YtolioccofbhliaaGreatDoor
def Dec (n:Nat) (T:List UInt8):Prop:=T≠[]∧T.all digP=true∧numI T=(n:Int)∧T.length≤40

theorem Dec.no {n:Nat} {T:List UInt8} (h:Dec n T) (c:UInt8) (hc:digP c=false):c ∉ T:=by
 intro hm;have:=List.all_eq_true.1 h.2.1 c hm;rw [hc] at this
 cases this

theorem Dec.int {n:Nat} {T:List UInt8} (h:Dec n T):bndV T=n∧bndOk T=true:=by
 have e:(T.all digP && !T.isEmpty)=true:=by
  rw [h.2.1];have:=h.1
  cases T with
  | nil=>exact absurd rfl this
  | cons a b=>rfl
 constructor
 ·unfold bndV intV
  rw [if_neg h.1,if_pos e,h.2.2.1]
 ·unfold bndOk intOk
  rw [e];simp

end Go.Proofs.YtolioccofbhliaaGreatDoor

namespace Go.Proofs.YtolioccofbhliaaGreatDoor
open Go.RowKit

def cellsT (L:List (List UInt8)):List Value:=L.map fun x=>Value.string ⟨x.toArray⟩

theorem cellsT_app (a b:List (List UInt8)):cellsT (a++b)=cellsT a++cellsT b:=by simp [cellsT]

theorem cellsT_len (a:List (List UInt8)):(cellsT a).length=a.length:=by simp [cellsT]

theorem cellsT_one (X:ByteArray):cellsT [X.data.toList]=[.string X]:=by
 show [Value.string ⟨X.data.toList.toArray⟩]=_;rw [Lib.mk_data]

def cellsH (L:List Hd):List Value:=L.flatMap fun h=>[.string ⟨h.name.toArray⟩,.string ⟨h.value.toArray⟩]

theorem cellsH_len (a:List Hd):(cellsH a).length=a.length*2:=by
 induction a with
 | nil=>rfl
 | cons h a ih=>simp [cellsH] at ih ⊢;omega

theorem cellsH_at (L:List Hd): ∀ j (h:j<L.length),(cellsH L)[j*2]? = some (.string ⟨L[j].name.toArray⟩)∧(cellsH L)[j*2+1]? = some (.string ⟨L[j].value.toArray⟩):=by
 induction L with
 | nil=>intro j h;simp at h
 | cons a L ih=>
   intro j h;have e:cellsH (a::L)=Value.string ⟨a.name.toArray⟩::Value.string ⟨a.value.toArray⟩::cellsH L:=rfl
   cases j with
   | zero=>rw [e];exact ⟨rfl,rfl⟩
   | succ j=>
     have:=ih j (by simpa using h)
     rw [e,show (j+1)*2=j*2+1+1 by omega]
     simpa using this

def TxL (w:World) (b off:Nat) (L:List (List UInt8)):Prop:= ∀ j (h:j<L.length),w.cell? ⟨b,off+j,none⟩=some (.string ⟨L[j].toArray⟩)

def TxAt (w:World) (v:Value) (L:List (List UInt8)):Prop:=
 ∃ a cap,v = .slice a L.length cap∧L.length≤cap∧cap≤maxLen ∧ ∀ j (hj:j<L.length),∃ b off,a=some ⟨b,off,none⟩∧w.cell? ⟨b,off+j,none⟩=some (.string ⟨L[j].toArray⟩)

theorem TxAt.view {w:World} {v:Value} {L:List (List UInt8)} (h:TxAt w v L): ∃ a cap,v = .slice a L.length cap∧L.length≤cap∧cap≤maxLen ∧ ∀ j (hj:j<L.length),∃ b off,a=some ⟨b,off,none⟩∧w.cell? ⟨b,off+j,none⟩=some (.string ⟨L[j].toArray⟩):=h

theorem tx_of {w:World} {b off cap:Nat} {L:List (List UInt8)} (h1:L.length≤cap) (h2:cap≤maxLen) (h:TxL w b off L):TxAt w (.slice (some ⟨b,off,none⟩) L.length cap) L:=
 ⟨_,cap,rfl,h1,h2,fun j hj=>⟨b,off,rfl,h j hj⟩⟩

theorem tx_nil (w:World):TxAt w (.slice none 0 0) []:=⟨none,0,rfl,Nat.le_refl _,by decide,fun j hj=>by simp at hj⟩

def HdS (w:World) (b off:Nat) (L:List Hd):Prop:=
 ∀ j (h:j<L.length),w.cell? ⟨b,off+j*2,none⟩=some (.string ⟨L[j].name.toArray⟩)∧w.cell? ⟨b,off+j*2+1,none⟩=some (.string ⟨L[j].value.toArray⟩)

def HdAt (w:World) (v:Value) (L:List Hd):Prop:=
 ∃ a cap,v = .slice a L.length cap∧L.length≤cap∧cap≤maxLen ∧ ∀ j (hj:j<L.length),∃ b off,a=some ⟨b,off,none⟩∧w.cell? ⟨b,off+j*2,none⟩=some (.string ⟨L[j].name.toArray⟩)∧w.cell? ⟨b,off+j*2+1,none⟩=some (.string ⟨L[j].value.toArray⟩)

theorem HdAt.view {w:World} {v:Value} {L:List Hd} (h:HdAt w v L): ∃ a cap,v = .slice a L.length cap∧L.length≤cap∧cap≤maxLen ∧ ∀ j (hj:j<L.length),∃ b off,a=some ⟨b,off,none⟩∧w.cell? ⟨b,off+j*2,none⟩=some (.string ⟨L[j].name.toArray⟩)∧w.cell? ⟨b,off+j*2+1,none⟩=some (.string ⟨L[j].value.toArray⟩):=h

theorem hd_of {w:World} {b off cap:Nat} {L:List Hd} (h1:L.length≤cap) (h2:cap≤maxLen) (h:HdS w b off L):HdAt w (.slice (some ⟨b,off,none⟩) L.length cap) L:=
 ⟨_,cap,rfl,h1,h2,fun j hj=>⟨b,off,rfl,h j hj⟩⟩

theorem hd_nil (w:World):HdAt w (.slice none 0 0) []:=⟨none,0,rfl,Nat.le_refl _,by decide,fun j hj=>by simp at hj⟩

theorem HdS.kept {w w':World} {b off:Nat} {L:List Hd} (h:HdS w b off L) (hb:Below w.heap.size w w'):HdS w' b off L:=fun j hj=>by
 have h1:=h j hj;exact ⟨(hb.cell (World.block_lt_of_cell? w _ h1.1)).trans h1.1,(hb.cell (World.block_lt_of_cell? w _ h1.2)).trans h1.2⟩

theorem TxL.kept {w w':World} {b off:Nat} {L:List (List UInt8)} (h:TxL w b off L) (hb:Below w.heap.size w w'):TxL w' b off L:=fun j hj=>by
 have h1:=h j hj;exact (hb.cell (World.block_lt_of_cell? w _ h1)).trans h1

theorem HdAt.kept {w w':World} {v:Value} {L:List Hd} (h:HdAt w v L) (hb:Below w.heap.size w w'):HdAt w' v L:=by
 obtain ⟨a,cap,h1,h2,h3,h4⟩:=h
 refine ⟨a,cap,h1,h2,h3,fun j hj=> ?_⟩
 obtain ⟨b,off,e,c1,c2⟩:=h4 j hj
 exact ⟨b,off,e,(hb.cell (World.block_lt_of_cell? w _ c1)).trans c1,(hb.cell (World.block_lt_of_cell? w _ c2)).trans c2⟩

theorem TxAt.kept {w w':World} {v:Value} {L:List (List UInt8)} (h:TxAt w v L) (hb:Below w.heap.size w w'):TxAt w' v L:=by
 obtain ⟨a,cap,h1,h2,h3,h4⟩:=h
 refine ⟨a,cap,h1,h2,h3,fun j hj=> ?_⟩
 obtain ⟨b,off,e,c1⟩:=h4 j hj
 exact ⟨b,off,e,(hb.cell (World.block_lt_of_cell? w _ c1)).trans c1⟩

theorem own_txt' {w:World} {B:Nat} {e:TypeId} {v:Value} {L:List (List UInt8)} (h:w.ownsRow B e 1 v L.length (cellsT L)):TxAt w v L:=by
 have h2:=h.2;rcases h2 with ⟨hv,hn⟩ | ⟨g,cap,cur,rfl,hg,hrow,hnc,hcm,hcs,htake⟩
 ·obtain rfl:=List.eq_nil_of_length_eq_zero hn
  rw [hv];exact tx_nil w
 ·refine tx_of hnc hcm fun j hj=> ?_
  rw [Nat.zero_add,h.cellAt j (by omega)]
  simp [cellsT,hj]

theorem own_hd {w:World} {B:Nat} {e:TypeId} {v:Value} {L:List Hd} (h:w.ownsRow B e 2 v L.length (cellsH L)):HdAt w v L:=by
 have h2:=h.2;rcases h2 with ⟨hv,hn⟩ | ⟨g,cap,cur,rfl,hg,hrow,hnc,hcm,hcs,htake⟩
 ·obtain rfl:=List.eq_nil_of_length_eq_zero hn
  rw [hv];exact hd_nil w
 ·refine hd_of hnc hcm fun j hj=> ?_
  rw [Nat.zero_add,h.cellAt _ (by omega),h.cellAt _ (by omega)]
  exact cellsH_at L j hj

theorem own_same {w w':World} {B:Nat} {e:TypeId} {k:Nat} {v:Value} {n:Nat} {xs:List Value} (h:w.ownsRow B e k v n xs) (hb:Below w.heap.size w w'):w'.ownsRow B e k v n xs:=by
 rcases h.2 with h' | ⟨g,cap,cur,hv,hg,hrow,rest⟩
 ·exact ⟨h.1,.inl h'⟩
 ·exact ⟨h.1,.inr ⟨g,cap,cur,hv,hg,(hb.block g (Array.getElem?_eq_some_iff.1 hrow).1).trans hrow,rest⟩⟩

theorem xba {a b:ByteArray} (h:a.data.toList=b.data.toList):a=b:=by
 cases a;cases b;simp at h;simp [h]

theorem xself (b:ByteArray):b=⟨b.data.toList.toArray⟩:=xba rfl

theorem xsize (l:List UInt8):(⟨l.toArray⟩:ByteArray).size=l.length:=by simp [ByteArray.size]

end Go.Proofs.YtolioccofbhliaaGreatDoor

namespace Go.Proofs.YtolioccofbhliaaGreatDoor
def Closed (X:List UInt8):Prop:= ∀ r,cutQ false (X++r)=(cutQ false r).map (· + X.length)

def bl2 (c:UInt8):Bool:=[9,32].contains c

def Ends (x:List UInt8):Prop:=x≠[]∧(∀ c,x.head? = some c→bl2 c=false)∧(∀ c,x.getLast? = some c→bl2 c=false)

def Put (s:List UInt8) (W:List (List UInt8)):Prop:=
 ∃ (A v x:List UInt8) (Q:List (List UInt8)),s=A++(v++x)∧(∀ r,(pcs (A++r)).map trimB=Q++(pcs r).map trimB)∧Closed (v++x)∧v.all bl2=true∧Ends x∧W=Q++[x]

end Go.Proofs.YtolioccofbhliaaGreatDoor

namespace Go.Proofs.YtolioccofbhliaaGreatDoor
open Go.RowKit

theorem byteInt (c:UInt8) (n:Nat) (h:n<256):((c.toNat:Int)==(n:Int))=decide (c=UInt8.ofNat n):=by
 have h1:(UInt8.ofNat n).toNat=n:=by simp [UInt8.toNat_ofNat'];omega
 rw [Bool.eq_iff_iff];simp only [beq_iff_eq,decide_eq_true_eq]
 constructor
 ·intro e;exact UInt8.toNat_inj.1 (by rw [h1];omega)
 ·intro e;rw [e,h1]

theorem byteNe {c:UInt8} {n:Nat} (h:n<256) (e:c≠UInt8.ofNat n):((c.toNat:Int)==(n:Int))=false:=by
 rw [byteInt c n h];simpa using e

set_option maxHeartbeats 1000000 in
theorem closing_any (s:ByteArray) (i:Nat) (w:World) (hs:s.size≤140737488351232) (hi:i<s.size):
 Calls Tryz.prog 183 #[.string s,.int .i64 i] w fun e w'=>e = .returned (.int .i64 ((i+1+clos (s.data.toList.drop (i+1)):Nat):Int))∧w=w':=by
 go_enter Tryz.func183,Tryz.ntmps183
 go_wp2
 go_loop [1] (fun v=> ∃ k:Nat,k≤s.size+1∧v = .int .i64 k∧k+clos (s.data.toList.drop k)=i+1+clos (s.data.toList.drop (i+1))) (fun v=>s.size+2 - (intOf v).toNat)
 case atStart=>exact ⟨i+1,by omega,by go_num,rfl⟩
 case round=>
  obtain ⟨k,hk,rfl,hc⟩:=hrel
  have HC:=hid hc;clear hc;by_cases hlt:k<s.size
  ·have hlt':(k:Int)<(s.size:Int):=by omega
   have HD:=hid (drop_cons s k hlt);by_cases h1:s[k]=34
   ·have h1':(s[k].toNat:Int)=34:=by rw [h1];rfl
    have HR:=hid (show k=i+1+clos (s.data.toList.drop (i+1)) by have:=HC.out;rw [HD.out,h1,clos_quote] at this;omega);clear h1
    go_wp2
    go_ret
    exact ⟨ret_int (by have:=HR.out;omega),rfl⟩
   ·have h1':((s[k].toNat:Int)==34)=false:=byteNe (n:=34) (by omega) h1
    by_cases h2:s[k]=92
    ·have h2':(s[k].toNat:Int)=92:=by rw [h2];rfl
     have HR:=hid (show k+2+clos (s.data.toList.drop (k+2))=i+1+clos (s.data.toList.drop (i+1)) by
      have:=HC.out;rw [HD.out,h2,clos_back,List.drop_drop] at this
      rw [show k+1+1=k+2 by omega] at this;omega)
     clear h1 h2
     go_wp2
     go_round
     case rel=>
      exact ⟨k+2,by omega,by go_num,HR.out⟩
     case measure=>simp [intOf];omega
    ·have h2':((s[k].toNat:Int)==92)=false:=byteNe (n:=92) (by omega) h2
     have HR:=hid (show k+1+clos (s.data.toList.drop (k+1))=i+1+clos (s.data.toList.drop (i+1)) by
      have:=HC.out;rw [HD.out,clos_other _ _ h1 h2] at this;omega)
     clear h1 h2
     go_wp2
     go_round
     case rel=>
      exact ⟨k+1,by omega,by go_num,HR.out⟩
     case measure=>simp [intOf];omega
  ·have hlt':decide ((k:Int)<(s.size:Int))=false:=by rw [decide_eq_false_iff_not];omega
   have HR:=hid (show k=i+1+clos (s.data.toList.drop (i+1)) by
    have:=HC.out;rw [List.drop_eq_nil_of_le (by simp;omega)] at this;simp [clos] at this;omega)
   go_wp2
   go_ret
   exact ⟨ret_int (by have:=HR.out;omega),rfl⟩

theorem clos_le: ∀ (n:Nat) (l:List UInt8),l.length≤n→clos l≤l.length+1:=by
 intro n
 induction n with
 | zero=>
   intro l hl;have:l=[]:=List.eq_nil_of_length_eq_zero (by omega)
   subst this;simp [clos]
 | succ n ih=>
   intro l hl
   cases l with
   | nil=>simp [clos]
   | cons c r=>
     simp at hl;by_cases h1:c=34
     ·subst h1;rw [clos_quote];simp
     ·by_cases h2:c=92
      ·subst h2
       rw [clos_back];have:=ih (r.drop 1) (by simp;omega)
       cases r with
       | nil=>simp [clos]
       | cons d r=>simp at this ⊢;omega
      ·rw [clos_other c r h1 h2]
       have:=ih r (by omega)
       simp;omega

def cutA (l:List UInt8):List UInt8:=match cutQ false l with | none=>l | some k=>l.take k

def cutR (l:List UInt8):List UInt8:=match cutQ false l with | none=>[] | some k=>l.drop (k+1)

def cutB (l:List UInt8):Bool:=(cutQ false l).isSome

theorem xret_ssb {a b c d:ByteArray} {x y:Bool} (h:a=b) (h2:c=d) (g:x=y):Ending.returned (.tuple #[.string a,.string c,.bool x]) = .returned (.tuple #[.string b,.string d,.bool y]):=by rw [h,h2,g]

theorem xext {a:ByteArray} {l:List UInt8} (h:a.data.toList=l):a=⟨l.toArray⟩:=xba h

set_option maxHeartbeats 1000000 in
theorem cutPiece_any (s:ByteArray) (w:World) (hs:s.size≤140737488351232):
 Calls Tryz.prog 148 #[.string s] w fun e w'=>e = .returned (.tuple #[.string ⟨(cutA s.data.toList).toArray⟩,.string ⟨(cutR s.data.toList).toArray⟩,.bool (cutB s.data.toList)])∧Below w.heap.size w w':=by
 go_enter Tryz.func148,Tryz.ntmps148
 go_wp2
 go_loop [5] (fun v=> ∃ k:Nat,k≤s.size+2∧v = .int .i64 k∧cutQ false s.data.toList=(cutQ false (s.data.toList.drop k)).map (· + k)) (fun v=>s.size+3 - (intOf v).toNat)
 case atStart=>exact ⟨0,by omega,by go_num,by simp⟩
 case round=>
  obtain ⟨k,hk,rfl,hc⟩:=hrel
  have HC:=hid hc;clear hc;by_cases hlt:k<s.size
  ·have hlt':(k:Int)<(s.size:Int):=by omega
   have HD:=hid (drop_cons s k hlt);by_cases h1:s[k]=44
   ·have h1':(s[k].toNat:Int)=44:=by rw [h1];rfl
    have HR:=hid (show cutQ false s.data.toList=some k by have:=HC.out;rw [HD.out,h1,cutQ_comma] at this;simpa using this);have hk0:(0:Int)≤(k:Int):=by omega
    have hk1:(k:Int)≤(s.size:Int):=by omega
    have hk2:(k:Int)+1≤(s.size:Int):=by omega
    clear h1
    go_wp2
    go_quiet (fail)
    go_wp2
    go_ret3
    refine ⟨xret_ssb (xext ?_) (xext ?_) ?_,Go.below_drewN (Below.refl _ _) _⟩
    ·rw [cutA,HR.out,Lib.extract_data];simp
    ·rw [cutR,HR.out];exact extract_drop s (k+1)
    ·rw [cutB,HR.out];rfl
   ·have h1':((s[k].toNat:Int)==44)=false:=byteNe (n:=44) (by omega) h1
    by_cases h2:s[k]=34
    ·have h2':(s[k].toNat:Int)=34:=by rw [h2];rfl
     have hcl:clos (s.data.toList.drop (k+1))+(k+1)≤s.size+1:=by have:=clos_le _ (s.data.toList.drop (k+1)) (Nat.le_refl _);simp at this;omega
     have HR:=hid (show cutQ false s.data.toList=(cutQ false (s.data.toList.drop (k+1+clos (s.data.toList.drop (k+1))+1))).map (· + (k+1+clos (s.data.toList.drop (k+1))+1)) by
      have:=HC.out;rw [HD.out,h2,cutQ_false_open,map_map_add,List.drop_drop] at this
      rw [this,show k+1+(clos (s.data.toList.drop (k+1))+1)=k+1+clos (s.data.toList.drop (k+1))+1 by omega,show clos (s.data.toList.drop (k+1))+2+k=k+1+clos (s.data.toList.drop (k+1))+1 by omega])
     clear h1 h2;obtain ⟨q,hq⟩: ∃ q,q=clos (s.data.toList.drop (k+1)):=⟨_,rfl⟩
     rw [← hq] at hcl HR;have HQ:=hid hq;clear hq
     go_wp2_with (go_at_call 183;refine (closing_any s k _ hs hlt).mono ?_;rintro e w' ⟨rfl,rfl⟩;rw [← HQ.out])
     go_round
     case rel=>
      exact ⟨k+1+q+1,by omega,by go_num,HR.out⟩
     case measure=>simp [intOf];omega
    ·have h2':((s[k].toNat:Int)==34)=false:=byteNe (n:=34) (by omega) h2
     have HR:=hid (show cutQ false s.data.toList=(cutQ false (s.data.toList.drop (k+1))).map (· + (k+1)) by
      have:=HC.out;rw [HD.out,cutQ_other _ _ h1 h2,map_map_add] at this
      rw [this,Nat.add_comm 1 k])
     clear h1 h2
     go_wp2
     go_round
     case rel=>
      exact ⟨k+1,by omega,by go_num,HR.out⟩
     case measure=>simp [intOf];omega
  ·have hlt': ¬ (k:Int)<(s.size:Int):=by omega
   have HR:=hid (show cutQ false s.data.toList=none by
    have:=HC.out;rw [List.drop_eq_nil_of_le (by simp;omega)] at this;simpa [cutQ] using this)
   go_wp2
   go_ret3
   refine ⟨xret_ssb (xext ?_) (xext ?_) ?_,Below.refl _ _⟩
   ·rw [cutA,HR.out]
   ·rw [cutR,HR.out]
   ·rw [cutB,HR.out];rfl

end Go.Proofs.YtolioccofbhliaaGreatDoor

namespace Go.Proofs.YtolioccofbhliaaGreatDoor
open Go.RowKit

theorem list_eq_of {α:Type} {A B:List α} (hl:A.length=B.length) (h: ∀ j (h1:j<A.length) (h2:j<B.length),A[j]=B[j]):A=B:=
 List.ext_getElem hl fun j h1 h2=>h j h1 h2

set_option maxHeartbeats 2000000 in
theorem sameT_any (v1 v2:Value) (L1 L2:List (List UInt8)) (w:World) (h1:TxAt w v1 L1) (h2:TxAt w v2 L2) (hl1:L1.length≤1000000) (hl2:L2.length≤1000000):
 Calls Tryz.prog 24 #[v1,v2] w fun e w'=>e = .returned (.bool (decide (L1=L2)))∧Below w.heap.size w w':=by
 obtain ⟨a1,c1,rfl,hc1,hm1,hv1⟩:=h1.view
 obtain ⟨a2,c2,rfl,hc2,hm2,hv2⟩:=h2.view
 have H1:=hid h1;have H2:=hid h2;have V1:=hid hv1;have V2:=hid hv2;clear h1 h2 hv1 hv2;by_cases hl:L1.length=L2.length
 ·have hl':((L1.length:Int)==(L2.length:Int))=true:=by rw [beq_iff_eq];omega
  go_enter Tryz.func24,Tryz.ntmps24
  go_wp2
  go_loopw [5] (fun i wr=> ∃ k:Nat,k≤L1.length∧i = .int .i64 k∧(∀ j (h1:j<L1.length) (h2:j<L2.length),j<k→L1[j]=L2[j])∧Below w.heap.size w wr) (fun i _=>L1.length - (intOf i).toNat)
  case atStart=>exact ⟨0,Nat.zero_le _,rfl,fun j _ _ h=>absurd h (by omega),Below.refl _ _⟩
  case round=>
   obtain ⟨k,hk,rfl,hall,hb⟩:=hrel
   have HA:=hid hall;clear hall;by_cases hlt:k<L1.length
   ·have hlt':(k:Int)<(L1.length:Int):=by omega
    have hlt2':(k:Int)<(L2.length:Int):=by omega
    obtain ⟨b1,o1,rfl,e1⟩:=V1.out k hlt
    obtain ⟨b2,o2,rfl,e2⟩:=V2.out k (by omega)
    have f1:wr.cell? ⟨b1,o1+k,none⟩=some (.string ⟨L1[k].toArray⟩):=(hb.cell (World.block_lt_of_cell? w _ e1)).trans e1
    have f2:wr.cell? ⟨b2,o2+k,none⟩=some (.string ⟨(L2[k]'(by omega)).toArray⟩):=(hb.cell (World.block_lt_of_cell? w _ e2)).trans e2
    clear e1 e2;obtain ⟨x,hx⟩: ∃ x,x=L1[k]:=⟨_,rfl⟩
    obtain ⟨y,hy⟩: ∃ y,y=L2[k]'(by omega):=⟨_,rfl⟩
    rw [← hx] at f1;rw [← hy] at f2;have HX:=hid hx;have HY:=hid hy;clear hx hy;by_cases hxy:x=y
    ·subst hxy
     go_wp2
     go_quiet (fail)
     go_wp2
     go_roundw
     case rel=>
      refine ⟨k+1,by omega,by go_num,fun j h1 h2 hj=> ?_,Go.below_drewN hb _⟩;by_cases he:j=k
      ·subst he;rw [← HX.out,← HY.out]
      ·exact HA.out j h1 h2 (by omega)
     case measure=>simp [intOf];omega
    ·have hne:(x==y)=false:=by simpa using hxy
     have HN:=hid (show ¬ L1=L2 from fun e=>hxy (by rw [HX.out,HY.out];subst e;rfl))
     go_wp2
     go_quiet (fail)
     go_wp2
     go_ret
     exact ⟨ret_bool (by simp [HN.out]),Go.below_drewN hb _⟩
   ·have HE:=hid (show L1=L2 from list_eq_of hl fun j h1 h2=>HA.out j h1 h2 (by omega))
    go_wp2
    go_ret
    exact ⟨ret_bool (by simp [HE.out]),hb⟩
 ·have hl':((L1.length:Int)==(L2.length:Int))=false:=by rw [beq_eq_false_iff_ne];omega
  have HN:=hid (show ¬ L1=L2 from fun e=>hl (by rw [e]))
  go_enter Tryz.func24,Tryz.ntmps24
  go_wp2
  go_ret
  exact ⟨ret_bool (by simp [HN.out]),Below.refl _ _⟩

end Go.Proofs.YtolioccofbhliaaGreatDoor

namespace Go.Proofs.YtolioccofbhliaaGreatDoor
open Go.RowKit

def hdVal (n v:ByteArray):Value:= .agg #[.string n,.string v]

theorem infoTx:(Tryz.prog.info? 9).map (fun i=>(i.zero,i.size,i.bytes))=some (some (.string ByteArray.empty),1,16):=by kernel_rfl

theorem info3 {i:Option TypeInfo} {z:Value} {a b:Nat} (h:i.map (fun i=>(i.zero,i.size,i.bytes))=some (some z,a,b)): ∃ j,i=some j∧j.zero=some z∧j.size=a∧j.bytes=b:=by
 cases i with
 | none=>cases h
 | some j=>
   simp at h;exact ⟨j,rfl,h.1,h.2.1,h.2.2⟩

theorem results_h1 {fn:Func} {p:Tmp} (h:fn.results = #[.cell p 45]) (tmps:Array Value) (w:World) (b:Nat) (n v:ByteArray) (hp:tmps.getD p undef = .pointer (some ⟨b,0,none⟩)) (hc:w.rangeAt b 0 [.string n,.string v]):(results fn tmps).run Tryz.prog w = .ok (hdVal n v) w:=by
 rw [Array.getD_eq_getD_getElem?] at hp;simp only [results,h]
 simp [Sem.run_bind,Result.andThen,hp,asAddr,run_loadVar_mid w b 0 45 [.string n,.string v] _ hc Tryz.underlying45 rfl (by kernel_rfl),hdVal]

end Go.Proofs.YtolioccofbhliaaGreatDoor

namespace Go.Proofs.YtolioccofbhliaaGreatDoor
open Go.RowKit

def G5 (w:World):Prop:= ∃ m,w.cell? ⟨1,0,none⟩=some (.int .i64 m)

theorem G5.kept {w w':World} (h:G5 w) (hb:Below w.heap.size w w'):G5 w':=by
 obtain ⟨m,hm⟩:=h
 exact ⟨m,(hb.cell (World.block_lt_of_cell? w _ hm)).trans hm⟩

theorem trim5_any (s c:ByteArray) (w:World) (hs:s.size≤9223372036854775807) (hc:c.size<4294967281) (ha:c.data.toList.all (fun b=>decide (b.toNat<128))=true):
 Calls Tryz.prog 149 #[.string s,.string c] w fun e w'=>e = .returned (.string ⟨(Lib.trimS s.data.toList c.data.toList).toArray⟩)∧Below w.heap.size w w':=
 Any.strings_Trim_laid Tryz.lays160 (by kernel_rfl) s c w hs hc (ascii_of_all ha)

theorem trimB_any (s:ByteArray) (w:World) (hs:s.size≤9223372036854775807):
 Calls Tryz.prog 149 #[.string s,.string ⟨#[9,32]⟩] w fun e w'=>e = .returned (.string ⟨(trimB s.data.toList).toArray⟩)∧Below w.heap.size w w':=
 trim5_any s ⟨#[9,32]⟩ w hs (by decide) (by decide)

theorem join5_any (v:Value) (L:List (List UInt8)) (sep:ByteArray) (w:World) (h:TxAt w v L) (hl:L.length≤140737488355328) (hf:(Lib.join L sep.data.toList).length≤140737488355328):
 Calls Tryz.prog 87 #[v,.string sep] w fun e w'=>e = .returned (.string ⟨(Lib.join L sep.data.toList).toArray⟩)∧Below w.heap.size w w':=by
 obtain ⟨a,cap,rfl,h3,h4,h5⟩:=h
 by_cases h0:L=[]
 ·subst h0
  refine (Tryz.strings_Join_none a cap sep w).mono ?_;rintro e w' ⟨rfl,rfl⟩
  exact ⟨rfl,Below.refl _ _⟩
 ·have hl0:0<L.length:=List.length_pos_iff.2 h0
  obtain ⟨b,off,rfl,c0⟩:=h5 0 hl0
  have h2:b<w.heap.size:=World.block_lt_of_cell? w _ c0;have e1:(L.map fun x=>(⟨x.toArray⟩:ByteArray)).map (·.data.toList)=L:=by
   rw [List.map_map];exact List.map_id L
  have hj:=Tryz.strings_Join b off cap (L.map fun x=>(⟨x.toArray⟩:ByteArray)) sep w ?_ h2 (by simp;omega) (by simp;omega) ?_
  ·rw [e1,List.length_map] at hj
   exact hj
  ·intro j x hx
   rw [List.getElem?_map] at hx;obtain ⟨y,hy,rfl⟩:=Option.map_eq_some_iff.1 hx
   obtain ⟨hj,e⟩:=List.getElem?_eq_some_iff.1 hy
   obtain ⟨b',off',e',c'⟩:=h5 j hj
   cases e'
   rw [c',e]
  ·rw [e1];omega

def bulkV (L:List Hd):Nat:=(L.map fun h=>h.value.length+2).sum

theorem join_len (L:List (List UInt8)) (sep:List UInt8):(Lib.join L sep).length≤(L.map fun x=>x.length+sep.length).sum:=by
 unfold Lib.join
 induction L with
 | nil=>simp
 | cons x r ih=>
   cases r with
   | nil=>simp [List.intercalate]
   | cons y r=>simp [List.intercalate] at ih ⊢;omega

theorem selV_len (L:List Hd) (n:List UInt8):(selV L n).length≤L.length:=by
 unfold selV;simp [List.length_filter_le]

theorem getT_len (L:List Hd) (n:List UInt8):(getT L n).length≤bulkV L:=by
 refine Nat.le_trans (join_len _ _) ?_;unfold selV bulkV;rw [List.map_map]
 induction L with
 | nil=>simp
 | cons h L ih=>
   by_cases hh:isN n h=true
   ·simp [List.filter_cons,hh] at ih ⊢;omega
   ·simp [List.filter_cons,hh] at ih ⊢;omega

def Szd (n:Nat) (L:List Hd):Prop:= ∀ h ∈ L,h.name.length≤n∧h.value.length≤n

theorem strNe {M N:ByteArray} (h: ¬ M=N):(M.toList==N.toList)=false:=by
 rw [Lib.toList_data,Lib.toList_data]
 rw [beq_eq_false_iff_ne];exact fun e=>h (xba e)

theorem xret_sb {a b:ByteArray} {x y:Bool} (h:a=b) (g:x=y):Ending.returned (.tuple #[.string a,.bool x]) = .returned (.tuple #[.string b,.bool y]):=by rw [h,g]

set_option maxHeartbeats 2000000 in
set_option maxRecDepth 100000 in
theorem get_any (v:Value) (L:List Hd) (n:ByteArray) (w:World) (h:HdAt w v L) (hs:n.size≤140737488351232) (hz:Szd 140737488351232 L) (hl:L.length≤1000000) (hb:bulkV L≤140737488355328):
 Calls Tryz.prog 117 #[v,.string n] w fun e w'=>e = .returned (.tuple #[.string ⟨(getT L n.data.toList).toArray⟩,.bool (getB L n.data.toList)])∧Below w.heap.size w w':=by
 obtain ⟨a1,c1,rfl,hc1,hm1,hv1⟩:=h.view
 have V1:=hid hv1;clear h hv1;obtain ⟨i0,hi,hz0,hz1,hz2⟩:=info3 infoTx
 have HZ:=hid hz;have HB:=hid hb;clear hz hb;obtain ⟨N,hN⟩: ∃ N:ByteArray,N=⟨(low n.data.toList).toArray⟩:=⟨_,rfl⟩
 have HN:=hid (show N.data.toList=low n.data.toList by rw [hN]);have HNe:=hid hN;clear hN
 go_enter Tryz.func117,Tryz.ntmps117
 go_wp2_with (go_at_call 99;refine (lower_any n _ hs).mono ?_)
 rintro e w0 ⟨rfl,hb0⟩
 rw [← HNe.out]
 go_wp2
 go_loopw [6,8,13] (fun vv x i wr=> ∃ k:Nat,k≤L.length∧i = .int .i64 k∧wr.ownsRow w.heap.size 9 1 vv (selV (L.take k) n.data.toList).length (cellsT (selV (L.take k) n.data.toList))∧Below w.heap.size w wr)
  (fun _ _ i _=>L.length - (intOf i).toNat)
 case atStart=>exact ⟨0,Nat.zero_le _,rfl,World.ownsRow_nil _ _ _ _,hb0⟩
 case round=>
  obtain ⟨k,hk,rfl,hown,hbw⟩:=hrel
  have HO:=hid hown;have hwr:=hbw.size;clear hown;by_cases hlt:k<L.length
  ·have hlt':(k:Int)<(L.length:Int):=by omega
   obtain ⟨b1,o1,rfl,e1,e2⟩:=V1.out k hlt
   have f1:wr.cell? ⟨b1,o1+k*2,none⟩=some (.string ⟨L[k].name.toArray⟩):=(hbw.cell (World.block_lt_of_cell? w _ e1)).trans e1
   have f2:wr.cell? ⟨b1,o1+k*2+1,none⟩=some (.string ⟨L[k].value.toArray⟩):=(hbw.cell (World.block_lt_of_cell? w _ e2)).trans e2
   clear e1 e2;obtain ⟨nm,hnm⟩: ∃ x:ByteArray,x=⟨L[k].name.toArray⟩:=⟨_,rfl⟩
   obtain ⟨vl,hvl⟩: ∃ x:ByteArray,x=⟨L[k].value.toArray⟩:=⟨_,rfl⟩
   rw [← hnm] at f1;rw [← hvl] at f2;have hsz:nm.size≤140737488351232:=by rw [hnm,xsize];exact (HZ.out _ (List.getElem_mem hlt)).1
   have HV:=hid hvl;have HM:=hid hnm;clear hnm hvl;have HT:=hid (show L.take (k+1)=L.take k++[L[k]] by rw [List.take_add_one,List.getElem?_eq_getElem hlt];rfl);obtain ⟨M,hM⟩: ∃ x:ByteArray,x=⟨(low nm.data.toList).toArray⟩:=⟨_,rfl⟩
   have HMe:=hid hM;clear hM
   go_wp2_with fail
   refine (lower_any nm _ hsz).mono ?_;rintro e w1 ⟨rfl,hb1⟩
   rw [← HMe.out];have hbw1:=(hbw.alloc hwr (.cells #[.string nm,.string vl] 45)).trans (hb1.mono (by simp;omega));have g2:w1.cell? ⟨wr.heap.size,1,none⟩=some (.string vl):=(hb1.cell (p:=⟨wr.heap.size,1,none⟩) (by simp)).trans (by simp [go_sem])
   have HO1:=hid (own_same (HO.out.alloc (.cells #[.string nm,.string vl] 45)) hb1);have hw1:=hbw1.size;by_cases hmn:M=N
   ·subst hmn
    have HS:=hid (show selV (L.take (k+1)) n.data.toList=selV (L.take k) n.data.toList++[vl.data.toList] by
     rw [HT.out,selV_snoc,if_pos,HV.out]
     rw [isN,beq_iff_eq,← HN.out,HMe.out,HM.out])
    go_wp2_with (at_builtin;go_must (refine wpList_append_own _ rfl _ _ 50 rfl w.heap.size 9 i0 (.string ByteArray.empty) 1 16 Tryz.underlying50 hi hz0 hz1 hz2 rfl (by decide) _ _ _ rfl (HO1.out.alloc _) ⟨w1.heap.size,0,none⟩ 1 1 [.string vl] rfl rfl ?c1 ?c2 ?c3 ?c4 ?c5 ?_))
    case c1=>
     intro q u hq
     match q,hq with
     | 0,hq=>simp at hq;subst hq;simp [Addr.add]
    case c2=>intro u hu;simp at hu;subst hu;rfl
    case c3=>have:=selV_len (L.take k) n.data.toList;simp at this;unfold maxLen;omega
    case c4=>have:=selV_len (L.take k) n.data.toList;simp at this;omega
    case c5=>simp;omega
    intro v' w2 hown' hgrow hnil;have HO2:=hid hown';have HB2:=hid (show Below w.heap.size w w2 from (hbw1.alloc hw1 _).grown hgrow (by simp;omega) (fun g hg=>(HO1.out.lt g hg).1));clear hown' hgrow hnil
    go_wp2
    go_roundw
    case rel=>
     refine ⟨k+1,by omega,by go_num,?_,HB2.out⟩;rw [HS.out,cellsT_app,cellsT_one,List.length_append]
     exact HO2.out
    case measure=>simp [intOf];omega
   ·have hne:=strNe hmn
    have HS:=hid (show selV (L.take (k+1)) n.data.toList=selV (L.take k) n.data.toList by
     rw [HT.out,selV_snoc,if_neg,List.append_nil]
     rw [isN,beq_iff_eq,← HN.out]
     intro e;exact hmn (xba (by rw [← e,HMe.out,HM.out])))
    clear hmn
    go_wp2
    go_roundw
    case rel=>
     refine ⟨k+1,by omega,by go_num,?_,hbw1⟩;rw [HS.out];exact HO1.out
    case measure=>simp [intOf];omega
  ·have hke:k=L.length:=by omega
   subst hke;have HT:=hid (show selV (L.take L.length) n.data.toList=selV L n.data.toList by rw [List.take_length]);have hown:=HO.out;rw [HT.out] at hown;have hta:=own_txt' hown;obtain ⟨q,hq⟩: ∃ q,q=selV L n.data.toList:=⟨_,rfl⟩
   have HQ:=hid hq;rw [← hq] at hown hta;have hql:q.length≤L.length:=by rw [hq];exact selV_len _ _
   obtain ⟨a2,c2,rfl,_,_,_⟩:=hta.view
   have HA:=hid hta;clear hown hta hq HT HO;have hjl:(Lib.join q [44,32]).length≤140737488355328:=by
    have h1:=getT_len L n.data.toList;rw [getT,← HQ.out] at h1
    exact Nat.le_trans h1 HB.out
   have HJ:=hid (join5_any _ q ⟨#[44,32]⟩ wr HA.out (by omega) hjl);clear hjl
   go_wp2_with fail
   refine HJ.out.mono ?_;rintro e w3 ⟨rfl,hb3⟩
   go_wp2
   go_ret2
   refine ⟨xret_sb (xext ?_) ?_,hbw.trans (hb3.mono hwr)⟩
   ·rw [getT,← HQ.out]
   ·rw [getB,← HQ.out]
    cases q with
    | nil=>rfl
    | cons x y=>simp

end Go.Proofs.YtolioccofbhliaaGreatDoor

namespace Go.Proofs.YtolioccofbhliaaGreatDoor
def paC (c:UInt8):Bool:=decide (33≤c.toNat)&&(c != 35&&(c != 63&&c != 92))

def hnC (c:UInt8):Bool:=(decide (97≤c.toNat)&&decide (c.toNat≤122))||((decide (65≤c.toNat)&&decide (c.toNat≤90))||((decide (48≤c.toNat)&&decide (c.toNat≤57))||c==46))

end Go.Proofs.YtolioccofbhliaaGreatDoor

namespace Go.Proofs.YtolioccofbhliaaGreatDoor
def WrQ (T:List UInt8):Prop:= ∃ r:List UInt8,T=113::r ∧ ∀ c ∈ r,97≤c.toNat∧c.toNat≤122

theorem WrQ.mem {T:List UInt8} (h:WrQ T): ∀ c ∈ T,97≤c.toNat∧c.toNat≤122:=fun c hc=>by
 obtain ⟨r,rfl,hr⟩:=h
 rcases List.mem_cons.1 hc with rfl | hc
 ·decide
 ·exact hr c hc

theorem WrQ.start:WrQ [113]:=⟨[],rfl,fun c hc=>by simp at hc⟩

theorem small_facts (c:UInt8) (h:97≤c.toNat∧c.toNat≤122):lowC c=c∧hnC c=true∧c≠46∧c≠47∧c≠58∧c≠37∧paC c=true∧inSetI c.toNat 5=false∧c≠42∧c≠39:=by
 have key: ∀ n<256,(97≤n∧n≤122)→lowC (UInt8.ofNat n)=UInt8.ofNat n∧hnC (UInt8.ofNat n)=true∧UInt8.ofNat n≠46∧UInt8.ofNat n≠47∧UInt8.ofNat n≠58∧UInt8.ofNat n≠37∧paC (UInt8.ofNat n)=true∧inSetI n 5=false∧UInt8.ofNat n≠42∧UInt8.ofNat n≠39:=by decide +kernel
 have e:UInt8.ofNat c.toNat=c:=by simp
 have:=key c.toNat c.toNat_lt h;rw [e] at this;exact this

theorem WrQ.low {T:List UInt8} (h:WrQ T):low T=T:=low_plain _ fun c hc=>(small_facts c (h.mem c hc)).1

end Go.Proofs.YtolioccofbhliaaGreatDoor

namespace Go.Proofs.YtolioccofbhliaaGreatDoor
def Lets (T:List UInt8):Prop:=T≠[] ∧ ∀ c ∈ T,97≤c.toNat∧c.toNat≤122

theorem Lets.no {T:List UInt8} (h:Lets T):47 ∉ T∧58 ∉ T∧37 ∉ T:=⟨fun e=>(small_facts 47 (h.2 47 e)).2.2.2.1 rfl,fun e=>(small_facts 58 (h.2 58 e)).2.2.2.2.1 rfl,fun e=>(small_facts 37 (h.2 37 e)).2.2.2.2.2.1 rfl⟩

theorem Lets.unpct {T:List UInt8} (h:Lets T):unpct T=T:=unpct_plain T h.no.2.2

theorem Lets.pct {T:List UInt8} (h:Lets T):pct 5 T=T:=by
 have key: ∀ l:List UInt8,(∀ c ∈ l,97≤c.toNat∧c.toNat≤122)→Go.Proofs.YtolioccofbhliaaGreatDoor.pct 5 l=l:=by
  intro l
  induction l with
  | nil=>intro _;rfl
  | cons c l ih=>
    intro hl;unfold Go.Proofs.YtolioccofbhliaaGreatDoor.pct at ih ⊢;rw [List.flatMap_cons,ih fun d hd=>hl d (by simp [hd])]
    unfold pct1;rw [(small_facts c (hl c (by simp))).2.2.2.2.2.2.2.1];rfl
 exact key T h.2

theorem Lets.dots {T:List UInt8} (h:Lets T):dotsV T=0:=by
 unfold dotsV;rw [h.unpct];have h46:46 ∉ T:=fun e=>(small_facts 46 (h.2 46 e)).2.2.1 rfl
 rw [if_neg (fun e=>h46 (by rw [e];simp)),if_neg (fun e=>h46 (by rw [e];simp))]

end Go.Proofs.YtolioccofbhliaaGreatDoor

namespace Go.Proofs.YtolioccofbhliaaGreatDoor
def pbC (c:UInt8):Bool:=decide (33≤c.toNat)&&(c != 35&&c != 63)

theorem d_1:dotsV [46]=1∧dotsV [46,46]=2∧dotsV [37,50,69,37,50,101]=2∧dotsV [37,50,101]=1:=by decide +kernel

def OkP (l:List UInt8):Prop:= ∀ c ∈ l,pbC c=true∧c≠92

theorem OkP.app {a b:List UInt8} (ha:OkP a) (hb:OkP b):OkP (a++b):=fun c hc=>(List.mem_append.1 hc).elim (ha c) (hb c)

end Go.Proofs.YtolioccofbhliaaGreatDoor

namespace Go.Proofs.YtolioccofbhliaaGreatDoor
def seeC (c:UInt8):Bool:=decide (33≤c.toNat)&&decide (c.toNat≤126)

def seeB (c:UInt8):Bool:=decide (32≤c.toNat)&&decide (c.toNat≤126)

def hoC (c:UInt8):Bool:=seeC c&&(c != 35&&(c != 47&&(c != 63&&(c != 64&&c != 92))))

theorem u8_all {P:UInt8→Bool} (h: ∀ n<256,P (UInt8.ofNat n)=true) (c:UInt8):P c=true:=by
 have:=h c.toNat c.toNat_lt
 rwa [show UInt8.ofNat c.toNat=c by simp] at this

theorem pct1_see (c:UInt8):((pct1 2 c).all seeC&&((pct1 3 c).all seeC&&((pct1 4 c).all seeC&&((pct1 5 c).all seeC&&((pct1 6 c).all seeC&&(pct1 1 c).all seeB)))))=true:=
 u8_all (P:=fun c=>((pct1 2 c).all seeC&&((pct1 3 c).all seeC&&((pct1 4 c).all seeC&&((pct1 5 c).all seeC&&((pct1 6 c).all seeC&&(pct1 1 c).all seeB)))))) (by decide +kernel) c

theorem pct_all (k:Int) (P:UInt8→Bool) (h: ∀ c,(pct1 k c).all P=true) (l:List UInt8): ∀ c ∈ pct k l,P c=true:=fun c hc=>by
 unfold pct at hc;obtain ⟨d,-,hd⟩:=List.mem_flatMap.1 hc
 exact List.all_eq_true.1 (h d) c hd

theorem pct_see (k:Int) (hk:k=2∨k=3∨k=4∨k=5∨k=6) (l:List UInt8): ∀ c ∈ pct k l,seeC c=true:=by
 apply pct_all;intro c;have:=pct1_see c;simp only [Bool.and_eq_true] at this;rcases hk with rfl | rfl | rfl | rfl | rfl
 ·exact this.1
 ·exact this.2.1
 ·exact this.2.2.1
 ·exact this.2.2.2.1
 ·exact this.2.2.2.2.1

theorem pct5_dot (p:List UInt8) (q:List UInt8) (hq:q=[46]∨q=[46,46]) (h:pct 5 p=q):p=q:=by
 have h1: ∀ c:UInt8,pct1 5 c≠[]∧(pct1 5 c).head? = some (if inSetI c.toNat 5 then 37 else c):=fun c=>by
  unfold pct1 esc;split<;>simp [*]
 have h2: ∀ c:UInt8,(pct1 5 c).head? = some 46→c=46∧pct1 5 c=[46]:=fun c hc=>by
  rw [(h1 c).2] at hc;split at hc
  ·injection hc with hc;cases hc
  ·injection hc with hc
   subst hc;exact ⟨rfl,by decide +kernel⟩
 have step: ∀ (p r:List UInt8),pct 5 p=46::r → ∃ p',p=46::p'∧pct 5 p'=r:=by
  intro p r e
  cases p with
  | nil=>cases e
  | cons c p=>
    have e':pct1 5 c++pct 5 p=46::r:=e;have hh:(pct1 5 c).head? = some 46:=by
     cases hc:pct1 5 c with
     | nil=>exact absurd hc (h1 c).1
     | cons d t=>rw [hc,List.cons_append] at e';injection e' with e1 e2;rw [e1];rfl
    obtain ⟨rfl,e2⟩:=h2 c hh
    rw [e2] at e';exact ⟨p,rfl,by simpa using e'⟩
 have nil: ∀ p:List UInt8,pct 5 p=[]→p=[]:=by
  intro p e
  cases p with
  | nil=>rfl
  | cons c p=>
    have e':pct1 5 c++pct 5 p=[]:=e;exact absurd (List.append_eq_nil_iff.1 e').1 (h1 c).1
 rcases hq with rfl | rfl
 ·obtain ⟨p',rfl,e⟩:=step p _ h
  rw [nil p' e]
 ·obtain ⟨p',rfl,e⟩:=step p _ h
  obtain ⟨p2,rfl,e2⟩:=step p' _ e
  rw [nil p2 e2]

def PartOk (p:List UInt8):Prop:=(∀ c ∈ p,seeC c=true)∧p≠[46]∧p≠[46,46]

theorem part_nil:PartOk []:=⟨by simp,by simp,by simp⟩

theorem part_pct {p:List UInt8} (h:dotsV p=0):PartOk (pct 5 p):=by
 refine ⟨pct_see 5 (.inr (.inr (.inr (.inl rfl)))) p,fun e=> ?_,fun e=> ?_⟩
 ·have:=pct5_dot p [46] (.inl rfl) e
  subst this;rw [d_1.1] at h;cases h
 ·have:=pct5_dot p [46,46] (.inr rfl) e
  subst this;rw [d_1.2.1] at h;cases h

theorem step_ok {out:List (List UInt8)} {p:List UInt8} {mo:Bool} (h: ∀ q ∈ out,PartOk q): ∀ q ∈ stepP out p mo,PartOk q:=by
 intro q hq;rcases dotsV_cases p with h0 | h0 | h0
 ·rw [stepP0 h0] at hq
  rcases List.mem_append.1 hq with hq | hq
  ·exact h q hq
  ·obtain rfl:=List.mem_singleton.1 hq;exact part_pct h0
 ·cases mo with
  | true=>rw [stepP1 h0] at hq;exact h q hq
  | false=>
    rw [stepP1' h0] at hq;rcases List.mem_append.1 hq with hq | hq
    ·exact h q hq
    ·obtain rfl:=List.mem_singleton.1 hq;exact part_nil
 ·cases mo with
  | true=>rw [stepP2 h0] at hq;exact h q (List.dropLast_subset _ hq)
  | false=>
    rw [stepP2' h0] at hq;rcases List.mem_append.1 hq with hq | hq
    ·exact h q (List.dropLast_subset _ hq)
    ·obtain rfl:=List.mem_singleton.1 hq;exact part_nil

theorem pathL_ok: ∀ (L out:List (List UInt8)),(∀ q ∈ out,PartOk q) → ∀ q ∈ pathL out L,PartOk q
 | [],out,h=>by rw [pathL];exact h
 | [p],out,h=>by rw [pathL_last];exact step_ok h
 | p::q::r,out,h=>by
   rw [pathL_more out p (q::r) (by simp)];exact pathL_ok (q::r) _ (step_ok h)

theorem stepP_ne (out:List (List UInt8)) (p:List UInt8):stepP out p false≠[]:=by
 rcases dotsV_cases p with h0 | h0 | h0
 ·rw [stepP0 h0];simp
 ·rw [stepP1' h0];simp
 ·rw [stepP2' h0];simp

theorem pathL_ne: ∀ (L out:List (List UInt8)),L≠[]→pathL out L≠[]
 | [],out,h=>absurd rfl h
 | [p],out,h=>by rw [pathL_last];exact stepP_ne _ _
 | p::q::r,out,h=>by
   rw [pathL_more out p (q::r) (by simp)];exact pathL_ne (q::r) _ (by simp)

end Go.Proofs.YtolioccofbhliaaGreatDoor

namespace Go.Proofs.YtolioccofbhliaaGreatDoor
def AllS (l:List UInt8):Prop:= ∀ c ∈ l,seeC c=true

structure Pre3 (u : Adr) : Prop where
 scheme:AllS u.scheme
 user:AllS u.user
 pass:AllS u.pass
 host: ∀ c ∈ u.host,hoC c=true
 port:u.port = -1∨(0≤u.port∧u.port≤65535∧u.port≠ownV u.scheme∧u.hasHost=true)
 query:AllS u.query
 fragment:AllS u.fragment
 noQ:u.hasQuery=false→u.query=[]
 noF:u.hasFragment=false→u.fragment=[]

structure Good3 (u : Adr) : Prop where
 pre:Pre3 u
 parts:u.opq=false → ∀ p ∈ u.path,PartOk p
 opaque_:u.opq=true→u.hasHost=false ∧ ∃ x,u.path=[pct 1 x]
 special:specV u.scheme=true→u.host≠[]∧u.path≠[]∧u.opq=false

theorem withQuery_cases (u:Adr) (q:List UInt8):withQuery u q=u∨withQuery u q={ u with query:=querV (specV u.scheme) (q.drop 1),hasQuery:=true }:=by
 unfold withQuery;split
 ·exact .inl rfl
 ·exact .inr rfl

theorem querV_see (sp:Bool) (q:List UInt8):AllS (querV sp q):=by
 unfold querV
 cases sp with
 | true=>exact pct_see 4 (.inr (.inr (.inl rfl))) q
 | false=>exact pct_see 3 (.inr (.inl rfl)) q

theorem Good3.query {u:Adr} (h:Good3 u) (q:List UInt8):Good3 (withQuery u q):=by
 rcases withQuery_cases u q with e | e
 ·rw [e];exact h
 ·rw [e]
  exact ⟨⟨h.pre.scheme,h.pre.user,h.pre.pass,h.pre.host,h.pre.port,querV_see _ _,h.pre.fragment,(fun e=>by cases e),h.pre.noF⟩,h.parts,h.opaque_,h.special⟩

theorem Good3.path {u:Adr} (h:Pre3 u) (ho:u.opq=false) (hs:specV u.scheme=true→u.host≠[]) (hv:List (List UInt8)) (hok: ∀ q ∈ hv,PartOk q) (r:List UInt8):Good3 (withPath u hv r):=by
 unfold withPath;refine Good3.query (u:={ u with path:=pathV (specV u.scheme) hv (aheadV [63] r).1 }) ⟨⟨h.scheme,h.user,h.pass,h.host,h.port,h.query,h.fragment,h.noQ,h.noF⟩,?_,?_,?_⟩ _
 ·intro _ p hp
  have hp':p ∈ pathV (specV u.scheme) hv (aheadV [63] r).1:=hp;unfold pathV at hp';split at hp'
  ·simp at hp'
  ·exact pathL_ok _ _ hok p hp'
 ·intro e
  have e':u.opq=true:=e;rw [ho] at e';cases e'
 ·intro e
  have e':specV u.scheme=true:=e;refine ⟨hs e',?_,ho⟩;show pathV (specV u.scheme) hv (aheadV [63] r).1≠[];rw [e'];unfold pathV;rw [if_neg (by simp)];exact pathL_ne _ _ (cutL_ne _ _)

end Go.Proofs.YtolioccofbhliaaGreatDoor

namespace Go.Proofs.YtolioccofbhliaaGreatDoor
def cc (l:List UInt8):Nat:=l.count 58

end Go.Proofs.YtolioccofbhliaaGreatDoor

namespace Go.Proofs.YtolioccofbhliaaGreatDoor
open Go.RowKit

def regOf (n:Nat):Code→Option Code
 | .region id ops d=>if id=n then some (.region id ops d) else none
 | .seq a b=>match regOf n a with
   | some c=>some c
   | none=>regOf n b
 | .block _ c=>regOf n c
 | .loop c=>regOf n c
 | .scope c=>regOf n c
 | .cond _ a b=>match regOf n a with
   | some c=>some c
   | none=>regOf n b
 | _=>none

theorem wp_reg {P:Program} {c:Code} {Q:Exit→Act→World→Prop} {a:Act} {w:World} (h:c.wp P (Exit.then (fun a w=>Q .normal a w) fun _ _ _=>False) a w):c.wp P Q a w:=
 Code.wp_mono (fun e a w h=>by cases e<;>first | exact h | exact h.elim) h

theorem cell_kept3 {w w':World} {a:Addr} {v:Value} (h:w.cell? a=some v) (hb:Below w.heap.size w w'):w'.cell? a=some v:=(hb.cell (World.block_lt_of_cell? w _ h)).trans h

theorem wpAnyH_to {P:Program} {md:Region.Mode} {ops:Array Oper} {Q:Exit→Act→World→Prop} {S:World→Prop} {fuel fuel':Nat} {listed listed':Array Bool} {a:Act} {w:World} (hf:fuel=fuel') (hl:listed=listed') (h:wpAnyH P md ops Q S fuel' listed' a w):wpAnyH P md ops Q S fuel listed a w:=by
 subst hf;subst hl;exact h

end Go.Proofs.YtolioccofbhliaaGreatDoor

namespace Go.Proofs.YtolioccofbhliaaGreatDoor
open Go.RowKit

theorem path_sl {w:World} {v:Value} {L:List (List UInt8)} (h:PathAt w v L):IsSl v:=by
 rcases h with ⟨rfl,_⟩ | ⟨b,cap,rfl,_⟩
 ·exact ⟨_,_,_,rfl⟩
 ·exact ⟨_,_,_,rfl⟩

theorem adr_cells (A:Adr) (a:Option Addr) (n c:Nat): ∃ s0 s1 s2 s3 b4 i5 b6 s8 s9 b10 b11,adrCells A (.slice a n c)=[.string s0,.string s1,.string s2,.string s3,.bool b4,.int .i64 i5,.bool b6,.slice a n c,.string s8,.string s9,.bool b10,.bool b11]:=⟨_,_,_,_,_,_,_,_,_,_,_,rfl⟩

end Go.Proofs.YtolioccofbhliaaGreatDoor

namespace Go.Proofs.YtolioccofbhliaaGreatDoor
open Go.RowKit

theorem adr_twelve {W:World} {b:Nat} {A:Adr} {ua:Option Addr} {un uc:Nat} {u0 u1 u2 u3:ByteArray} {u4:Bool} {u5:Int} {u6:Bool} {u8 u9:ByteArray} {u10 u11:Bool} (hx:adrCells A (.slice ua un uc)=[.string u0,.string u1,.string u2,.string u3,.bool u4,.int .i64 u5,.bool u6,.slice ua un uc,.string u8,.string u9,.bool u10,.bool u11]) (h:AdrIn W b A (.slice ua un uc)):
 W.cell? ⟨b,0,none⟩=some (.string u0)∧W.cell? ⟨b,1,none⟩=some (.string u1)∧W.cell? ⟨b,2,none⟩=some (.string u2)∧W.cell? ⟨b,3,none⟩=some (.string u3)∧W.cell? ⟨b,4,none⟩=some (.bool u4)∧W.cell? ⟨b,5,none⟩=some (.int .i64 u5)∧W.cell? ⟨b,6,none⟩=some (.bool u6)∧W.cell? ⟨b,7,none⟩=some (.slice ua un uc)∧W.cell? ⟨b,8,none⟩=some (.string u8)∧W.cell? ⟨b,9,none⟩=some (.string u9)∧W.cell? ⟨b,10,none⟩=some (.bool u10)∧W.cell? ⟨b,11,none⟩=some (.bool u11):=by
 have f: ∀ j v,[.string u0,.string u1,.string u2,.string u3,.bool u4,.int .i64 u5,.bool u6,.slice ua un uc,.string u8,.string u9,.bool u10,.bool u11][j]? = some v→W.cell? ⟨b,j,none⟩=some v:=fun j v hj=>h.cell j v (by rw [hx];exact hj)
 exact ⟨f 0 _ rfl,f 1 _ rfl,f 2 _ rfl,f 3 _ rfl,f 4 _ rfl,f 5 _ rfl,f 6 _ rfl,f 7 _ rfl,f 8 _ rfl,f 9 _ rfl,f 10 _ rfl,f 11 _ rfl⟩

theorem read_err {s:List UInt8} {e:Int} (h:readV s none = .error e):e=3∨e=10∨e=11∨e=12:=by
 unfold readV at h;split at h
 ·injection h with h;exact .inl h.symm
 ·simp only at h
  split at h
  ·injection h with h;exact .inr (.inr (.inr h.symm))
  ·rcases startV_err h with h | h
   ·exact .inr (.inl h)
   ·exact .inr (.inr (.inl h))

theorem err_ne {e:Int} (h:e=3∨e=10∨e=11∨e=12):(e==0)=false:=by
 rcases h with rfl | rfl | rfl | rfl<;>rfl

end Go.Proofs.YtolioccofbhliaaGreatDoor

namespace Go.Proofs.YtolioccofbhliaaGreatDoor
open Go.RowKit

def TrOk (u:Adr):Prop:=u.path.length≤1000000∧u.path.flatten.length≤100000∧u.host.length≤1000000

theorem slim_tr {u:Adr} (h:Slim 20000 u):TrOk u:=by
 obtain ⟨h1,h2,h3,h4,h5,h6,h7,h8⟩:=h
 have a:=slL_len u.path;have b:=slL_flat u.path;exact ⟨by omega,by omega,by omega⟩

end Go.Proofs.YtolioccofbhliaaGreatDoor

namespace Go.Proofs.YtolioccofbhliaaGreatDoor
open Go.RowKit

set_option maxHeartbeats 4000000 in
set_option maxRecDepth 100000 in
theorem rport_any (u:Adr) (pv:Value) (w:World) (hp:PathAt w pv u.path):
 Calls Tryz.prog 130 #[adrVal u pv] w fun e w'=>e = .returned (.int .i64 (hasP u))∧Below w.heap.size w w':=by
 obtain ⟨da,dn,dc,rfl⟩:=path_sl hp
 obtain ⟨d0,d1,d2,d3,d4,d5,d6,d8,d9,d10,d11,hxd,hx0,hx3,hx5,-⟩:=adr_named u da dn dc
 have hvd:adrVal u (.slice da dn dc) = .agg #[.string d0,.string d1,.string d2,.string d3,.bool d4,.int .i64 d5,.bool d6,.slice da dn dc,.string d8,.string d9,.bool d10,.bool d11]:=by unfold adrVal;rw [hxd]
 rw [hvd];obtain ⟨W1,hW1⟩: ∃ X,(w.alloc (.cells #[.string d0,.string d1,.string d2,.string d3,.bool d4,.int .i64 d5,.bool d6,.slice da dn dc,.string d8,.string d9,.bool d10,.bool d11] 130))=X:=⟨_,rfl⟩
 have hbW1:Below w.heap.size w W1:=by rw [← hW1];exact (Below.refl _ w).alloc (Nat.le_refl _) _
 have hsW1:W1.heap.size=w.heap.size+1:=by rw [← hW1];simp
 have hAW1:AdrIn W1 w.heap.size u (.slice da dn dc):=by
  unfold AdrIn;rw [hxd,← hW1]
  exact heap_alloc_new w _
 have HB1:=hid hbW1;obtain ⟨y0,y1,y2,y3,y4,y5,y6,y7,y8,y9,y10,y11⟩:=adr_twelve hxd hAW1
 have HO:=hid (fun w=>rown_any d0 w);rw [hx0] at HO;have HV:=hid (show hasP u=if d5 = -1 then ownV u.scheme else d5 by unfold hasP;rw [hx5]);clear hx0 hx3 hx5 hxd hvd hp hbW1 hAW1 hsW1;by_cases h1:d5 = -1
 ·subst h1
  go_enter Tryz.func130,Tryz.ntmps130
  go_wp2_with fail
  refine (HO.out _).mono ?_;rintro e w2 ⟨rfl,rfl⟩
  go_wp2
  go_ret
  exact ⟨ret_int (by rw [HV.out];simp),HB1.out⟩
 ·go_enter Tryz.func130,Tryz.ntmps130
  go_wp2
  go_ret
  exact ⟨ret_int (by rw [HV.out,if_neg h1]),HB1.out⟩

theorem path_one4 {w:World} {a:Option Addr} {n c:Nat} {L:List (List UInt8)} (h:PathAt w (.slice a n c) L):n=L.length ∧ ∀ x,L=[x] → ∃ b,a=some ⟨b,0,none⟩∧w.cell? ⟨b,0,none⟩=some (.string ⟨x.toArray⟩)∧b<w.heap.size:=by
 rcases h with ⟨h1,rfl⟩ | ⟨b,cap,h1,h2,h3,h4,h5⟩
 ·cases h1
  exact ⟨rfl,fun x e=>by cases e⟩
 ·cases h1
  refine ⟨rfl,fun x e=> ?_⟩
  subst e;exact ⟨b,rfl,h5 0 (by simp),h2⟩

end Go.Proofs.YtolioccofbhliaaGreatDoor
