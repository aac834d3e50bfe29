/-
  Walks and plain facts that this claim leans on, put together out of 2 texts: Ehb, Ehc.
-/
import Derived.Test.YtpopljcmkbchcaaGreatDoorProg
import Derived.Test.YtpopljcmkbchcaaGreatDoorQt1
import Derived.Test.YtpopljcmkbchcaaGreatDoorQt2
import Derived.Test.YtpopljcmkbchcaaGreatDoorQt3
import Derived.Test.YtpopljcmkbchcaaGreatDoorQt4
import Derived.Test.YtpopljcmkbchcaaGreatDoorQt5
import Derived.Test.YtpopljcmkbchcaaGreatDoorQt6
import Derived.BigRegion
import Derived.Deep.RegionHeld
import Derived.Deep.RegionHeldLaw
import Derived.Lib.IndexAny
import Derived.WalkKit
import Derived.Lib.UnsafeStr
import Derived.Lib.BufferRead
import Derived.Lib.RuneBytes
import Derived.Laws.RangeAny
import Derived.Deep.LoopGhost
import Derived.Maps.OwnSet
import Derived.Maps.OwnOps
import Derived.Maps.AppendAt
import Derived.StringKeys
import Derived.BigQuiet
import Derived.Deep.QuietTactic
import Derived.LoopN
import Derived.RegionTactic
import Derived.Deep.RegionLaw
import Derived.Deep.RegionWith
import Derived.WalkSpells
import Derived.WalkLawsBesides
import Derived.Lib.FieldsP
import Derived.Lib.DecodeN
import Derived.Lib.IndexMore
import Derived.Lib.Join
import Derived.Lib.SmallJoins
import Derived.Laws.CopyOwn
import Derived.Laws.ResultCell
import Derived.Deep.MidRow
import Derived.Laws.OwnMore
import Derived.Below
import Derived.WalkSmall
import Derived.Lib.LaidTab
import Derived.Lib.AppendIntMem
import Derived.Laws.AppendOwn
import Derived.Laws.Runes
import Derived.Lib.OthersKept
import Derived.Lib.FrozenHead2
import Derived.Lib.Builder
import Derived.Lib.AppendStr
import Derived.Lib.Replace
import Derived.Shelf.GgClosure.GivesRunes
import Derived.Laws.BitsAll
import Derived.Laws.Shifts
import Derived.Deep.DeepAppendRoom
import Derived.Laws.IdiomStrings
import Derived.Laws.BytesString
import Derived.Laws.CopyRow
import Derived.Sort.OwnSorted
import Derived.Lib.SlicesCompact
import Derived.Shelf.Slices.In.SortNone
import Derived.Shelf.Slices.CompactS
import Derived.Lib.Strings
import Derived.Laws.BitsAllLaws
import Derived.Lib.Bytealg
import Derived.Lib.BufferMore
import Derived.Shelf.Strings.Builder1
import Derived.Shelf.Strings.Builder2
import Derived.Shelf.Strings.OnBuilder
import Derived.Shelf.Strings.Trim
import Derived.Shelf.Small.Utf8
import Derived.Shelf.Small.Bits
import Derived.Shelf.Small.Strs
import Derived.Shelf.Small.Wraps
import Derived.Shelf.Strings.BuilderF
import Derived.Shelf.Strings.BuilderK
import Derived.Shelf.Strings.BuilderRune
import Derived.Shelf.Utf8.AppendRune
import Derived.Shelf.Utf8.AppendRunePlain
import Derived.Shelf.Strings.Builder2Cap
import Derived.Shelf.Strconv.Itoa0
import Derived.Shelf.Strconv.Itoa1
import Derived.Shelf.LaysM
import Derived.Shelf.Strconv.Itoa2
import Derived.Shelf.Strconv.Itoa3
import Derived.Shelf.Strings.Search1
import Derived.Shelf.Strings.Search2
import Derived.Shelf.Strings.Cut
import Derived.Shelf.Strings.Shaped
import Derived.Shelf.Sort.Plain
import Derived.Shelf.Strings.Prefix
import Derived.Shelf.Unicode.Latin
import Derived.Shelf.Strings.Runes
import Derived.Shelf.Strings.IndexAny
import Derived.Shelf.Strings.AsciiSet
import Derived.Shelf.Strings.IndexAnyAll
import Derived.Shelf.Unicode.DecodeSlow
import Derived.Shelf.Unicode.DecodeAny
import Derived.Shelf.Unicode.DecodeLast
import Derived.Shelf.Unicode.CaseLookup
import Derived.Shelf.Unicode.CaseConvert
import Derived.Shelf.Unicode.CaseTo
import Derived.Shelf.Unicode.CaseLaid
import Derived.Lib.SlTrimSet
import Derived.Shelf.Strings.SlTrimAscii
import Derived.Deep.CutRange
import Derived.Laws.Rows
import Derived.Laws.MakeOwn
import Derived.Deep.WholeRow
import Derived.Laws.AppendOwnNone
set_option linter.unusedSimpArgs false
set_option linter.unusedVariables false

namespace Go.Proofs.YtpopljcmkbchcaaGreatDoor
open Go.RowKit

variable {G : Nat → Prop}

def cellsC (L:List Cho):List Value:=L.flatMap fun c=>[.string ⟨c.name.toArray⟩,.string ⟨c.value.toArray⟩,.bool c.there]

theorem cellsC_app (a b:List Cho):cellsC (a++b)=cellsC a++cellsC b:=by simp [cellsC]

theorem cellsC_len: ∀ L:List Cho,(cellsC L).length=L.length*3
 | []=>rfl
 | p::L=>by
   have e:cellsC (p::L)=[.string ⟨p.name.toArray⟩,.string ⟨p.value.toArray⟩,.bool p.there]++cellsC L:=rfl;rw [e,List.length_append,cellsC_len L];show 3+L.length*3=(L.length+1)*3;omega

theorem cellsC_at: ∀ (L:List Cho) (i:Nat) (h:i<L.length) (j:Nat) (v:Value),([.string ⟨L[i].name.toArray⟩,.string ⟨L[i].value.toArray⟩,.bool L[i].there]:List Value)[j]? = some v→(cellsC L)[i*3+j]? = some v
 | [],i,h,_,_,_=>by simp at h
 | p::L,0,_,j,v,hv=>by
   have hj:j<3:=(List.getElem?_eq_some_iff.1 hv).1;have e:cellsC (p::L)=[.string ⟨p.name.toArray⟩,.string ⟨p.value.toArray⟩,.bool p.there]++cellsC L:=rfl;rw [e,Nat.zero_mul,Nat.zero_add,List.getElem?_append_left (by show j<3;exact hj)]
   exact hv
 | p::L,i+1,h,j,v,hv=>by
   have e:cellsC (p::L)=[.string ⟨p.name.toArray⟩,.string ⟨p.value.toArray⟩,.bool p.there]++cellsC L:=rfl;rw [e,List.getElem?_append_right (by show 3≤_;omega)]
   show (cellsC L)[(i+1)*3+j - 3]? = _;rw [show (i+1)*3+j - 3=i*3+j by omega];exact cellsC_at L i (by simpa using h) j v hv

def cellsB (l:List UInt8):List Value:=l.map fun b=> .int .u8 (b.toNat:Int)

structure Zr where
 r:RowC
 c:Value
 h:Value
 b:Value

def zCells (z:Zr):List Value:=[.string ⟨z.r.url.toArray⟩,z.c,.int .i64 z.r.rp.st,z.h,z.b,.int .i64 z.r.sto,.int .i64 z.r.tn]

def zVal (z:Zr):Value:= .agg (zCells z).toArray

def cellsZ (Z:List Zr):List Value:=Z.flatMap zCells

theorem cellsZ_app (a b:List Zr):cellsZ (a++b)=cellsZ a++cellsZ b:=by simp [cellsZ]

theorem cellsZ_one (z:Zr):cellsZ [z]=zCells z:=by simp [cellsZ]

theorem cellsZ_cons (z:Zr) (Z:List Zr):cellsZ (z::Z)=zCells z++cellsZ Z:=rfl

theorem cellsZ_len: ∀ L:List Zr,(cellsZ L).length=L.length*7
 | []=>rfl
 | p::L=>by
   rw [cellsZ_cons,List.length_append,cellsZ_len L,List.length_cons];show 7+_=_;omega

theorem cellsZ_at: ∀ (L:List Zr) (i:Nat) (h:i<L.length) (j:Nat) (v:Value),(zCells L[i])[j]? = some v→(cellsZ L)[i*7+j]? = some v
 | [],i,h,_,_,_=>by simp at h
 | p::L,0,_,j,v,hv=>by
   have hj:j<7:=(List.getElem?_eq_some_iff.1 hv).1;rw [cellsZ_cons,Nat.zero_mul,Nat.zero_add,List.getElem?_append_left (by show j<7;exact hj)]
   exact hv
 | p::L,i+1,h,j,v,hv=>by
   rw [cellsZ_cons,List.getElem?_append_right (by show 7≤_;omega)]
   show (cellsZ L)[(i+1)*7+j - 7]? = _;rw [show (i+1)*7+j - 7=i*7+j by omega];exact cellsZ_at L i (by simpa using h) j v hv

theorem cellsZ_take (X:List Zr) (i:Nat):(cellsZ X).take (i*7)=cellsZ (X.take i):=by
 by_cases hi:i≤X.length
 ·have e:cellsZ X=cellsZ (X.take i)++cellsZ (X.drop i):=by rw [← cellsZ_app,List.take_append_drop]
  rw [e,List.take_append_of_le_length (by rw [cellsZ_len,List.length_take];omega)]
  exact List.take_of_length_le (by rw [cellsZ_len,List.length_take];omega)
 ·rw [List.take_of_length_le (by rw [cellsZ_len];omega),List.take_of_length_le (by omega)]

theorem cellsZ_drop (X:List Zr) (i:Nat):(cellsZ X).drop (i*7)=cellsZ (X.drop i):=by
 by_cases hi:i≤X.length
 ·have e:cellsZ X=cellsZ (X.take i)++cellsZ (X.drop i):=by rw [← cellsZ_app,List.take_append_drop]
  have hl:(cellsZ (X.take i)).length=i*7:=by rw [cellsZ_len,List.length_take];omega
  rw [e,← hl,List.drop_left]
 ·rw [List.drop_of_length_le (by rw [cellsZ_len];omega),List.drop_of_length_le (by omega)]
  rfl

theorem heap_cells17 {g:Nat} {T:TypeId} {f:Nat×Nat}: ∀ (vs:List Value) (o:Nat) (w:World) (cur:Array Value),w.heap[g]? = some (.cells cur T f)→o+vs.length≤cur.size →
 (w.setCells g o vs).heap[g]? = some (.cells (cur.toList.take o++(vs++cur.toList.drop (o+vs.length))).toArray T f)
 | [],o,w,cur,h,_=>by
   show w.heap[g]? = _;rw [h];simp
 | v::vs,o,w,cur,h,hl=>by
   have h1:=Lib.heap_setCell_same h (i:=o) v;simp only [List.length_cons] at hl;have h2:=heap_cells17 vs (o+1) _ _ h1 (by rw [Array.size_setIfInBounds];omega)
   show ((w.setCell ⟨g,o,none⟩ v).setCells g (o+1) vs).heap[g]? = _;rw [h2,Array.toList_setIfInBounds,List.set_eq_take_append_cons_drop,if_pos (by rw [Array.length_toList];omega)]
   have ht:(cur.toList.take o).length=o:=by rw [List.length_take,Array.length_toList (xs:=cur)];omega
   have e1:(cur.toList.take o++v::cur.toList.drop (o+1)).take (o+1)=cur.toList.take o++[v]:=by
    rw [List.take_append,ht,List.take_of_length_le (by omega),show o+1 - o=1 by omega]
    rfl
   have e2:(cur.toList.take o++v::cur.toList.drop (o+1)).drop (o+1+vs.length)=cur.toList.drop (o+(vs.length+1)):=by
    rw [List.drop_append,ht,List.drop_of_length_le (by omega),List.nil_append,show o+1+vs.length - o=vs.length+1 by omega,List.drop_succ_cons,List.drop_drop]
    congr 1
    omega
   rw [e1,e2,List.append_assoc]
   rfl

theorem far_cells17 {g k:Nat} (hne:k≠g): ∀ (vs:List Value) (o:Nat) (w:World),(w.setCells g o vs).heap[k]? = w.heap[k]?
 | [],_,_=>rfl
 | v::vs,o,w=>(far_cells17 hne vs (o+1) _).trans (heap_setCell_other w ⟨g,o,none⟩ k v hne)

theorem grown_cells17 (g:Nat): ∀ (vs:List Value) (o:Nat) (w:World),w.grownBy (w.setCells g o vs) (some g)
 | [],_,w=>⟨rfl,rfl,rfl,Nat.le_refl _,fun _ _ _=>rfl⟩
 | v::vs,o,w=>by
   have h:=grown_cells17 g vs (o+1) (w.setCell ⟨g,o,none⟩ v);refine ⟨h.os,h.tape,h.output,?_,fun k hk hne=>far_cells17 (fun e=>hne (by rw [e])) _ _ _⟩
   have h2:=h.size;simp [World.setCell] at h2 ⊢;exact h2

theorem below_grown17 {w w':World} (h:Below w.heap.size w w') (row:Option Nat):w.grownBy w' row:=⟨h.os,h.tape,h.output,h.size,fun k hk _=>h.block k hk⟩

theorem grown_t17 {a b c:World} {row:Option Nat} (h:a.grownBy b row) (k:b.grownBy c row):a.grownBy c row:=
 ⟨k.os.trans h.os,k.tape.trans h.tape,k.output.trans h.output,Nat.le_trans h.size k.size,fun i hi hn=>(k.block i (Nat.lt_of_lt_of_le hi h.size) hn).trans (h.block i hi hn)⟩

theorem own_in17 {w:World} {B K g n cap m:Nat} {T:TypeId} {xs:List Value} (h:w.ownsRow B T K (.slice (some ⟨g,0,none⟩) n cap) m xs): ∃ cur,B≤g∧w.heap[g]? = some (.cells cur T (0,0))∧n=m∧m≤cap∧cap≤maxLen∧cur.size=cap*K∧cur.toList.take (m*K)=xs:=by
 rcases h.2 with h0 | ⟨g',cap',cur,hv,rest⟩
 ·exact absurd h0.1 (by simp)
 ·simp only [Value.slice.injEq,Option.some.injEq,Addr.mk.injEq] at hv
  obtain ⟨⟨rfl,_,_⟩,rfl,rfl⟩:=hv
  exact ⟨cur,rest.1,rest.2.1,rfl,rest.2.2⟩

theorem own_put17 {w:World} {B g n cap:Nat} {T:TypeId} {X:List Zr} (h:w.ownsRow B T 7 (.slice (some ⟨g,0,none⟩) n cap) n (cellsZ X)) (i:Nat) (hi:i<n) (z:Zr):(w.setCells g (i*7) (zCells z)).ownsRow B T 7 (.slice (some ⟨g,0,none⟩) n cap) n (cellsZ (X.set i z)):=by
 have hX:X.length=n:=by have:=h.1;rw [cellsZ_len] at this;omega
 obtain ⟨cur,hg,hrow,_,hnc,hcm,hcs,htake⟩:=own_in17 h
 have hl:i*7+7≤cur.size:=by rw [hcs];omega
 have h2:=heap_cells17 (zCells z) (i*7) w cur hrow hl;rw [show (zCells z).length=7 from rfl] at h2;obtain ⟨zc,hz⟩: ∃ l,l=zCells z:=⟨_,rfl⟩
 have hzl:zc.length=7:=by rw [hz];rfl
 rw [← hz] at h2 ⊢;have ht:(cur.toList.take (i*7)).length=i*7:=by rw [List.length_take,Array.length_toList (xs:=cur)];exact Nat.min_eq_left (by omega)
 have e1:cur.toList.take (i*7)=cellsZ (X.take i):=by
  rw [← cellsZ_take,← htake,List.take_take,Nat.min_eq_left (by omega)]
 have e2:(cur.toList.drop (i*7+7)).take (n*7 - (i*7+7))=cellsZ (X.drop (i+1)):=by
  rw [← cellsZ_drop,← htake,List.drop_take,show (i+1)*7=i*7+7 by omega]
 refine ⟨by rw [cellsZ_len,List.length_set,hX],.inr ⟨g,cap,_,rfl,hg,h2,hnc,hcm,?_,?_⟩⟩
 ·clear h2 hrow hcm htake e1 e2 h
  rw [List.size_toArray,List.length_append,List.length_append,ht,hzl,List.length_drop,Array.length_toList (xs:=cur)]
  omega
 ·show List.take (n*7) (cur.toList.take (i*7)++(zc++cur.toList.drop (i*7+7)))=_
  clear h2 hrow hcm htake h;have key: ∀ (P Q:List Value),P.length=i*7→(P++(zc++Q)).take (n*7)=P++(zc++Q.take (n*7 - (i*7+7))):=by
   intro P Q hP;rw [List.take_append,hP,List.take_of_length_le (l:=P) (by omega),List.take_append,hzl,List.take_of_length_le (l:=zc) (by omega),show n*7 - i*7 - 7=n*7 - (i*7+7) by omega]
  rw [key _ _ ht,e1,e2,List.set_eq_take_append_cons_drop,if_pos (by omega),cellsZ_app,cellsZ_cons,hz]

theorem own_cut17 {w:World} {B g n cap:Nat} {T:TypeId} {X:List Zr} (h:w.ownsRow B T 7 (.slice (some ⟨g,0,none⟩) n cap) n (cellsZ X)) (i:Nat) (hi:i≤n) (vs:List Value) (hl:i*7+vs.length≤cap*7):(w.setCells g (i*7) vs).ownsRow B T 7 (.slice (some ⟨g,0,none⟩) i cap) i (cellsZ (X.take i)):=by
 have hX:X.length=n:=by have:=h.1;rw [cellsZ_len] at this;omega
 obtain ⟨cur,hg,hrow,_,hnc,hcm,hcs,htake⟩:=own_in17 h
 have h2:=heap_cells17 vs (i*7) w cur hrow (by rw [hcs];exact hl)
 have ht:(cur.toList.take (i*7)).length=i*7:=by rw [List.length_take,Array.length_toList (xs:=cur)];exact Nat.min_eq_left (by omega)
 refine ⟨by rw [cellsZ_len,List.length_take,hX,Nat.min_eq_left hi],.inr ⟨g,cap,_,rfl,hg,h2,Nat.le_trans hi hnc,hcm,?_,?_⟩⟩
 ·clear h2 hrow hcm htake h
  rw [List.size_toArray,List.length_append,List.length_append,ht,List.length_drop,Array.length_toList (xs:=cur)]
  omega
 ·show List.take (i*7) (cur.toList.take (i*7)++_)=_
  rw [List.take_append_of_le_length (by rw [ht];exact Nat.le_refl _),List.take_of_length_le (by rw [ht];exact Nat.le_refl _),← cellsZ_take,← htake,List.take_take,Nat.min_eq_left (by omega)]

theorem own_range17 {w:World} {B n:Nat} {T:TypeId} {X:List Zr} {v:Value} (h:w.ownsRow B T 7 v n (cellsZ X)) (i:Nat) (hi:i<X.length): ∃ g,v.ownBlock=some g∧w.rangeAt g (i*7) (zCells X[i]):=by
 have hX:X.length=n:=by have:=h.1;rw [cellsZ_len] at this;omega
 rcases h.2 with ⟨_,h0⟩ | ⟨g,cap',cur,rfl,hg,hrow,hnc,hcm,hcs,htake⟩
 ·omega
 ·refine ⟨g,rfl,fun j u hu=> ?_⟩
  have hc:=cellsZ_at X i hi j u hu;rw [h.cellAt (i*7+j) (by
   have:=(List.getElem?_eq_some_iff.1 hc).1;rw [cellsZ_len] at this
   omega)]
  exact hc

theorem own_there17 {w:World} {B g n cap:Nat} {T:TypeId} {X:List Zr} (h:w.ownsRow B T 7 (.slice (some ⟨g,0,none⟩) n cap) n (cellsZ X)) (o m:Nat) (hm:o+m≤cap*7):w.there g o m:=by
 obtain ⟨cur,hg,hrow,_,hnc,hcm,hcs,htake⟩:=own_in17 h
 intro j hj;refine ⟨?_,Lib.frozen_of_heap hrow _⟩
 rw [Lib.cell_of_heap hrow];simp;omega

theorem range_kept17 {w w':World} {g o:Nat} {cs:List Value} (h:w.rangeAt g o cs) (hb:Below w.heap.size w w'):w'.rangeAt g o cs:=fun j v hv=>by
 have:=h j v hv;exact (hb.cell (World.block_lt_of_cell? w _ this)).trans this

theorem wpList_world17 {P:Program} {ops:Array Oper} {Q:Exit→Act→World→Prop} {rest:List Oper} {a:Act} {w w':World} (e:w=w') (h:wpList P ops Q rest a w):wpList P ops Q rest a w':=e ▸ h

abbrev Tr17 : Nat → Prop := fun _ => True

def OwM (G:Nat→Prop) (w:World) (B M:Nat) (T:TypeId) (k:Nat) (v:Value) (n:Nat) (xs:List Value):Prop:=w.ownsRow B T k v n xs ∧ ∀ g,v.ownBlock=some g→g<M∧(T=45→G g)

theorem OwM.same {w w':World} {B M:Nat} {T:TypeId} {k:Nat} {v:Value} {n:Nat} {xs:List Value} (h:OwM G w B M T k v n xs) (hk: ∀ g,v.ownBlock=some g→w'.heap[g]? = w.heap[g]?):OwM G w' B M T k v n xs:=⟨ownsRow_same h.1 hk,h.2⟩

theorem OwM.kept {w w':World} {B M:Nat} {T:TypeId} {k:Nat} {v:Value} {n:Nat} {xs:List Value} (h:OwM G w B M T k v n xs) (hb:Below M w w'):OwM G w' B M T k v n xs:=h.same fun g hg=>hb.block g (h.2 g hg).1

theorem OwM.mono {w:World} {B M:Nat} {T:TypeId} {k:Nat} {v:Value} {n:Nat} {xs:List Value} {M':Nat} (h:OwM G w B M T k v n xs) (hm:M≤M'):OwM G w B M' T k v n xs:=⟨h.1,fun g hg=>⟨Nat.lt_of_lt_of_le (h.2 g hg).1 hm,(h.2 g hg).2⟩⟩

theorem OwM.of {w:World} {B:Nat} {T:TypeId} {k:Nat} {v:Value} {n:Nat} {xs:List Value} (h:w.ownsRow B T k v n xs) (hT:T≠45:=by decide):OwM G w B w.heap.size T k v n xs:=⟨h,fun g hg=>⟨(h.lt g hg).2,fun e=>absurd e hT⟩⟩

theorem OwM.ofH {w:World} {B:Nat} {T:TypeId} {k:Nat} {v:Value} {n:Nat} {xs:List Value} (h:w.ownsRow B T k v n xs) (hG: ∀ g,v.ownBlock=some g→G g):OwM G w B w.heap.size T k v n xs:=⟨h,fun g hg=>⟨(h.lt g hg).2,fun _=>hG g hg⟩⟩

theorem OwM.size {w:World} {B M:Nat} {T:TypeId} {k:Nat} {v:Value} {n:Nat} {xs:List Value} (h:OwM G w B M T k v n xs) (hm:M≤w.heap.size):OwM G w B w.heap.size T k v n xs:=h.mono hm

def Tq (T U:TypeId) (p:Nat) (w w':World):Prop:=Below p w w' ∧ ∀ (k:Nat) (cur:Array Value) (S:TypeId) (fz:Nat×Nat),w.heap[k]? = some (Obj.cells cur S fz)→S≠T→S≠U→w'.heap[k]? = w.heap[k]?

theorem Tq.refl {T U:TypeId} {p:Nat} {a:World}:Tq T U p a a:=⟨Below.refl _ _,fun _ _ _ _ _ _ _=>rfl⟩

theorem Tq.trans {T U:TypeId} {p:Nat} {a b c:World} (h:Tq T U p a b) (h2:Tq T U p b c):Tq T U p a c:=
 ⟨h.1.trans h2.1,fun k cur S fz hk h3 h4=>(h2.2 k cur S fz ((h.2 k cur S fz hk h3 h4).trans hk) h3 h4).trans (h.2 k cur S fz hk h3 h4)⟩

theorem Tq.below {T U:TypeId} {p:Nat} {a b:World} (hb:Below a.heap.size a b) (hp:p≤a.heap.size):Tq T U p a b:=⟨hb.mono hp,fun k _ _ _ hk _ _=>hb.block k (Array.getElem?_eq_some_iff.1 hk).1⟩

theorem Tq.more {T U:TypeId} {p:Nat} {a b c:World} (h:Tq T U p a b) (hb:Below b.heap.size b c) (hp:p≤b.heap.size):Tq T U p a c:=h.trans (Tq.below hb hp)

theorem Tq.low {T U:TypeId} {p:Nat} {a b:World} (h:Tq T U p a b) {q:Nat} (hq:q≤p):Tq T U q a b:=⟨h.1.mono hq,h.2⟩

theorem Tq.own {T U:TypeId} {p:Nat} {a b:World} {B:Nat} {S:TypeId} {k:Nat} {v:Value} {n:Nat} {xs:List Value} (h:Tq T U p a b) (ho:a.ownsRow B S k v n xs) (h1:S≠T) (h2:S≠U):b.ownsRow B S k v n xs:=
 ownsRow_same ho fun g hg=>by
  obtain ⟨cur,hc⟩:=ownsRow_kind ho g hg
  exact h.2 g _ _ _ hc h1 h2

theorem Tq.owm {T U:TypeId} {p:Nat} {a b:World} {B M:Nat} {S:TypeId} {k:Nat} {v:Value} {n:Nat} {xs:List Value} (h:Tq T U p a b) (ho:OwM G a B M S k v n xs) (h1:S≠T) (h2:S≠U):OwM G b B M S k v n xs:=⟨h.own ho.1 h1 h2,ho.2⟩

theorem Tq.grown {T U:TypeId} {p:Nat} {a b:World} {r:Option Nat} (hg:a.grownBy b r) (hr: ∀ g,r=some g→p≤g ∧ ∃ cur fz,a.heap[g]? = some (Obj.cells cur T fz)) (hp:p≤a.heap.size):Tq T U p a b:=by
 refine ⟨⟨hg.os,hg.tape,hg.output,hg.size,fun k hk=>hg.block k (by omega) (fun e=>by have:=(hr k e.symm).1;omega)⟩,fun k cur S fz hk h1 _=>hg.block k (Array.getElem?_eq_some_iff.1 hk).1 (fun e=> ?_)⟩
 obtain ⟨_,cur2,fz2,h2⟩:=hr k e.symm
 rw [hk] at h2;injection h2 with h2
 injection h2 with _ h2 _
 exact h1 h2

theorem Tq.set {T U:TypeId} {p:Nat} {a:World} {g:Nat} {cur:Array Value} {S:TypeId} {fz:Nat×Nat} (hg:a.heap[g]? = some (Obj.cells cur S fz)) (hS:S=T∨S=U) (hp:p≤g) (i:Nat) (v:Value):Tq T U p a (a.setCell ⟨g,i,none⟩ v):=by
 refine ⟨(Below.refl p a).setCell (p:=⟨g,i,none⟩) hp v,fun k c2 S2 f2 hk h1 h2=>heap_setCell_other a ⟨g,i,none⟩ k v (fun e=> ?_)⟩;have e:k=g:=e;subst e;rw [hg] at hk;injection hk with hk
 injection hk with _ hk _
 subst hk;rcases hS with h | h
 ·exact h1 h
 ·exact h2 h

abbrev TqC (p : Nat) (w w' : World) : Prop := Tq 92 81 p w w'

def HdT (w:World) (v:Value) (L:List Hd):Prop:=HdAt w v L ∧ ∀ g,v.ownBlock=some g → ∃ cur fz,w.heap[g]? = some (Obj.cells cur 45 fz)

theorem HdAt.same17 {w w':World} {v:Value} {L:List Hd} (h:HdAt w v L) (hk: ∀ g,v.ownBlock=some g→w'.heap[g]? = w.heap[g]?):HdAt w' v L:=by
 obtain ⟨a,cap,rfl,h2,h3,h4⟩:=h
 refine ⟨a,cap,rfl,h2,h3,fun j hj=> ?_⟩
 obtain ⟨b,off,e,c1,c2⟩:=h4 j hj
 have hb:=hk b (by rw [e];rfl)
 exact ⟨b,off,e,(World.cell?_of_block (a:=⟨b,off+j*2,none⟩) hb).trans c1,(World.cell?_of_block (a:=⟨b,off+j*2+1,none⟩) hb).trans c2⟩

theorem own_hdt {w:World} {B:Nat} {v:Value} {L:List Hd} (h:w.ownsRow B 45 2 v L.length (cellsH L)):HdT w v L:=
 ⟨own_hd h,fun g hg=>by
   obtain ⟨cur,hc⟩:=ownsRow_kind h g hg
   exact ⟨cur,_,hc⟩⟩

theorem HdT.tq {p:Nat} {w w':World} {v:Value} {L:List Hd} (h:HdT w v L) (hq:TqC p w w'):HdT w' v L:=by
 have hk: ∀ g,v.ownBlock=some g→w'.heap[g]? = w.heap[g]? :=fun g hg=>by
  obtain ⟨cur,fz,hc⟩:=h.2 g hg
  exact hq.2 g _ _ _ hc (by decide) (by decide)
 exact ⟨h.1.same17 hk,fun g hg=>by rw [hk g hg];exact h.2 g hg⟩

theorem HdT.kept {w w':World} {v:Value} {L:List Hd} (h:HdT w v L) (hb:Below w.heap.size w w'):HdT w' v L:=by
 have hk: ∀ g,v.ownBlock=some g→w'.heap[g]? = w.heap[g]? :=fun g hg=>by
  obtain ⟨cur,fz,hc⟩:=h.2 g hg
  exact hb.block g (Array.getElem?_eq_some_iff.1 hc).1
 exact ⟨h.1.same17 hk,fun g hg=>by rw [hk g hg];exact h.2 g hg⟩

def DenZ (G:Nat→Prop) (w:World) (B M:Nat) (z:Zr):Prop:=
 OwM G w B M 145 3 z.c z.r.ch.length (cellsC z.r.ch)∧OwM G w B M 45 2 z.h z.r.rp.hd.length (cellsH z.r.rp.hd)∧OwM G w B M 5 1 z.b z.r.rp.bd.length (cellsB z.r.rp.bd)

theorem DenZ.kept {w w':World} {B M:Nat} {z:Zr} (h:DenZ G w B M z) (hb:Below M w w'):DenZ G w' B M z:=⟨h.1.kept hb,h.2.1.kept hb,h.2.2.kept hb⟩

theorem DenZ.mono {w:World} {B M M':Nat} {z:Zr} (h:DenZ G w B M z) (hm:M≤M'):DenZ G w B M' z:=⟨h.1.mono hm,h.2.1.mono hm,h.2.2.mono hm⟩

theorem DenZ.tq {p:Nat} {w w':World} {B M:Nat} {z:Zr} (h:DenZ G w B M z) (hq:TqC p w w'):DenZ G w' B M z:=
 ⟨hq.owm h.1 (by decide) (by decide),hq.owm h.2.1 (by decide) (by decide),hq.owm h.2.2 (by decide) (by decide)⟩

theorem DenZ.form {w:World} {B M:Nat} {z:Zr} (h:DenZ G w B M z): ∃ ca cc ha hc ba bc,z.c = .slice ca z.r.ch.length cc∧z.h = .slice ha z.r.rp.hd.length hc∧z.b = .slice ba z.r.rp.bd.length bc:=by
 obtain ⟨ca,cc,e1⟩:=own_sl16 h.1.1
 obtain ⟨ha,hc,e2⟩:=own_sl16 h.2.1.1
 obtain ⟨ba,bc,e3⟩:=own_sl16 h.2.2.1
 exact ⟨ca,cc,ha,hc,ba,bc,e1,e2,e3⟩

theorem DenZ.one {w:World} {B M:Nat} {z:Zr} (h:DenZ G w B M z): ∀ u ∈ zCells z,u.oneCell'=true:=by
 obtain ⟨ca,cc,ha,hc,ba,bc,e1,e2,e3⟩:=h.form
 intro u hu;unfold zCells at hu;rw [e1,e2,e3] at hu
 simp at hu;rcases hu with rfl | rfl | rfl | rfl | rfl | rfl | rfl<;>rfl

def gMax:Nat:=2

def CaI (G:Nat→Prop) (w:World) (p M:Nat) (C:CaS):Prop:=
 (p+1≤M∧M≤w.heap.size∧gMax<p∧G5 w) ∧ ∃ a cap Z,w.heap[p]? = some (.cells #[.slice a C.rows.length cap,.int .i64 C.tn] 81 (0,0))∧OwM G w (p+1) M 92 7 (.slice a C.rows.length cap) C.rows.length (cellsZ Z)∧Z.map (·.r)=C.rows ∧ ∀ z ∈ Z,DenZ G w (p+1) M z

theorem G5.low17 {w w':World} {p:Nat} (h:G5 w) (hp:gMax<p) (hb:Below p w w'):G5 w':=by
 obtain ⟨m,hm⟩:=h
 exact ⟨m,(hb.cell (p:=⟨2,0,none⟩) hp).trans hm⟩

theorem CaI.kept {w w':World} {p M:Nat} {C:CaS} (h:CaI G w p M C) (hb:Below M w w'):CaI G w' p M C:=by
 obtain ⟨⟨h1,h2,h3,h4⟩,a,cap,Z,c1,c2,c3,c4⟩:=h
 exact ⟨⟨h1,Nat.le_trans h2 hb.size,h3,h4.low17 h3 (hb.mono (by omega))⟩,a,cap,Z,(hb.block p (by omega)).trans c1,c2.kept hb,c3,fun z hz=>(c4 z hz).kept hb⟩

theorem CaI.size {w:World} {p M:Nat} {C:CaS} (h:CaI G w p M C):CaI G w p w.heap.size C:=by
 obtain ⟨⟨h1,h2,h3,h4⟩,a,cap,Z,c1,c2,c3,c4⟩:=h
 exact ⟨⟨by omega,Nat.le_refl _,h3,h4⟩,a,cap,Z,c1,c2.mono h2,c3,fun z hz=>(c4 z hz).mono h2⟩

end Go.Proofs.YtpopljcmkbchcaaGreatDoor

namespace Go.Proofs.YtpopljcmkbchcaaGreatDoor
open Go.RowKit

def Szo (L:List Hd):Prop:=Szd 140737488351232 L∧L.length≤1000000∧bulkV L≤1000000

theorem Hk.szo {L:List Hd} (h:Hk L):Szo L:=h.szd

def Th3 (w:World) (b:Nat) (n v:ByteArray) (t:Bool):Prop:=w.heap[b]? = some (.cells #[.string n,.string v,.bool t] 145 (0,0))

theorem Th3.range {w:World} {b:Nat} {n v:ByteArray} {t:Bool} (h:Th3 w b n v t):w.rangeAt b 0 [.string n,.string v,.bool t]:=fun j u hu=>by
 rw [Nat.zero_add,Lib.cell_of_heap h]
 match j,hu with
 | 0,hu=>simpa using hu
 | 1,hu=>simpa using hu
 | 2,hu=>simpa using hu
 | j+3,hu=>simp at hu

theorem Th3.cells {w:World} {b:Nat} {n v:ByteArray} {t:Bool} (h:Th3 w b n v t):w.cell? ⟨b,0,none⟩=some (.string n)∧w.cell? ⟨b,1,none⟩=some (.string v)∧w.cell? ⟨b,2,none⟩=some (.bool t)∧w.frozen? ⟨b,0,none⟩=false∧w.frozen? ⟨b,1,none⟩=false∧w.frozen? ⟨b,2,none⟩=false:=
 ⟨by rw [Lib.cell_of_heap h];rfl,by rw [Lib.cell_of_heap h];rfl,by rw [Lib.cell_of_heap h];rfl,Lib.frozen_of_heap h 0,Lib.frozen_of_heap h 1,Lib.frozen_of_heap h 2⟩

theorem Th3.set {w:World} {b:Nat} {n v n' v':ByteArray} {t t':Bool} (h:Th3 w b n v t):Th3 (((w.setCell ⟨b,0,none⟩ (.string n')).setCell ⟨b,1,none⟩ (.string v')).setCell ⟨b,2,none⟩ (.bool t')) b n' v' t':=by
 have h1:=Lib.heap_setCell_same h (i:=0) (.string n');have h2:=Lib.heap_setCell_same h1 (i:=1) (.string v');exact Lib.heap_setCell_same h2 (i:=2) (.bool t')

theorem results_ch {fn:Func} {p:Tmp} (h:fn.results = #[.cell p 145]) (tmps:Array Value) (w:World) (b:Nat) (n v:ByteArray) (t:Bool) (hp:tmps.getD p undef = .pointer (some ⟨b,0,none⟩)) (hc:w.rangeAt b 0 [.string n,.string v,.bool t]):(results fn tmps).run Tryz.prog w = .ok (.agg #[.string n,.string v,.bool t]) w:=by
 rw [Array.getD_eq_getD_getElem?] at hp;simp only [results,h]
 simp [Sem.run_bind,Result.andThen,hp,asAddr,run_loadVar_mid w b 0 145 [.string n,.string v,.bool t] _ hc Tryz.underlying145 rfl (by kernel_rfl)]

set_option maxHeartbeats 2000000 in
theorem choose_any (v:Value) (A:List Hd) (n:ByteArray) (w:World) (h:HdAt w v A) (hz:Szo A) (hn:n.size≤140737488351232):
 Calls Tryz.prog 107 #[v,.string n] w fun e w'=>e = .returned (.agg #[.string n,.string ⟨(getT A n.data.toList).toArray⟩,.bool (getB A n.data.toList)])∧Below w.heap.size w w':=by
 have HG:=hid (fun (Y:World) (hY:Below w.heap.size w Y)=>get_any v A n Y (h.kept hY) hn hz.1 hz.2.1 (by have:=hz.2.2;omega));obtain ⟨a1,c1,rfl,_,_,_⟩:=h.view
 obtain ⟨T,hT⟩: ∃ T:ByteArray,T=⟨(getT A n.data.toList).toArray⟩:=⟨_,rfl⟩
 obtain ⟨t,ht⟩: ∃ t,t=getB A n.data.toList:=⟨_,rfl⟩
 rw [← hT,← ht] at HG ⊢;have H0:=hid (show Th3 (w.alloc (.cells #[.string ByteArray.empty,.string ByteArray.empty,.bool false] 145)) w.heap.size ByteArray.empty ByteArray.empty false from heap_alloc_new _ _);clear h hT ht hz
 go_enter Tryz.func107,Tryz.ntmps107
 go_wp2_with fail
 refine (HG.out _ ((Below.refl _ w).alloc (Nat.le_refl _) _)).mono ?_;rintro e w1 ⟨rfl,hb1⟩
 have hh1:Th3 w1 w.heap.size ByteArray.empty ByteArray.empty false:=(hb1.block _ (by simp)).trans H0.out;obtain ⟨c0,c1,c2,f0,f1,f2⟩:=hh1.cells
 have hbw:Below w.heap.size w w1:=(belowA (Below.refl _ w) _).trans (hb1.mono (by simp));have HH:=hid hh1;clear hh1
 go_wp2
 exact bodyPost_ret (results_ch rfl _ _ w.heap.size n T t rfl HH.out.set.range) rfl ⟨rfl,((hbw.setCell (p:=⟨w.heap.size,0,none⟩) (Nat.le_refl _) _).setCell (p:=⟨w.heap.size,1,none⟩) (Nat.le_refl _) _).setCell (p:=⟨w.heap.size,2,none⟩) (Nat.le_refl _) _⟩

theorem sizeCh:(Tryz.prog.info? 145).map (·.size)=some 3:=by kernel_rfl

def choVal (c:Cho):Value:= .agg #[.string ⟨c.name.toArray⟩,.string ⟨c.value.toArray⟩,.bool c.there]

set_option maxHeartbeats 4000000 in
theorem meant11_any (pa:Nat) (v:Value) (A:List Hd) (c:Cho) (w:World) (h:HdAt w v A) (hz:Szo A) (hp:w.cell? ⟨pa,0,none⟩=some v) (hn:c.name.length≤140737488351232):
 Calls Tryz.prog 106 #[choVal c,.pointer (some ⟨pa,0,none⟩)] w fun e w'=>e = .returned (.bool (decide (choV A c.name≠c)))∧Below w.heap.size w w':=by
 obtain ⟨n',v',t'⟩:=c
 obtain ⟨N,hN⟩: ∃ N:ByteArray,N=⟨n'.toArray⟩:=⟨_,rfl⟩
 obtain ⟨V,hV⟩: ∃ N:ByteArray,N=⟨v'.toArray⟩:=⟨_,rfl⟩
 have hNl:N.data.toList=n':=by rw [hN]
 have HG:=hid (fun (Y:World) (hY:Below w.heap.size w Y)=>choose_any v A N Y (h.kept hY) hz (by rw [hN,xsize];exact hn));obtain ⟨a1,c1,rfl,_,_,_⟩:=h.view
 rw [hNl] at HG;obtain ⟨T,hT⟩: ∃ T:ByteArray,T=⟨(getT A n').toArray⟩:=⟨_,rfl⟩
 obtain ⟨t,ht⟩: ∃ t,t=getB A n':=⟨_,rfl⟩
 rw [← hT,← ht] at HG;have HR:=hid (show decide (choV A n'≠⟨n',v',t'⟩) = !(decide (T=V)&&decide (t=t')) by
  unfold choV;rw [← ht];have e:(getT A n'=v') ↔ T=V:=by
   rw [hT,hV]
   constructor
   ·rintro rfl;rfl
   ·intro h;have:=congrArg (fun b:ByteArray=>b.data.toList) h;simpa using this
  by_cases h1:T=V
  ·have h2:=e.2 h1
   by_cases h3:t=t'<;>simp [h1,h2,h3]
  ·have h2: ¬ getT A n'=v':=fun h=>h1 (e.1 h)
   simp [h1,h2])
 unfold choVal;dsimp only;rw [← hN,← hV];rw [HR.out];obtain ⟨W1,hW1⟩: ∃ X,w.alloc (.cells #[.string N,.string V,.bool t'] 145)=X:=⟨_,rfl⟩
 have hb1:Below w.heap.size w W1:=by rw [← hW1];exact (Below.refl _ w).alloc (Nat.le_refl _) _
 have hr1:Th3 W1 w.heap.size N V t':=by rw [← hW1];exact heap_alloc_new w _
 have d0:W1.cell? ⟨pa,0,none⟩=some (.slice a1 A.length c1):=(hb1.cell (World.block_lt_of_cell? w _ hp)).trans hp
 obtain ⟨d1,d2,d3,f1,f2,f3⟩:=hr1.cells
 have HB1:=hid hb1;have HW1:=hid hW1;have HC:=hid (fun (Y:World) (hY:Below W1.heap.size W1 Y)=>HG.out Y (below2_Efc hb1 hY));have HT3:=hid hr1;have HP:=hid d0;have HW1s:=hid (show W1.heap.size=w.heap.size+1 by rw [← hW1];simp);clear h hz hp hn hN hV hNl hT ht HG hb1 hr1 HR;have HKF:=hid (fun (Z:World) (hZ:Below W1.heap.size W1 Z)=>(show Z.cell? ⟨pa,0,none⟩=some (.slice a1 A.length c1)∧Z.cell? ⟨w.heap.size,0,none⟩=some (.string N)∧Z.cell? ⟨w.heap.size,1,none⟩=some (.string V)∧Z.cell? ⟨w.heap.size,2,none⟩=some (.bool t') from by
  have h3:Th3 Z w.heap.size N V t':=(hZ.block _ (by have:=HW1s.out;omega)).trans HT3.out;exact ⟨(hZ.cell (World.block_lt_of_cell? W1 _ HP.out)).trans HP.out,h3.cells.1,h3.cells.2.1,h3.cells.2.2.1⟩))
 have HRN:=hid (fun (Z:World) (hZ:Below W1.heap.size W1 Z)=>(show Z.rangeAt w.heap.size 0 [.string N,.string V,.bool t'] from by
  have h3:Th3 Z w.heap.size N V t':=(hZ.block _ (by have:=HW1s.out;omega)).trans HT3.out;exact h3.range))
 have HQ0:=hid ((Below.refl W1.heap.size W1).drew);clear d0 d1 d2 d3 f1 f2 f3;by_cases h1:T=V
 ·subst h1
  by_cases h2:t=t'
  ·subst h2
   go_enter Tryz.func106,Tryz.ntmps106
   go_upto_region 1 with fail
   refine wp_region_held_drew (S:=(fun wx=>Below W1.heap.size W1 wx)) (by kernel_rfl) HQ0.out (fun hHeld=> ?_)
   refine wpAnyH_to (fuel':=7) (listed':= #[false,false,false,false,false,false,false]) rfl rfl ?_
   refine' wpAnyH_take (i:=0) (oi:=⟨some 4,_,_,_,_,_⟩) (v:=_) rfl (by kernel_rfl) (by kernel_rfl) (by kernel_rfl) (fun _ _ _ h=>h) (Or.inl ⟨by kernel_rfl,?hyca1⟩) (by assumption) ?restca1
   case hyca1=>(intro wx hSw;(try dsimp only at hSw);obtain ⟨f1,f2,f3,f4⟩:=HKF.out _ hSw;go_simp;first | done | with_reducible rfl)
   (try simp only [Act.put,List.setIfInBounds_toArray,List.set_cons_zero,List.set_cons_succ])
   refine' wpAnyH_take (i:=1) (oi:=⟨some 5,_,_,_,_,_⟩) (v:=_) rfl (by kernel_rfl) (by kernel_rfl) (by kernel_rfl) (fun _ _ _ h=>h) (Or.inl ⟨by kernel_rfl,?hyca2⟩) (by assumption) ?restca2
   case hyca2=>(intro wx hSw;(try dsimp only at hSw);obtain ⟨f1,f2,f3,f4⟩:=HKF.out _ hSw;go_simp;first | done | with_reducible rfl)
   (try simp only [Act.put,List.setIfInBounds_toArray,List.set_cons_zero,List.set_cons_succ])
   refine' wpAnyH_take (i:=2) (oi:=⟨some 6,_,_,_,_,_⟩) (v:=_) rfl (by kernel_rfl) (by kernel_rfl) (by kernel_rfl) (fun _ _ _ h=>h) (Or.inl ⟨by kernel_rfl,?hyca3⟩) (by assumption) ?restca3
   case hyca3=>(intro wx hSw;(try dsimp only at hSw);obtain ⟨f1,f2,f3,f4⟩:=HKF.out _ hSw;go_simp;first | done | with_reducible rfl)
   (try simp only [Act.put,List.setIfInBounds_toArray,List.set_cons_zero,List.set_cons_succ])
   refine wpAnyH_take (i:=4) (oi:=⟨some 8,_,_,_,_,_⟩) rfl (by kernel_rfl) (by kernel_rfl) (by kernel_rfl) (fun _ _ _ h=>h) (yieldsIf_load_mid (by kernel_rfl) 145 (.tmp 2) rfl (w.heap.size) 0 rfl [.string N,.string T,.bool t] _ HRN.out Tryz.underlying145 rfl sizeCh) (by assumption) ?_
   (try simp only [Act.put,List.setIfInBounds_toArray,List.set_cons_zero,List.set_cons_succ])
   refine wpAnyH_ready (rs:=[3]) (by kernel_rfl) (by simp) ?_
   refine AllReadyH.cons rfl (fun K9 hK=> ?_) AllReadyH.nil;rw [if_pos (by kernel_rfl)]
   go_simp
   go_wp2_with (go_at_call 107;refine (HC.out _ HQ0.out).mono ?_;rintro e w4 ⟨rfl,hba⟩)
   have HQ4:=hid (below2_Efc HQ0.out hba);clear hba;refine hK.out _ _ HQ4.out (fun hHeld2=> ?_);clear hK K9 hHeld
   rename _=>hHeld
   refine' wpAnyH_take (i:=5) (oi:=⟨some 9,_,_,_,_,_⟩) (v:=_) rfl (by kernel_rfl) (by kernel_rfl) (by kernel_rfl) (fun _ _ _ h=>h) (Or.inl ⟨by kernel_rfl,?hyca4⟩) (by assumption) ?restca4
   case hyca4=>(intro wx hSw;(try dsimp only at hSw);obtain ⟨f1,f2,f3,f4⟩:=HKF.out _ hSw;go_simp;first | done | with_reducible rfl)
   (try simp only [Act.put,List.setIfInBounds_toArray,List.set_cons_zero,List.set_cons_succ])
   refine' wpAnyH_take (i:=6) (oi:=⟨some 3,_,_,_,_,_⟩) (v:=_) rfl (by kernel_rfl) (by kernel_rfl) (by kernel_rfl) (fun _ _ _ h=>h) (Or.inl ⟨by kernel_rfl,?hyca5⟩) (by assumption) ?restca5
   case hyca5=>(intro wx hSw;(try dsimp only at hSw);obtain ⟨f1,f2,f3,f4⟩:=HKF.out _ hSw;go_simp;first | done | with_reducible rfl)
   (try simp only [Act.put,List.setIfInBounds_toArray,List.set_cons_zero,List.set_cons_succ])
   refine wpAnyH_done (by kernel_rfl) ?_ _
   go_wp2
   go_ret
   exact ⟨by simp,below2_Efc HB1.out HQ4.out⟩
  ·have hb:(t==t')=false:=beq_eq_false_iff_ne.2 h2
   have HB:=hid (show (!(decide (T=T)&&decide (t=t')))=true by simp [h2]);clear h2
   go_enter Tryz.func106,Tryz.ntmps106
   go_upto_region 1 with fail
   refine wp_region_held_drew (S:=(fun wx=>Below W1.heap.size W1 wx)) (by kernel_rfl) HQ0.out (fun hHeld=> ?_)
   refine wpAnyH_to (fuel':=7) (listed':= #[false,false,false,false,false,false,false]) rfl rfl ?_
   refine' wpAnyH_take (i:=0) (oi:=⟨some 4,_,_,_,_,_⟩) (v:=_) rfl (by kernel_rfl) (by kernel_rfl) (by kernel_rfl) (fun _ _ _ h=>h) (Or.inl ⟨by kernel_rfl,?hycb1⟩) (by assumption) ?restcb1
   case hycb1=>(intro wx hSw;(try dsimp only at hSw);obtain ⟨f1,f2,f3,f4⟩:=HKF.out _ hSw;go_simp;first | done | with_reducible rfl)
   (try simp only [Act.put,List.setIfInBounds_toArray,List.set_cons_zero,List.set_cons_succ])
   refine' wpAnyH_take (i:=1) (oi:=⟨some 5,_,_,_,_,_⟩) (v:=_) rfl (by kernel_rfl) (by kernel_rfl) (by kernel_rfl) (fun _ _ _ h=>h) (Or.inl ⟨by kernel_rfl,?hycb2⟩) (by assumption) ?restcb2
   case hycb2=>(intro wx hSw;(try dsimp only at hSw);obtain ⟨f1,f2,f3,f4⟩:=HKF.out _ hSw;go_simp;first | done | with_reducible rfl)
   (try simp only [Act.put,List.setIfInBounds_toArray,List.set_cons_zero,List.set_cons_succ])
   refine' wpAnyH_take (i:=2) (oi:=⟨some 6,_,_,_,_,_⟩) (v:=_) rfl (by kernel_rfl) (by kernel_rfl) (by kernel_rfl) (fun _ _ _ h=>h) (Or.inl ⟨by kernel_rfl,?hycb3⟩) (by assumption) ?restcb3
   case hycb3=>(intro wx hSw;(try dsimp only at hSw);obtain ⟨f1,f2,f3,f4⟩:=HKF.out _ hSw;go_simp;first | done | with_reducible rfl)
   (try simp only [Act.put,List.setIfInBounds_toArray,List.set_cons_zero,List.set_cons_succ])
   refine wpAnyH_take (i:=4) (oi:=⟨some 8,_,_,_,_,_⟩) rfl (by kernel_rfl) (by kernel_rfl) (by kernel_rfl) (fun _ _ _ h=>h) (yieldsIf_load_mid (by kernel_rfl) 145 (.tmp 2) rfl (w.heap.size) 0 rfl [.string N,.string T,.bool t'] _ HRN.out Tryz.underlying145 rfl sizeCh) (by assumption) ?_
   (try simp only [Act.put,List.setIfInBounds_toArray,List.set_cons_zero,List.set_cons_succ])
   refine wpAnyH_ready (rs:=[3]) (by kernel_rfl) (by simp) ?_
   refine AllReadyH.cons rfl (fun K9 hK=> ?_) AllReadyH.nil;rw [if_pos (by kernel_rfl)]
   go_simp
   go_wp2_with (go_at_call 107;refine (HC.out _ HQ0.out).mono ?_;rintro e w4 ⟨rfl,hba⟩)
   have HQ4:=hid (below2_Efc HQ0.out hba);clear hba;refine hK.out _ _ HQ4.out (fun hHeld2=> ?_);clear hK K9 hHeld
   rename _=>hHeld
   refine' wpAnyH_take (i:=5) (oi:=⟨some 9,_,_,_,_,_⟩) (v:=_) rfl (by kernel_rfl) (by kernel_rfl) (by kernel_rfl) (fun _ _ _ h=>h) (Or.inl ⟨by kernel_rfl,?hycb4⟩) (by assumption) ?restcb4
   case hycb4=>(intro wx hSw;(try dsimp only at hSw);obtain ⟨f1,f2,f3,f4⟩:=HKF.out _ hSw;go_simp;first | done | with_reducible rfl)
   (try simp only [Act.put,List.setIfInBounds_toArray,List.set_cons_zero,List.set_cons_succ])
   refine' wpAnyH_take (i:=6) (oi:=⟨some 3,_,_,_,_,_⟩) (v:=_) rfl (by kernel_rfl) (by kernel_rfl) (by kernel_rfl) (fun _ _ _ h=>h) (Or.inl ⟨by kernel_rfl,?hycb5⟩) (by assumption) ?restcb5
   case hycb5=>(intro wx hSw;(try dsimp only at hSw);obtain ⟨f1,f2,f3,f4⟩:=HKF.out _ hSw;go_simp;first | done | with_reducible rfl)
   (try simp only [Act.put,List.setIfInBounds_toArray,List.set_cons_zero,List.set_cons_succ])
   refine wpAnyH_done (by kernel_rfl) ?_ _
   go_wp2
   go_ret
   exact ⟨by rw [HB.out];rfl,below2_Efc HB1.out HQ4.out⟩
 ·have hb:(T.toList==V.toList)=false:=strNe h1
  have HB:=hid (show (!(decide (T=V)&&decide (t=t')))=true by simp [h1]);clear h1
  go_enter Tryz.func106,Tryz.ntmps106
  go_upto_region 1 with fail
  refine wp_region_held_drew (S:=(fun wx=>Below W1.heap.size W1 wx)) (by kernel_rfl) HQ0.out (fun hHeld=> ?_)
  refine wpAnyH_to (fuel':=7) (listed':= #[false,false,false,false,false,false,false]) rfl rfl ?_
  refine' wpAnyH_take (i:=0) (oi:=⟨some 4,_,_,_,_,_⟩) (v:=_) rfl (by kernel_rfl) (by kernel_rfl) (by kernel_rfl) (fun _ _ _ h=>h) (Or.inl ⟨by kernel_rfl,?hycc1⟩) (by assumption) ?restcc1
  case hycc1=>(intro wx hSw;(try dsimp only at hSw);obtain ⟨f1,f2,f3,f4⟩:=HKF.out _ hSw;go_simp;first | done | with_reducible rfl)
  (try simp only [Act.put,List.setIfInBounds_toArray,List.set_cons_zero,List.set_cons_succ])
  refine' wpAnyH_take (i:=1) (oi:=⟨some 5,_,_,_,_,_⟩) (v:=_) rfl (by kernel_rfl) (by kernel_rfl) (by kernel_rfl) (fun _ _ _ h=>h) (Or.inl ⟨by kernel_rfl,?hycc2⟩) (by assumption) ?restcc2
  case hycc2=>(intro wx hSw;(try dsimp only at hSw);obtain ⟨f1,f2,f3,f4⟩:=HKF.out _ hSw;go_simp;first | done | with_reducible rfl)
  (try simp only [Act.put,List.setIfInBounds_toArray,List.set_cons_zero,List.set_cons_succ])
  refine' wpAnyH_take (i:=2) (oi:=⟨some 6,_,_,_,_,_⟩) (v:=_) rfl (by kernel_rfl) (by kernel_rfl) (by kernel_rfl) (fun _ _ _ h=>h) (Or.inl ⟨by kernel_rfl,?hycc3⟩) (by assumption) ?restcc3
  case hycc3=>(intro wx hSw;(try dsimp only at hSw);obtain ⟨f1,f2,f3,f4⟩:=HKF.out _ hSw;go_simp;first | done | with_reducible rfl)
  (try simp only [Act.put,List.setIfInBounds_toArray,List.set_cons_zero,List.set_cons_succ])
  refine wpAnyH_take (i:=4) (oi:=⟨some 8,_,_,_,_,_⟩) rfl (by kernel_rfl) (by kernel_rfl) (by kernel_rfl) (fun _ _ _ h=>h) (yieldsIf_load_mid (by kernel_rfl) 145 (.tmp 2) rfl (w.heap.size) 0 rfl [.string N,.string V,.bool t'] _ HRN.out Tryz.underlying145 rfl sizeCh) (by assumption) ?_
  (try simp only [Act.put,List.setIfInBounds_toArray,List.set_cons_zero,List.set_cons_succ])
  refine wpAnyH_ready (rs:=[3]) (by kernel_rfl) (by simp) ?_
  refine AllReadyH.cons rfl (fun K9 hK=> ?_) AllReadyH.nil;rw [if_pos (by kernel_rfl)]
  go_simp
  go_wp2_with (go_at_call 107;refine (HC.out _ HQ0.out).mono ?_;rintro e w4 ⟨rfl,hba⟩)
  have HQ4:=hid (below2_Efc HQ0.out hba);clear hba;refine hK.out _ _ HQ4.out (fun hHeld2=> ?_);clear hK K9 hHeld
  rename _=>hHeld
  refine' wpAnyH_take (i:=5) (oi:=⟨some 9,_,_,_,_,_⟩) (v:=_) rfl (by kernel_rfl) (by kernel_rfl) (by kernel_rfl) (fun _ _ _ h=>h) (Or.inl ⟨by kernel_rfl,?hycc4⟩) (by assumption) ?restcc4
  case hycc4=>(intro wx hSw;(try dsimp only at hSw);obtain ⟨f1,f2,f3,f4⟩:=HKF.out _ hSw;go_simp;first | done | with_reducible rfl)
  (try simp only [Act.put,List.setIfInBounds_toArray,List.set_cons_zero,List.set_cons_succ])
  refine' wpAnyH_take (i:=6) (oi:=⟨some 3,_,_,_,_,_⟩) (v:=_) rfl (by kernel_rfl) (by kernel_rfl) (by kernel_rfl) (fun _ _ _ h=>h) (Or.inl ⟨by kernel_rfl,?hycc5⟩) (by assumption) ?restcc5
  case hycc5=>(intro wx hSw;(try dsimp only at hSw);obtain ⟨f1,f2,f3,f4⟩:=HKF.out _ hSw;go_simp;first | done | with_reducible rfl)
  (try simp only [Act.put,List.setIfInBounds_toArray,List.set_cons_zero,List.set_cons_succ])
  refine wpAnyH_done (by kernel_rfl) ?_ _
  go_wp2
  go_ret
  exact ⟨by rw [HB.out];rfl,below2_Efc HB1.out HQ4.out⟩

end Go.Proofs.YtpopljcmkbchcaaGreatDoor
