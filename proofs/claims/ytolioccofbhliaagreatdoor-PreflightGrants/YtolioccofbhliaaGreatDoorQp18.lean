/-
  Walks and plain facts that this claim leans on, put together out of 9 texts: Efc, Efe, Eha, Ehb, Ejb, Ehc, Ehd, Ehe, Ehf.
-/
import Derived.Test.YtolioccofbhliaaGreatDoorProg
import Derived.Test.YtolioccofbhliaaGreatDoorQp1
import Derived.Test.YtolioccofbhliaaGreatDoorQp2
import Derived.Test.YtolioccofbhliaaGreatDoorQp3
import Derived.Test.YtolioccofbhliaaGreatDoorQp13
import Derived.Test.YtolioccofbhliaaGreatDoorQp14
import Derived.Test.YtolioccofbhliaaGreatDoorQp16
import Derived.Test.YtolioccofbhliaaGreatDoorQp17
import Derived.BigRegion
import Derived.Deep.RegionHeld
import Derived.Deep.RegionHeldLaw
import Derived.Lib.IndexAny
import Derived.WalkKit
import Derived.Lib.UnsafeStr
import Derived.Lib.BufferRead
import Derived.Lib.RuneBytes
import Derived.Laws.RangeAny
import Derived.Deep.LoopGhost
import Derived.Maps.OwnSet
import Derived.Maps.OwnOps
import Derived.Maps.AppendAt
import Derived.StringKeys
import Derived.BigQuiet
import Derived.Deep.QuietTactic
import Derived.LoopN
import Derived.RegionTactic
import Derived.Deep.RegionLaw
import Derived.Deep.RegionWith
import Derived.WalkSpells
import Derived.WalkLawsBesides
import Derived.Lib.FieldsP
import Derived.Lib.DecodeN
import Derived.Lib.IndexMore
import Derived.Lib.Join
import Derived.Lib.SmallJoins
import Derived.Laws.CopyOwn
import Derived.Laws.ResultCell
import Derived.Deep.MidRow
import Derived.Laws.OwnMore
import Derived.Below
import Derived.WalkSmall
import Derived.Lib.LaidTab
import Derived.Lib.AppendIntMem
import Derived.Laws.AppendOwn
import Derived.Laws.Runes
import Derived.Lib.OthersKept
import Derived.Lib.FrozenHead2
import Derived.Lib.Builder
import Derived.Lib.AppendStr
import Derived.Lib.Replace
import Derived.Shelf.GgClosure.GivesRunes
import Derived.Laws.BitsAll
import Derived.Laws.Shifts
import Derived.Deep.DeepAppendRoom
import Derived.Laws.IdiomStrings
import Derived.Laws.BytesString
import Derived.Laws.CopyRow
import Derived.Sort.OwnSorted
import Derived.Lib.SlicesCompact
import Derived.Lib.Strings
import Derived.Laws.BitsAllLaws
import Derived.Lib.Bytealg
import Derived.Lib.BufferMore
import Derived.Shelf.Strings.Builder1
import Derived.Shelf.Strings.Builder2
import Derived.Shelf.Strings.OnBuilder
import Derived.Shelf.Strings.Trim
import Derived.Shelf.Small.Utf8
import Derived.Shelf.Small.Bits
import Derived.Shelf.Small.Strs
import Derived.Shelf.Small.Wraps
import Derived.Shelf.Strings.BuilderF
import Derived.Shelf.Strings.BuilderK
import Derived.Shelf.Strings.Builder2Cap
import Derived.Shelf.Strconv.Itoa0
import Derived.Shelf.Strconv.Itoa1
import Derived.Shelf.LaysM
import Derived.Shelf.Strconv.Itoa2
import Derived.Shelf.Strconv.Itoa3
import Derived.Shelf.Strings.Search1
import Derived.Shelf.Strings.Search2
import Derived.Shelf.Strings.Cut
import Derived.Shelf.Strings.Shaped
import Derived.Shelf.Sort.Plain
import Derived.Shelf.Strings.Prefix
import Derived.Shelf.Strings.Runes
import Derived.Shelf.Strings.IndexAny
import Derived.Shelf.Strings.AsciiSet
import Derived.Shelf.Strings.IndexAnyAll
import Derived.Shelf.Unicode.DecodeSlow
import Derived.Shelf.Unicode.DecodeAny
import Derived.Shelf.Unicode.DecodeLast
import Derived.Shelf.Slices.CompactS
import Derived.Shelf.Slices.In.SortNone
import Derived.Ground.SlgnProg
import Derived.Shelf.SlicesE.Compact
import Derived.Ground.SlgfProg
import Derived.Shelf.SlicesE.IndexFunc
import Derived.Shelf.SlicesE.DeleteFunc
import Derived.Lib.SlTrimSet
import Derived.Shelf.Strings.SlTrimAscii
import Derived.Deep.CutRange
import Derived.Laws.Rows
import Derived.Laws.MakeOwn
import Derived.Deep.WholeRow
import Derived.Laws.AppendOwnNone
import Derived.Sort.KeysCollected
import Derived.Lib.Case
import Derived.Lib.LastIndexByte
import Derived.Scope
import Derived.ScopeJumps
import Derived.WalkMore
import Derived.Lib.TrimByte
import Derived.Lib.ItoaNum
import Derived.OwnWalk
import Derived.Lib.SliceRun
set_option linter.unusedSimpArgs false
set_option linter.unusedVariables false

namespace Go.Proofs.YtolioccofbhliaaGreatDoor
open Go.RowKit

theorem below2_Efc {a b c:World} (h1:Below a.heap.size a b) (h2:Below b.heap.size b c):Below a.heap.size a c:=h1.trans (h2.mono h1.size)

theorem ret_i16 {a b:Int} (h:a=b):Ending.returned (.int .i64 a) = .returned (.int .i64 b):=by rw [h]

def CtC (T:TypeId) (w:World) (b:Nat) (c:Ctl):Prop:=w.heap[b]? = some (.cells #[.bool c.ns,.bool c.nc,.int .i64 c.mx] T (0,0))

theorem CtC.lt {T:TypeId} {w:World} {b:Nat} {c:Ctl} (h:CtC T w b c):b<w.heap.size:=(Array.getElem?_eq_some_iff.1 h).1

theorem CtC.kept {T:TypeId} {w w':World} {b:Nat} {c:Ctl} (h:CtC T w b c) (hb:Below w.heap.size w w'):CtC T w' b c:=(hb.block b h.lt).trans h

theorem CtC.range {T:TypeId} {w:World} {b:Nat} {c:Ctl} (h:CtC T w b c):w.rangeAt b 0 [.bool c.ns,.bool c.nc,.int .i64 c.mx]:=fun j u hu=>by
 rw [Nat.zero_add,Lib.cell_of_heap h]
 match j,hu with
 | 0,hu=>simpa using hu
 | 1,hu=>simpa using hu
 | 2,hu=>simpa using hu
 | j+3,hu=>simp at hu

theorem CtC.cells {T:TypeId} {w:World} {b:Nat} {c:Ctl} (h:CtC T w b c):w.cell? ⟨b,0,none⟩=some (.bool c.ns)∧w.cell? ⟨b,1,none⟩=some (.bool c.nc)∧w.cell? ⟨b,2,none⟩=some (.int .i64 c.mx)∧w.frozen? ⟨b,0,none⟩=false∧w.frozen? ⟨b,1,none⟩=false∧w.frozen? ⟨b,2,none⟩=false:=
 ⟨by rw [Lib.cell_of_heap h];rfl,by rw [Lib.cell_of_heap h];rfl,by rw [Lib.cell_of_heap h];rfl,Lib.frozen_of_heap h 0,Lib.frozen_of_heap h 1,Lib.frozen_of_heap h 2⟩

theorem CtC.set {T:TypeId} {w:World} {b:Nat} {c:Ctl} (h:CtC T w b c) (j:Nat) (x:Value) (d:Ctl) (he:(#[.bool c.ns,.bool c.nc,.int .i64 c.mx]:Array Value).setIfInBounds j x = #[.bool d.ns,.bool d.nc,.int .i64 d.mx]):CtC T (w.setCell ⟨b,j,none⟩ x) b d:=by
 have:=Lib.heap_setCell_same h (i:=j) x;rw [he] at this;exact this

theorem CtC.far {T:TypeId} {w:World} {b b2:Nat} {c:Ctl} (h:CtC T w b c) (hne:b≠b2) (j:Nat) (x:Value):CtC T (w.setCell ⟨b2,j,none⟩ x) b c:=(heap_setCell_other _ ⟨b2,j,none⟩ b _ hne).trans h

def CtP (T:TypeId) (w wr:World) (v:Value) (P:List (List UInt8)) (c:Ctl):Prop:=
 CtC T wr w.heap.size ⟨false,false,0⟩∧CtC T wr (w.heap.size+1) c∧wr.ownsRow (w.heap.size+2) 9 1 v P.length (cellsT P)∧Below w.heap.size w wr

theorem CtP.kept {T:TypeId} {w wr w':World} {v:Value} {P:List (List UInt8)} {c:Ctl} (h:CtP T w wr v P c) (hb:Below wr.heap.size wr w'):CtP T w w' v P c:=
 ⟨h.1.kept hb,h.2.1.kept hb,own_same h.2.2.1 hb,h.2.2.2.trans (hb.mono h.2.2.2.size)⟩

theorem CtP.set {T:TypeId} {w wr:World} {v:Value} {P:List (List UInt8)} {c:Ctl} (h:CtP T w wr v P c) (j:Nat) (x:Value) (d:Ctl) (he:(#[.bool c.ns,.bool c.nc,.int .i64 c.mx]:Array Value).setIfInBounds j x = #[.bool d.ns,.bool d.nc,.int .i64 d.mx]):CtP T w (wr.setCell ⟨w.heap.size+1,j,none⟩ x) v P d:=by
 obtain ⟨h1,h2,h3,h4⟩:=h
 refine ⟨h1.far (by omega) j x,h2.set j x d he,ownsRow_same h3 fun g hg=> ?_,h4.setCell (p:=⟨w.heap.size+1,j,none⟩) (by simp) x⟩;have:=(h3.lt g hg).1;exact heap_setCell_other _ ⟨w.heap.size+1,j,none⟩ g _ (by show g≠w.heap.size+1;omega)

theorem CtP.at {T:TypeId} {w wr:World} {v:Value} {P:List (List UInt8)} {c:Ctl} (h:CtP T w wr v P c) {a:Option Addr} {n cp:Nat} (hv:v = .slice a n cp) (k:Nat) (hk:k<P.length): ∃ b off,a=some ⟨b,off,none⟩∧wr.cell? ⟨b,off+k,none⟩=some (.string ⟨P[k].toArray⟩):=by
 obtain ⟨a',c',e,_,_,h2⟩:=(own_txt' h.2.2.1).view
 rw [hv] at e;injection e with e1 _ _
 subst e1;exact h2 k hk

def CtPost (T:TypeId) (c:Ctl) (w:World) (e:Ending) (w':World):Prop:=e = .returned (.agg #[.bool c.ns,.bool c.nc,.int .i64 c.mx])∧Below w.heap.size w w'

theorem CtP.out {T:TypeId} {w wr:World} {v:Value} {P:List (List UInt8)} {c:Ctl} (h:CtP T w wr v P c):
 (((wr.setCell ⟨w.heap.size,0,none⟩ (.bool c.ns)).setCell ⟨w.heap.size,1,none⟩ (.bool c.nc)).setCell ⟨w.heap.size,2,none⟩ (.int .i64 c.mx)).rangeAt w.heap.size 0 [.bool c.ns,.bool c.nc,.int .i64 c.mx] ∧
 CtPost T c w (.returned (.agg #[.bool c.ns,.bool c.nc,.int .i64 c.mx])) (((wr.setCell ⟨w.heap.size,0,none⟩ (.bool c.ns)).setCell ⟨w.heap.size,1,none⟩ (.bool c.nc)).setCell ⟨w.heap.size,2,none⟩ (.int .i64 c.mx)):=by
 obtain ⟨h1,h2,h3,h4⟩:=h
 have k1:CtC T (wr.setCell ⟨w.heap.size,0,none⟩ (.bool c.ns)) w.heap.size ⟨c.ns,false,0⟩:=h1.set 0 _ _ rfl
 have k2:CtC T ((wr.setCell ⟨w.heap.size,0,none⟩ (.bool c.ns)).setCell ⟨w.heap.size,1,none⟩ (.bool c.nc)) w.heap.size ⟨c.ns,c.nc,0⟩:=k1.set 1 _ _ rfl
 have k3:CtC T (((wr.setCell ⟨w.heap.size,0,none⟩ (.bool c.ns)).setCell ⟨w.heap.size,1,none⟩ (.bool c.nc)).setCell ⟨w.heap.size,2,none⟩ (.int .i64 c.mx)) w.heap.size c:=k2.set 2 _ _ rfl;refine ⟨k3.range,rfl,?_⟩
 exact ((h4.setCell (p:=⟨w.heap.size,0,none⟩) (Nat.le_refl _) _).setCell (p:=⟨w.heap.size,1,none⟩) (Nat.le_refl _) _).setCell (p:=⟨w.heap.size,2,none⟩) (Nat.le_refl _) _

def SpPost (P:List (List UInt8)) (w:World) (e:Ending) (w':World):Prop:=
 ∃ v b,e = .returned (.tuple #[v,.bool b])∧w'.ownsRow w.heap.size 9 1 v P.length (cellsT P)∧Below w.heap.size w w'

set_option maxHeartbeats 2000000 in
theorem split_none16 (v:Value) (L:List Hd) (n:ByteArray) (w:World) (h:HdAt w v L) (hs:n.size≤140737488351232) (hz:Szd 140737488351232 L) (hl:L.length≤1000000) (hb:bulkV L≤1000000000) (hh:getB L n.data.toList=false):
 Calls Tryz.prog 98 #[v,.string n] w fun e w'=>e = .returned (.tuple #[.slice none 0 0,.bool false])∧Below w.heap.size w w':=by
 have HG:=hid (get_any v L n w h hs hz hl (by omega));obtain ⟨T,hT⟩: ∃ T:ByteArray,T=⟨(getT L n.data.toList).toArray⟩:=⟨_,rfl⟩
 rw [← hT,hh] at HG;clear hT h hz hb hh
 go_enter Tryz.func98,Tryz.ntmps98
 go_wp2_with fail
 refine HG.out.mono ?_;rintro e w0 ⟨rfl,hb0⟩
 go_wp2
 go_ret2
 exact ⟨rfl,hb0⟩

theorem split16_any (v:Value) (L:List Hd) (n:ByteArray) (w:World) (h:HdAt w v L) (hs:n.size≤140737488351232) (hz:Szd 140737488351232 L) (hl:L.length≤1000000) (hb:bulkV L≤1000000000):
 Calls Tryz.prog 98 #[v,.string n] w (SpPost (pcsV L n.data.toList) w):=by
 cases hh:getB L n.data.toList with
 | true=>
   refine (hsplit_any v L n w h hs hz hl hb hh).mono ?_;rintro e w' ⟨u,rfl,ho,hb'⟩
   have e:pcsV L n.data.toList=splitV L n.data.toList:=by unfold pcsV;rw [hh];rfl
   unfold SpPost;rw [e];exact ⟨u,true,rfl,ho,hb'⟩
 | false=>
   refine (split_none16 v L n w h hs hz hl hb hh).mono ?_;rintro e w' ⟨rfl,hb'⟩
   have e:pcsV L n.data.toList=[]:=by unfold pcsV;rw [hh];rfl
   unfold SpPost;rw [e];exact ⟨_,false,rfl,World.ownsRow_nil _ _ _ _,hb'⟩

theorem pcs_len16: ∀ (f:Nat) (l:List UInt8),(pcsN f l).length≤f+1 ∧ ∀ p ∈ pcsN f l,p.length≤l.length
 | 0,l=>by unfold pcsN;simp
 | f+1,l=>by
   unfold pcsN
   cases h:cutQ false l with
   | none=>simp
   | some k=>
     obtain ⟨h1,h2⟩:=pcs_len16 f (l.drop (k+1))
     refine ⟨by simp;omega,fun p hp=> ?_⟩
     rcases List.mem_cons.1 hp with rfl | hp
     ·simp;omega
     ·have:=h2 p hp
      rw [List.length_drop] at this;omega

theorem trimB_le16 (l:List UInt8):(trimB l).length≤l.length:=by
 rw [trimB_strip];rw [List.length_reverse];refine Nat.le_trans (List.dropWhile_suffix _).length_le ?_;rw [List.length_reverse];exact (List.dropWhile_suffix _).length_le

theorem pcsV_len16 (L:List Hd) (n:List UInt8):(pcsV L n).length≤bulkV L+1 ∧ ∀ p ∈ pcsV L n,p.length≤bulkV L:=by
 unfold pcsV;split
 ·unfold splitV
  have h1:=pcs_len16 (getT L n).length (getT L n);have h2:=getT_len L n;refine ⟨by rw [List.length_map];unfold pcs;omega,fun p hp=> ?_⟩
  obtain ⟨q,hq,rfl⟩:=List.mem_map.1 hp
  have:=h1.2 q hq;have:=trimB_le16 q;omega
 ·exact ⟨by simp,fun p hp=>by simp at hp⟩

theorem own_sl16 {w:World} {B:Nat} {e:TypeId} {k:Nat} {v:Value} {n:Nat} {xs:List Value} (h:w.ownsRow B e k v n xs): ∃ a cap,v = .slice a n cap:=by
 rcases h.2 with ⟨hv,hn⟩ | ⟨g,cap,cur,rfl,_,_,hnc,hcm,_⟩
 ·subst hn;exact ⟨none,0,hv⟩
 ·exact ⟨_,cap,rfl⟩

end Go.Proofs.YtolioccofbhliaaGreatDoor

namespace Go.Proofs.YtolioccofbhliaaGreatDoor
open Go.RowKit

theorem cells_enc (X:List (List UInt8)):X.map encStr=cellsT X:=rfl

theorem grow_none16 (w:World):Sort.grow w #[]=w:=by
 cases w
 simp [Sort.grow]

theorem srtN_len16 (X:List (List UInt8)):(srtN X).length≤X.length:=(srtN_facts X).2.2

end Go.Proofs.YtolioccofbhliaaGreatDoor

namespace Go.Proofs.YtolioccofbhliaaGreatDoor
open Go.RowKit

structure Cho where
 name:List UInt8
 value:List UInt8
 there:Bool
deriving DecidableEq

structure Rep where
 st:Int
 hd:List Hd
 bd:List UInt8
deriving DecidableEq

structure RowC where
 url:List UInt8
 ch:List Cho
 rp:Rep
 sto:Int
 tn:Int
deriving DecidableEq

structure CaS where
 rows:List RowC
 tn:Int
deriving DecidableEq

def setH (L:List Hd) (n v:List UInt8):List Hd:=if setE L n v=0 then setV L n v else L

def Hk (L:List Hd):Prop:=L.length≤64∧Szd 4096 L

theorem Hk.drop {L:List Hd} (h:Hk L) (n:List UInt8):Hk (dropV L n):=
 ⟨Nat.le_trans (dropV_len L n) h.1,fun x hx=>h.2 x (List.mem_filter.1 hx).1⟩

theorem hdE_ok {n v:List UInt8} (h:hdE n v=0):n.length≤4096∧(valT v).length≤4096:=by
 unfold hdE at h;split at h
 ·cases h
 ·split at h
  ·cases h
  ·omega

theorem Hk.set {L:List Hd} (h:Hk L) (n v:List UInt8):Hk (setH L n v):=by
 unfold setH;split
 ·rename_i he
  unfold setE at he;unfold setV
  cases hf:firstV L n with
  | none=>
    rw [hf] at he;dsimp only at he ⊢;unfold addE at he;split at he
    ·rename_i hn;exact absurd he hn
    ·rename_i hn
     split at he
     ·cases he
     ·have:=hdE_ok (Decidable.not_not.1 hn)
      refine ⟨by simp;omega,fun x hx=> ?_⟩
      rcases List.mem_append.1 hx with hx | hx
      ·exact h.2 x hx
      ·rw [List.mem_singleton.1 hx];exact this
  | some k=>
    rw [hf] at he;dsimp only at he ⊢;have hz:=hdE_ok he;have hk:k<L.length:=by
     unfold firstV at hf;exact (List.findIdx?_eq_some_iff_getElem.1 hf).1
    have hd:=dropV_len (L.drop (k+1)) n;rw [List.length_drop] at hd;refine ⟨by simp;have:=h.1;omega,fun x hx=> ?_⟩
    rcases List.mem_append.1 hx with hx | hx
    ·rcases List.mem_append.1 hx with hx | hx
     ·exact h.2 x (List.mem_of_mem_take hx)
     ·rw [List.mem_singleton.1 hx]
      have:L.getD k ⟨[],[]⟩=L[k]:=by simp [List.getD,hk]
      refine ⟨?_,hz.2⟩
      show (L.getD k ⟨[],[]⟩).name.length≤4096;rw [this];exact (h.2 _ (List.getElem_mem hk)).1
    ·exact h.2 x (List.mem_of_mem_drop (List.mem_filter.1 hx).1)
 ·exact h

end Go.Proofs.YtolioccofbhliaaGreatDoor

namespace Go.Proofs.YtolioccofbhliaaGreatDoor
open Go.RowKit

variable {G : Nat → Prop}

def cellsC (L:List Cho):List Value:=L.flatMap fun c=>[.string ⟨c.name.toArray⟩,.string ⟨c.value.toArray⟩,.bool c.there]

def cellsB (l:List UInt8):List Value:=l.map fun b=> .int .u8 (b.toNat:Int)

structure Zr where
 r:RowC
 c:Value
 h:Value
 b:Value

def zCells (z:Zr):List Value:=[.string ⟨z.r.url.toArray⟩,z.c,.int .i64 z.r.rp.st,z.h,z.b,.int .i64 z.r.sto,.int .i64 z.r.tn]

def cellsZ (Z:List Zr):List Value:=Z.flatMap zCells

theorem heap_cells17 {g:Nat} {T:TypeId} {f:Nat×Nat}: ∀ (vs:List Value) (o:Nat) (w:World) (cur:Array Value),w.heap[g]? = some (.cells cur T f)→o+vs.length≤cur.size →
 (w.setCells g o vs).heap[g]? = some (.cells (cur.toList.take o++(vs++cur.toList.drop (o+vs.length))).toArray T f)
 | [],o,w,cur,h,_=>by
   show w.heap[g]? = _;rw [h];simp
 | v::vs,o,w,cur,h,hl=>by
   have h1:=Lib.heap_setCell_same h (i:=o) v;simp only [List.length_cons] at hl;have h2:=heap_cells17 vs (o+1) _ _ h1 (by rw [Array.size_setIfInBounds];omega)
   show ((w.setCell ⟨g,o,none⟩ v).setCells g (o+1) vs).heap[g]? = _;rw [h2,Array.toList_setIfInBounds,List.set_eq_take_append_cons_drop,if_pos (by rw [Array.length_toList];omega)]
   have ht:(cur.toList.take o).length=o:=by rw [List.length_take,Array.length_toList (xs:=cur)];omega
   have e1:(cur.toList.take o++v::cur.toList.drop (o+1)).take (o+1)=cur.toList.take o++[v]:=by
    rw [List.take_append,ht,List.take_of_length_le (by omega),show o+1 - o=1 by omega]
    rfl
   have e2:(cur.toList.take o++v::cur.toList.drop (o+1)).drop (o+1+vs.length)=cur.toList.drop (o+(vs.length+1)):=by
    rw [List.drop_append,ht,List.drop_of_length_le (by omega),List.nil_append,show o+1+vs.length - o=vs.length+1 by omega,List.drop_succ_cons,List.drop_drop]
    congr 1
    omega
   rw [e1,e2,List.append_assoc]
   rfl

theorem far_cells17 {g k:Nat} (hne:k≠g): ∀ (vs:List Value) (o:Nat) (w:World),(w.setCells g o vs).heap[k]? = w.heap[k]?
 | [],_,_=>rfl
 | v::vs,o,w=>(far_cells17 hne vs (o+1) _).trans (heap_setCell_other w ⟨g,o,none⟩ k v hne)

theorem grown_cells17 (g:Nat): ∀ (vs:List Value) (o:Nat) (w:World),w.grownBy (w.setCells g o vs) (some g)
 | [],_,w=>⟨rfl,rfl,rfl,Nat.le_refl _,fun _ _ _=>rfl⟩
 | v::vs,o,w=>by
   have h:=grown_cells17 g vs (o+1) (w.setCell ⟨g,o,none⟩ v);refine ⟨h.os,h.tape,h.output,?_,fun k hk hne=>far_cells17 (fun e=>hne (by rw [e])) _ _ _⟩
   have h2:=h.size;simp [World.setCell] at h2 ⊢;exact h2

theorem below_grown17 {w w':World} (h:Below w.heap.size w w') (row:Option Nat):w.grownBy w' row:=⟨h.os,h.tape,h.output,h.size,fun k hk _=>h.block k hk⟩

theorem grown_t17 {a b c:World} {row:Option Nat} (h:a.grownBy b row) (k:b.grownBy c row):a.grownBy c row:=
 ⟨k.os.trans h.os,k.tape.trans h.tape,k.output.trans h.output,Nat.le_trans h.size k.size,fun i hi hn=>(k.block i (Nat.lt_of_lt_of_le hi h.size) hn).trans (h.block i hi hn)⟩

theorem own_in17 {w:World} {B K g n cap m:Nat} {T:TypeId} {xs:List Value} (h:w.ownsRow B T K (.slice (some ⟨g,0,none⟩) n cap) m xs): ∃ cur,B≤g∧w.heap[g]? = some (.cells cur T (0,0))∧n=m∧m≤cap∧cap≤maxLen∧cur.size=cap*K∧cur.toList.take (m*K)=xs:=by
 rcases h.2 with h0 | ⟨g',cap',cur,hv,rest⟩
 ·exact absurd h0.1 (by simp)
 ·simp only [Value.slice.injEq,Option.some.injEq,Addr.mk.injEq] at hv
  obtain ⟨⟨rfl,_,_⟩,rfl,rfl⟩:=hv
  exact ⟨cur,rest.1,rest.2.1,rfl,rest.2.2⟩

theorem range_kept17 {w w':World} {g o:Nat} {cs:List Value} (h:w.rangeAt g o cs) (hb:Below w.heap.size w w'):w'.rangeAt g o cs:=fun j v hv=>by
 have:=h j v hv;exact (hb.cell (World.block_lt_of_cell? w _ this)).trans this

theorem wpList_world17 {P:Program} {ops:Array Oper} {Q:Exit→Act→World→Prop} {rest:List Oper} {a:Act} {w w':World} (e:w=w') (h:wpList P ops Q rest a w):wpList P ops Q rest a w':=e ▸ h

def OwM (G:Nat→Prop) (w:World) (B M:Nat) (T:TypeId) (k:Nat) (v:Value) (n:Nat) (xs:List Value):Prop:=w.ownsRow B T k v n xs ∧ ∀ g,v.ownBlock=some g→g<M∧(T=45→G g)

theorem OwM.same {w w':World} {B M:Nat} {T:TypeId} {k:Nat} {v:Value} {n:Nat} {xs:List Value} (h:OwM G w B M T k v n xs) (hk: ∀ g,v.ownBlock=some g→w'.heap[g]? = w.heap[g]?):OwM G w' B M T k v n xs:=⟨ownsRow_same h.1 hk,h.2⟩

theorem OwM.kept {w w':World} {B M:Nat} {T:TypeId} {k:Nat} {v:Value} {n:Nat} {xs:List Value} (h:OwM G w B M T k v n xs) (hb:Below M w w'):OwM G w' B M T k v n xs:=h.same fun g hg=>hb.block g (h.2 g hg).1

theorem OwM.mono {w:World} {B M:Nat} {T:TypeId} {k:Nat} {v:Value} {n:Nat} {xs:List Value} {M':Nat} (h:OwM G w B M T k v n xs) (hm:M≤M'):OwM G w B M' T k v n xs:=⟨h.1,fun g hg=>⟨Nat.lt_of_lt_of_le (h.2 g hg).1 hm,(h.2 g hg).2⟩⟩

theorem OwM.of {w:World} {B:Nat} {T:TypeId} {k:Nat} {v:Value} {n:Nat} {xs:List Value} (h:w.ownsRow B T k v n xs) (hT:T≠45:=by decide):OwM G w B w.heap.size T k v n xs:=⟨h,fun g hg=>⟨(h.lt g hg).2,fun e=>absurd e hT⟩⟩

theorem OwM.size {w:World} {B M:Nat} {T:TypeId} {k:Nat} {v:Value} {n:Nat} {xs:List Value} (h:OwM G w B M T k v n xs) (hm:M≤w.heap.size):OwM G w B w.heap.size T k v n xs:=h.mono hm

def Tq (T U:TypeId) (p:Nat) (w w':World):Prop:=Below p w w' ∧ ∀ (k:Nat) (cur:Array Value) (S:TypeId) (fz:Nat×Nat),w.heap[k]? = some (Obj.cells cur S fz)→S≠T→S≠U→w'.heap[k]? = w.heap[k]?

theorem Tq.refl {T U:TypeId} {p:Nat} {a:World}:Tq T U p a a:=⟨Below.refl _ _,fun _ _ _ _ _ _ _=>rfl⟩

theorem Tq.trans {T U:TypeId} {p:Nat} {a b c:World} (h:Tq T U p a b) (h2:Tq T U p b c):Tq T U p a c:=
 ⟨h.1.trans h2.1,fun k cur S fz hk h3 h4=>(h2.2 k cur S fz ((h.2 k cur S fz hk h3 h4).trans hk) h3 h4).trans (h.2 k cur S fz hk h3 h4)⟩

theorem Tq.below {T U:TypeId} {p:Nat} {a b:World} (hb:Below a.heap.size a b) (hp:p≤a.heap.size):Tq T U p a b:=⟨hb.mono hp,fun k _ _ _ hk _ _=>hb.block k (Array.getElem?_eq_some_iff.1 hk).1⟩

theorem Tq.more {T U:TypeId} {p:Nat} {a b c:World} (h:Tq T U p a b) (hb:Below b.heap.size b c) (hp:p≤b.heap.size):Tq T U p a c:=h.trans (Tq.below hb hp)

theorem Tq.low {T U:TypeId} {p:Nat} {a b:World} (h:Tq T U p a b) {q:Nat} (hq:q≤p):Tq T U q a b:=⟨h.1.mono hq,h.2⟩

theorem Tq.own {T U:TypeId} {p:Nat} {a b:World} {B:Nat} {S:TypeId} {k:Nat} {v:Value} {n:Nat} {xs:List Value} (h:Tq T U p a b) (ho:a.ownsRow B S k v n xs) (h1:S≠T) (h2:S≠U):b.ownsRow B S k v n xs:=
 ownsRow_same ho fun g hg=>by
  obtain ⟨cur,hc⟩:=ownsRow_kind ho g hg
  exact h.2 g _ _ _ hc h1 h2

theorem Tq.owm {T U:TypeId} {p:Nat} {a b:World} {B M:Nat} {S:TypeId} {k:Nat} {v:Value} {n:Nat} {xs:List Value} (h:Tq T U p a b) (ho:OwM G a B M S k v n xs) (h1:S≠T) (h2:S≠U):OwM G b B M S k v n xs:=⟨h.own ho.1 h1 h2,ho.2⟩

theorem Tq.grown {T U:TypeId} {p:Nat} {a b:World} {r:Option Nat} (hg:a.grownBy b r) (hr: ∀ g,r=some g→p≤g ∧ ∃ cur fz,a.heap[g]? = some (Obj.cells cur T fz)) (hp:p≤a.heap.size):Tq T U p a b:=by
 refine ⟨⟨hg.os,hg.tape,hg.output,hg.size,fun k hk=>hg.block k (by omega) (fun e=>by have:=(hr k e.symm).1;omega)⟩,fun k cur S fz hk h1 _=>hg.block k (Array.getElem?_eq_some_iff.1 hk).1 (fun e=> ?_)⟩
 obtain ⟨_,cur2,fz2,h2⟩:=hr k e.symm
 rw [hk] at h2;injection h2 with h2
 injection h2 with _ h2 _
 exact h1 h2

theorem Tq.set {T U:TypeId} {p:Nat} {a:World} {g:Nat} {cur:Array Value} {S:TypeId} {fz:Nat×Nat} (hg:a.heap[g]? = some (Obj.cells cur S fz)) (hS:S=T∨S=U) (hp:p≤g) (i:Nat) (v:Value):Tq T U p a (a.setCell ⟨g,i,none⟩ v):=by
 refine ⟨(Below.refl p a).setCell (p:=⟨g,i,none⟩) hp v,fun k c2 S2 f2 hk h1 h2=>heap_setCell_other a ⟨g,i,none⟩ k v (fun e=> ?_)⟩;have e:k=g:=e;subst e;rw [hg] at hk;injection hk with hk
 injection hk with _ hk _
 subst hk;rcases hS with h | h
 ·exact h1 h
 ·exact h2 h

abbrev TqC (p : Nat) (w w' : World) : Prop := Tq 97 84 p w w'

def HdT (w:World) (v:Value) (L:List Hd):Prop:=HdAt w v L ∧ ∀ g,v.ownBlock=some g → ∃ cur fz,w.heap[g]? = some (Obj.cells cur 45 fz)

theorem HdAt.same17 {w w':World} {v:Value} {L:List Hd} (h:HdAt w v L) (hk: ∀ g,v.ownBlock=some g→w'.heap[g]? = w.heap[g]?):HdAt w' v L:=by
 obtain ⟨a,cap,rfl,h2,h3,h4⟩:=h
 refine ⟨a,cap,rfl,h2,h3,fun j hj=> ?_⟩
 obtain ⟨b,off,e,c1,c2⟩:=h4 j hj
 have hb:=hk b (by rw [e];rfl)
 exact ⟨b,off,e,(World.cell?_of_block (a:=⟨b,off+j*2,none⟩) hb).trans c1,(World.cell?_of_block (a:=⟨b,off+j*2+1,none⟩) hb).trans c2⟩

theorem HdT.tq {p:Nat} {w w':World} {v:Value} {L:List Hd} (h:HdT w v L) (hq:TqC p w w'):HdT w' v L:=by
 have hk: ∀ g,v.ownBlock=some g→w'.heap[g]? = w.heap[g]? :=fun g hg=>by
  obtain ⟨cur,fz,hc⟩:=h.2 g hg
  exact hq.2 g _ _ _ hc (by decide) (by decide)
 exact ⟨h.1.same17 hk,fun g hg=>by rw [hk g hg];exact h.2 g hg⟩

theorem HdT.kept {w w':World} {v:Value} {L:List Hd} (h:HdT w v L) (hb:Below w.heap.size w w'):HdT w' v L:=by
 have hk: ∀ g,v.ownBlock=some g→w'.heap[g]? = w.heap[g]? :=fun g hg=>by
  obtain ⟨cur,fz,hc⟩:=h.2 g hg
  exact hb.block g (Array.getElem?_eq_some_iff.1 hc).1
 exact ⟨h.1.same17 hk,fun g hg=>by rw [hk g hg];exact h.2 g hg⟩

def DenZ (G:Nat→Prop) (w:World) (B M:Nat) (z:Zr):Prop:=
 OwM G w B M 166 3 z.c z.r.ch.length (cellsC z.r.ch)∧OwM G w B M 45 2 z.h z.r.rp.hd.length (cellsH z.r.rp.hd)∧OwM G w B M 5 1 z.b z.r.rp.bd.length (cellsB z.r.rp.bd)

theorem DenZ.kept {w w':World} {B M:Nat} {z:Zr} (h:DenZ G w B M z) (hb:Below M w w'):DenZ G w' B M z:=⟨h.1.kept hb,h.2.1.kept hb,h.2.2.kept hb⟩

theorem DenZ.mono {w:World} {B M M':Nat} {z:Zr} (h:DenZ G w B M z) (hm:M≤M'):DenZ G w B M' z:=⟨h.1.mono hm,h.2.1.mono hm,h.2.2.mono hm⟩

theorem DenZ.tq {p:Nat} {w w':World} {B M:Nat} {z:Zr} (h:DenZ G w B M z) (hq:TqC p w w'):DenZ G w' B M z:=
 ⟨hq.owm h.1 (by decide) (by decide),hq.owm h.2.1 (by decide) (by decide),hq.owm h.2.2 (by decide) (by decide)⟩

theorem DenZ.form {w:World} {B M:Nat} {z:Zr} (h:DenZ G w B M z): ∃ ca cc ha hc ba bc,z.c = .slice ca z.r.ch.length cc∧z.h = .slice ha z.r.rp.hd.length hc∧z.b = .slice ba z.r.rp.bd.length bc:=by
 obtain ⟨ca,cc,e1⟩:=own_sl16 h.1.1
 obtain ⟨ha,hc,e2⟩:=own_sl16 h.2.1.1
 obtain ⟨ba,bc,e3⟩:=own_sl16 h.2.2.1
 exact ⟨ca,cc,ha,hc,ba,bc,e1,e2,e3⟩

theorem DenZ.one {w:World} {B M:Nat} {z:Zr} (h:DenZ G w B M z): ∀ u ∈ zCells z,u.oneCell'=true:=by
 obtain ⟨ca,cc,ha,hc,ba,bc,e1,e2,e3⟩:=h.form
 intro u hu;unfold zCells at hu;rw [e1,e2,e3] at hu
 simp at hu;rcases hu with rfl | rfl | rfl | rfl | rfl | rfl | rfl<;>rfl

def gMax:Nat:=1

def CaI (G:Nat→Prop) (w:World) (p M:Nat) (C:CaS):Prop:=
 (p+1≤M∧M≤w.heap.size∧gMax<p∧G5 w) ∧ ∃ a cap Z,w.heap[p]? = some (.cells #[.slice a C.rows.length cap,.int .i64 C.tn] 84 (0,0))∧OwM G w (p+1) M 97 7 (.slice a C.rows.length cap) C.rows.length (cellsZ Z)∧Z.map (·.r)=C.rows ∧ ∀ z ∈ Z,DenZ G w (p+1) M z

theorem G5.low17 {w w':World} {p:Nat} (h:G5 w) (hp:gMax<p) (hb:Below p w w'):G5 w':=by
 obtain ⟨m,hm⟩:=h
 exact ⟨m,(hb.cell (p:=⟨1,0,none⟩) hp).trans hm⟩

theorem CaI.kept {w w':World} {p M:Nat} {C:CaS} (h:CaI G w p M C) (hb:Below M w w'):CaI G w' p M C:=by
 obtain ⟨⟨h1,h2,h3,h4⟩,a,cap,Z,c1,c2,c3,c4⟩:=h
 exact ⟨⟨h1,Nat.le_trans h2 hb.size,h3,h4.low17 h3 (hb.mono (by omega))⟩,a,cap,Z,(hb.block p (by omega)).trans c1,c2.kept hb,c3,fun z hz=>(c4 z hz).kept hb⟩

theorem CaI.size {w:World} {p M:Nat} {C:CaS} (h:CaI G w p M C):CaI G w p w.heap.size C:=by
 obtain ⟨⟨h1,h2,h3,h4⟩,a,cap,Z,c1,c2,c3,c4⟩:=h
 exact ⟨⟨by omega,Nat.le_refl _,h3,h4⟩,a,cap,Z,c1,c2.mono h2,c3,fun z hz=>(c4 z hz).mono h2⟩

end Go.Proofs.YtolioccofbhliaaGreatDoor

namespace Go.Proofs.YtolioccofbhliaaGreatDoor
open Go.RowKit

def rtCells (x:Rt):List Value:=[.string ⟨x.self.toArray⟩,.string ⟨x.url.toArray⟩,.bool x.cred,.bool x.isN,.string ⟨x.word.toArray⟩]

def rtVal (x:Rt):Value:= .agg (rtCells x).toArray

def rCells (r:RwP):List Value:=[.string ⟨r.what.self.toArray⟩,.string ⟨r.what.url.toArray⟩,.bool r.what.cred,.bool r.what.isN,.string ⟨r.what.word.toArray⟩,.int .i64 r.til]

def rVal (r:RwP):Value:= .agg (rCells r).toArray

def cellsR (Z:List RwP):List Value:=Z.flatMap rCells

theorem cellsR_app (a b:List RwP):cellsR (a++b)=cellsR a++cellsR b:=by simp [cellsR]

theorem cellsR_one (z:RwP):cellsR [z]=rCells z:=by simp [cellsR]

theorem cellsR_cons (z:RwP) (Z:List RwP):cellsR (z::Z)=rCells z++cellsR Z:=rfl

theorem cellsR_len: ∀ L:List RwP,(cellsR L).length=L.length*6
 | []=>rfl
 | p::L=>by
   rw [cellsR_cons,List.length_append,cellsR_len L,List.length_cons];show 6+_=_;omega

theorem cellsR_at: ∀ (L:List RwP) (i:Nat) (h:i<L.length) (j:Nat) (v:Value),(rCells L[i])[j]? = some v→(cellsR L)[i*6+j]? = some v
 | [],i,h,_,_,_=>by simp at h
 | p::L,0,_,j,v,hv=>by
   have hj:j<6:=(List.getElem?_eq_some_iff.1 hv).1;rw [cellsR_cons,Nat.zero_mul,Nat.zero_add,List.getElem?_append_left (by show j<6;exact hj)]
   exact hv
 | p::L,i+1,h,j,v,hv=>by
   rw [cellsR_cons,List.getElem?_append_right (by show 6≤_;omega)]
   show (cellsR L)[(i+1)*6+j - 6]? = _;rw [show (i+1)*6+j - 6=i*6+j by omega];exact cellsR_at L i (by simpa using h) j v hv

theorem cellsR_take (X:List RwP) (i:Nat):(cellsR X).take (i*6)=cellsR (X.take i):=by
 by_cases hi:i≤X.length
 ·have e:cellsR X=cellsR (X.take i)++cellsR (X.drop i):=by rw [← cellsR_app,List.take_append_drop]
  rw [e,List.take_append_of_le_length (by rw [cellsR_len,List.length_take];omega)]
  exact List.take_of_length_le (by rw [cellsR_len,List.length_take];omega)
 ·rw [List.take_of_length_le (by rw [cellsR_len];omega),List.take_of_length_le (by omega)]

theorem cellsR_drop (X:List RwP) (i:Nat):(cellsR X).drop (i*6)=cellsR (X.drop i):=by
 by_cases hi:i≤X.length
 ·have e:cellsR X=cellsR (X.take i)++cellsR (X.drop i):=by rw [← cellsR_app,List.take_append_drop]
  have hl:(cellsR (X.take i)).length=i*6:=by rw [cellsR_len,List.length_take];omega
  rw [e,← hl,List.drop_left]
 ·rw [List.drop_of_length_le (by rw [cellsR_len];omega),List.drop_of_length_le (by omega)]
  rfl

theorem own_put19 {w:World} {B g n cap:Nat} {T:TypeId} {X:List RwP} (h:w.ownsRow B T 6 (.slice (some ⟨g,0,none⟩) n cap) n (cellsR X)) (i:Nat) (hi:i<n) (z:RwP):(w.setCells g (i*6) (rCells z)).ownsRow B T 6 (.slice (some ⟨g,0,none⟩) n cap) n (cellsR (X.set i z)):=by
 have hX:X.length=n:=by have:=h.1;rw [cellsR_len] at this;omega
 obtain ⟨cur,hg,hrow,_,hnc,hcm,hcs,htake⟩:=own_in17 h
 have hl:i*6+6≤cur.size:=by rw [hcs];omega
 have h2:=heap_cells17 (rCells z) (i*6) w cur hrow hl;rw [show (rCells z).length=6 from rfl] at h2;obtain ⟨zc,hz⟩: ∃ l,l=rCells z:=⟨_,rfl⟩
 have hzl:zc.length=6:=by rw [hz];rfl
 rw [← hz] at h2 ⊢;have ht:(cur.toList.take (i*6)).length=i*6:=by rw [List.length_take,Array.length_toList (xs:=cur)];exact Nat.min_eq_left (by omega)
 have e1:cur.toList.take (i*6)=cellsR (X.take i):=by
  rw [← cellsR_take,← htake,List.take_take,Nat.min_eq_left (by omega)]
 have e2:(cur.toList.drop (i*6+6)).take (n*6 - (i*6+6))=cellsR (X.drop (i+1)):=by
  rw [← cellsR_drop,← htake,List.drop_take,show (i+1)*6=i*6+6 by omega]
 refine ⟨by rw [cellsR_len,List.length_set,hX],.inr ⟨g,cap,_,rfl,hg,h2,hnc,hcm,?_,?_⟩⟩
 ·clear h2 hrow hcm htake e1 e2 h
  rw [List.size_toArray,List.length_append,List.length_append,ht,hzl,List.length_drop,Array.length_toList (xs:=cur)]
  omega
 ·show List.take (n*6) (cur.toList.take (i*6)++(zc++cur.toList.drop (i*6+6)))=_
  clear h2 hrow hcm htake h;have key: ∀ (P Q:List Value),P.length=i*6→(P++(zc++Q)).take (n*6)=P++(zc++Q.take (n*6 - (i*6+6))):=by
   intro P Q hP;rw [List.take_append,hP,List.take_of_length_le (l:=P) (by omega),List.take_append,hzl,List.take_of_length_le (l:=zc) (by omega),show n*6 - i*6 - 6=n*6 - (i*6+6) by omega]
  rw [key _ _ ht,e1,e2,List.set_eq_take_append_cons_drop,if_pos (by omega),cellsR_app,cellsR_cons,hz]

theorem own_cut19 {w:World} {B g n cap:Nat} {T:TypeId} {X:List RwP} (h:w.ownsRow B T 6 (.slice (some ⟨g,0,none⟩) n cap) n (cellsR X)) (i:Nat) (hi:i≤n) (vs:List Value) (hl:i*6+vs.length≤cap*6):(w.setCells g (i*6) vs).ownsRow B T 6 (.slice (some ⟨g,0,none⟩) i cap) i (cellsR (X.take i)):=by
 have hX:X.length=n:=by have:=h.1;rw [cellsR_len] at this;omega
 obtain ⟨cur,hg,hrow,_,hnc,hcm,hcs,htake⟩:=own_in17 h
 have h2:=heap_cells17 vs (i*6) w cur hrow (by rw [hcs];exact hl)
 have ht:(cur.toList.take (i*6)).length=i*6:=by rw [List.length_take,Array.length_toList (xs:=cur)];exact Nat.min_eq_left (by omega)
 refine ⟨by rw [cellsR_len,List.length_take,hX,Nat.min_eq_left hi],.inr ⟨g,cap,_,rfl,hg,h2,Nat.le_trans hi hnc,hcm,?_,?_⟩⟩
 ·clear h2 hrow hcm htake h
  rw [List.size_toArray,List.length_append,List.length_append,ht,List.length_drop,Array.length_toList (xs:=cur)]
  omega
 ·show List.take (i*6) (cur.toList.take (i*6)++_)=_
  rw [List.take_append_of_le_length (by rw [ht];exact Nat.le_refl _),List.take_of_length_le (by rw [ht];exact Nat.le_refl _),← cellsR_take,← htake,List.take_take,Nat.min_eq_left (by omega)]

theorem own_range19 {w:World} {B n:Nat} {T:TypeId} {X:List RwP} {v:Value} (h:w.ownsRow B T 6 v n (cellsR X)) (i:Nat) (hi:i<X.length): ∃ g,v.ownBlock=some g∧w.rangeAt g (i*6) (rCells X[i]):=by
 have hX:X.length=n:=by have:=h.1;rw [cellsR_len] at this;omega
 rcases h.2 with ⟨_,h0⟩ | ⟨g,cap',cur,rfl,hg,hrow,hnc,hcm,hcs,htake⟩
 ·omega
 ·refine ⟨g,rfl,fun j u hu=> ?_⟩
  have hc:=cellsR_at X i hi j u hu;rw [h.cellAt (i*6+j) (by
   have:=(List.getElem?_eq_some_iff.1 hc).1;rw [cellsR_len] at this
   omega)]
  exact hc

theorem own_there19 {w:World} {B g n cap:Nat} {T:TypeId} {X:List RwP} (h:w.ownsRow B T 6 (.slice (some ⟨g,0,none⟩) n cap) n (cellsR X)) (o m:Nat) (hm:o+m≤cap*6):w.there g o m:=by
 obtain ⟨cur,hg,hrow,_,hnc,hcm,hcs,htake⟩:=own_in17 h
 intro j hj;refine ⟨?_,Lib.frozen_of_heap hrow _⟩
 rw [Lib.cell_of_heap hrow];simp;omega

theorem rCells_one (r:RwP): ∀ u ∈ rCells r,u.oneCell'=true:=by
 intro u hu;unfold rCells at hu;simp at hu;rcases hu with rfl | rfl | rfl | rfl | rfl | rfl<;>rfl

theorem cellsR_one1 (Z:List RwP): ∀ u ∈ cellsR Z,u.oneCell'=true:=by
 intro u hu;unfold cellsR at hu;obtain ⟨z,hz,hu⟩:=List.mem_flatMap.1 hu
 exact rCells_one z u hu

abbrev TqP (p : Nat) (w w' : World) : Prop := Tq 154 145 p w w'

def TbI (w:World) (p:Nat) (T:List RwP):Prop:=
 ∃ a cap,w.heap[p]? = some (.cells #[.slice a T.length cap] 145 (0,0))∧w.ownsRow (p+1) 154 6 (.slice a T.length cap) T.length (cellsR T)

theorem TbI.lt {w:World} {p:Nat} {T:List RwP} (h:TbI w p T):p<w.heap.size:=by
 obtain ⟨a,cap,h1,_⟩:=h
 exact (Array.getElem?_eq_some_iff.1 h1).1

theorem TbI.kept {w w':World} {p:Nat} {T:List RwP} (h:TbI w p T) (hb:Below w.heap.size w w'):TbI w' p T:=by
 have hl:=h.lt;obtain ⟨a,cap,h1,h2⟩:=h
 exact ⟨a,cap,(hb.block p hl).trans h1,own_same h2 hb⟩

theorem TbI.tq {F U:TypeId} {q:Nat} {w w':World} {p:Nat} {T:List RwP} (h:TbI w p T) (hq:Tq F U q w w') (h1:154≠F∧154≠U) (h2:145≠F∧145≠U):TbI w' p T:=by
 obtain ⟨a,cap,c1,c2⟩:=h
 exact ⟨a,cap,(hq.2 _ _ _ _ c1 h2.1 h2.2).trans c1,hq.own c2 h1.1 h1.2⟩

end Go.Proofs.YtolioccofbhliaaGreatDoor

namespace Go.Proofs.YtolioccofbhliaaGreatDoor
open Go.RowKit

def Th3 (w:World) (b:Nat) (n v:ByteArray) (t:Bool):Prop:=w.heap[b]? = some (.cells #[.string n,.string v,.bool t] 166 (0,0))

theorem Th3.range {w:World} {b:Nat} {n v:ByteArray} {t:Bool} (h:Th3 w b n v t):w.rangeAt b 0 [.string n,.string v,.bool t]:=fun j u hu=>by
 rw [Nat.zero_add,Lib.cell_of_heap h]
 match j,hu with
 | 0,hu=>simpa using hu
 | 1,hu=>simpa using hu
 | 2,hu=>simpa using hu
 | j+3,hu=>simp at hu

theorem Th3.cells {w:World} {b:Nat} {n v:ByteArray} {t:Bool} (h:Th3 w b n v t):w.cell? ⟨b,0,none⟩=some (.string n)∧w.cell? ⟨b,1,none⟩=some (.string v)∧w.cell? ⟨b,2,none⟩=some (.bool t)∧w.frozen? ⟨b,0,none⟩=false∧w.frozen? ⟨b,1,none⟩=false∧w.frozen? ⟨b,2,none⟩=false:=
 ⟨by rw [Lib.cell_of_heap h];rfl,by rw [Lib.cell_of_heap h];rfl,by rw [Lib.cell_of_heap h];rfl,Lib.frozen_of_heap h 0,Lib.frozen_of_heap h 1,Lib.frozen_of_heap h 2⟩

theorem Th3.set {w:World} {b:Nat} {n v n' v':ByteArray} {t t':Bool} (h:Th3 w b n v t):Th3 (((w.setCell ⟨b,0,none⟩ (.string n')).setCell ⟨b,1,none⟩ (.string v')).setCell ⟨b,2,none⟩ (.bool t')) b n' v' t':=by
 have h1:=Lib.heap_setCell_same h (i:=0) (.string n');have h2:=Lib.heap_setCell_same h1 (i:=1) (.string v');exact Lib.heap_setCell_same h2 (i:=2) (.bool t')

end Go.Proofs.YtolioccofbhliaaGreatDoor

namespace Go.Proofs.YtolioccofbhliaaGreatDoor
open Go.RowKit

variable {G : Nat → Prop}

def chCells (c:Cho):List Value:=[.string ⟨c.name.toArray⟩,.string ⟨c.value.toArray⟩,.bool c.there]

def ChAt (w:World) (v:Value) (L:List Cho):Prop:=
 ∃ a cap,v = .slice a L.length cap∧L.length≤cap∧cap≤maxLen ∧ ∀ i (h:i<L.length),∃ g o,a=some ⟨g,o,none⟩∧w.rangeAt g (o+i*3) (chCells L[i])

theorem ChAt.view {w:World} {v:Value} {L:List Cho} (h:ChAt w v L): ∃ a cap,v = .slice a L.length cap∧L.length≤cap∧cap≤maxLen ∧ ∀ i (h:i<L.length),∃ g o,a=some ⟨g,o,none⟩∧w.rangeAt g (o+i*3) (chCells L[i]):=h

theorem ChAt.kept {w w':World} {v:Value} {L:List Cho} (h:ChAt w v L) (hb:Below w.heap.size w w'):ChAt w' v L:=by
 obtain ⟨a,cap,e,h1,h2,h3⟩:=h
 refine ⟨a,cap,e,h1,h2,fun i hi=> ?_⟩
 obtain ⟨g,o,e1,e2⟩:=h3 i hi
 exact ⟨g,o,e1,range_kept17 e2 hb⟩

def MfAt (w:World) (pa pu:Nat) (v:Value) (u:ByteArray):Prop:=w.heap[pa]? = some (.cells #[v] 27 (0,0))∧w.heap[pu]? = some (.cells #[.string u] 9 (0,0))

theorem MfAt.kept {w w':World} {pa pu:Nat} {v:Value} {u:ByteArray} (h:MfAt w pa pu v u) (hb:Below w.heap.size w w'):MfAt w' pa pu v u:=
 ⟨(hb.block pa (Array.getElem?_eq_some_iff.1 h.1).1).trans h.1,(hb.block pu (Array.getElem?_eq_some_iff.1 h.2).1).trans h.2⟩

theorem MfAt.tq {p:Nat} {w w':World} {pa pu:Nat} {v:Value} {u:ByteArray} (h:MfAt w pa pu v u) (hq:TqC p w w'):MfAt w' pa pu v u:=
 ⟨(hq.2 pa _ _ _ h.1 (by decide) (by decide)).trans h.1,(hq.2 pu _ _ _ h.2 (by decide) (by decide)).trans h.2⟩

end Go.Proofs.YtolioccofbhliaaGreatDoor

namespace Go.Proofs.YtolioccofbhliaaGreatDoor
open Go.RowKit

def ZlAt (w:World) (v:Value) (Z:List Zr):Prop:=
 ∃ a cap,v = .slice a Z.length cap∧Z.length≤cap∧cap≤maxLen ∧ ∀ i (h:i<Z.length),∃ g o,a=some ⟨g,o,none⟩∧w.rangeAt g (o+i*7) (zCells Z[i])

theorem ZlAt.view {w:World} {v:Value} {Z:List Zr} (h:ZlAt w v Z): ∃ a cap,v = .slice a Z.length cap∧Z.length≤cap∧cap≤maxLen ∧ ∀ i (h:i<Z.length),∃ g o,a=some ⟨g,o,none⟩∧w.rangeAt g (o+i*7) (zCells Z[i]):=h

end Go.Proofs.YtolioccofbhliaaGreatDoor

namespace Go.Proofs.YtolioccofbhliaaGreatDoor
open Go.RowKit

def KpI (Z:List Zr) (q:RowC→Bool) (X:List Zr) (i j:Nat):Prop:=X.length=Z.length∧i<j∧X.take i=(Z.take j).filter (fun z=> !q z.r)∧X.drop j=Z.drop j

theorem KpI.start {Z:List Zr} {q:RowC→Bool} {k:Nat} (hk:k<Z.length) (h1: ∀ j (h:j<Z.length),j<k→q Z[j].r=false) (h2:q Z[k].r=true):KpI Z q Z k (k+1):=by
 refine ⟨rfl,by omega,?_,rfl⟩
 rw [List.take_succ_eq_append_getElem hk,List.filter_append];have e1:(Z.take k).filter (fun z=> !q z.r)=Z.take k:=by
  rw [List.filter_eq_self];intro a ha;obtain ⟨j,hj,rfl⟩:=List.getElem_of_mem ha
  rw [List.length_take] at hj;rw [List.getElem_take,h1 j (by omega) (by omega)]
  rfl
 rw [e1];simp [h2]

theorem KpI.get {Z X:List Zr} {q:RowC→Bool} {i j:Nat} (h:KpI Z q X i j) (hj:j<Z.length):X[j]'(by rw [h.1];exact hj)=Z[j]:=by
 have hx:j<X.length:=by rw [h.1];exact hj
 have h1:=h.2.2.2;rw [List.drop_eq_getElem_cons hx,List.drop_eq_getElem_cons hj] at h1;injection h1

theorem KpI.skip {Z X:List Zr} {q:RowC→Bool} {i j:Nat} (h:KpI Z q X i j) (hj:j<Z.length) (hq:q Z[j].r=true):KpI Z q X i (j+1):=by
 obtain ⟨h1,h2,h3,h4⟩:=h
 refine ⟨h1,by omega,?_,?_⟩
 ·rw [List.take_succ_eq_append_getElem hj,List.filter_append,← h3]
  simp [hq]
 ·rw [← List.drop_drop,h4,List.drop_drop]

theorem KpI.keep {Z X:List Zr} {q:RowC→Bool} {i j:Nat} (h:KpI Z q X i j) (hj:j<Z.length) (hq:q Z[j].r=false):KpI Z q (X.set i Z[j]) (i+1) (j+1):=by
 obtain ⟨h1,h2,h3,h4⟩:=h
 have hi:i<X.length:=by omega
 refine ⟨by rw [List.length_set,h1],by omega,?_,?_⟩
 ·rw [List.take_succ_eq_append_getElem hj,List.filter_append,← h3,List.take_succ_eq_append_getElem (by rw [List.length_set];exact hi),List.getElem_set_self,List.take_set_of_le (Nat.le_refl _)]
  simp [hq]
 ·rw [List.drop_set_of_lt (by omega),← List.drop_drop,h4,List.drop_drop]

theorem KpI.done {Z X:List Zr} {q:RowC→Bool} {i:Nat} (h:KpI Z q X i Z.length):X.take i=Z.filter (fun z=> !q z.r)∧(Z.filter (fun z=> !q z.r)).length=i∧i<Z.length:=by
 obtain ⟨h1,h2,h3,_⟩:=h
 rw [List.take_of_length_le (Nat.le_refl _)] at h3;refine ⟨h3,?_,h2⟩
 rw [← h3,List.length_take];omega

end Go.Proofs.YtolioccofbhliaaGreatDoor
