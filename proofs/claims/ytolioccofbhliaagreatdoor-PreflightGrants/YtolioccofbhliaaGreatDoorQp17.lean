/-
  Walks and plain facts that this claim leans on, put together out of 6 texts: Cb, Cf, Cg, Efa, Eia, Eja.
-/
import Derived.Test.YtolioccofbhliaaGreatDoorProg
import Derived.Test.YtolioccofbhliaaGreatDoorQp1
import Derived.Test.YtolioccofbhliaaGreatDoorQp2
import Derived.Test.YtolioccofbhliaaGreatDoorQp3
import Derived.Test.YtolioccofbhliaaGreatDoorQp13
import Derived.Test.YtolioccofbhliaaGreatDoorQp14
import Derived.Test.YtolioccofbhliaaGreatDoorQp16
import Derived.BigRegion
import Derived.Deep.RegionHeld
import Derived.Deep.RegionHeldLaw
import Derived.Lib.IndexAny
import Derived.WalkKit
import Derived.Lib.UnsafeStr
import Derived.Lib.BufferRead
import Derived.Lib.RuneBytes
import Derived.Laws.RangeAny
import Derived.Deep.LoopGhost
import Derived.Maps.OwnSet
import Derived.Maps.OwnOps
import Derived.Maps.AppendAt
import Derived.StringKeys
import Derived.BigQuiet
import Derived.Deep.QuietTactic
import Derived.LoopN
import Derived.RegionTactic
import Derived.Deep.RegionLaw
import Derived.Deep.RegionWith
import Derived.WalkSpells
import Derived.WalkLawsBesides
import Derived.Lib.FieldsP
import Derived.Lib.DecodeN
import Derived.Lib.IndexMore
import Derived.Lib.Join
import Derived.Lib.SmallJoins
import Derived.Laws.CopyOwn
import Derived.Laws.ResultCell
import Derived.Deep.MidRow
import Derived.Laws.OwnMore
import Derived.Below
import Derived.WalkSmall
import Derived.Lib.LaidTab
import Derived.Lib.AppendIntMem
import Derived.Laws.AppendOwn
import Derived.Laws.Runes
import Derived.Lib.OthersKept
import Derived.Lib.FrozenHead2
import Derived.Lib.Builder
import Derived.Lib.AppendStr
import Derived.Lib.Replace
import Derived.Shelf.GgClosure.GivesRunes
import Derived.Laws.BitsAll
import Derived.Laws.Shifts
import Derived.Deep.DeepAppendRoom
import Derived.Laws.IdiomStrings
import Derived.Laws.BytesString
import Derived.Laws.CopyRow
import Derived.Lib.Strings
import Derived.Laws.BitsAllLaws
import Derived.Lib.Bytealg
import Derived.Lib.BufferMore
import Derived.Shelf.Strings.Builder1
import Derived.Shelf.Strings.Builder2
import Derived.Shelf.Strings.OnBuilder
import Derived.Shelf.Strings.Trim
import Derived.Shelf.Small.Utf8
import Derived.Shelf.Small.Bits
import Derived.Shelf.Small.Strs
import Derived.Shelf.Small.Wraps
import Derived.Shelf.Strings.BuilderF
import Derived.Shelf.Strings.BuilderK
import Derived.Shelf.Strings.Builder2Cap
import Derived.Shelf.Strconv.Itoa0
import Derived.Shelf.Strconv.Itoa1
import Derived.Shelf.LaysM
import Derived.Shelf.Strconv.Itoa2
import Derived.Shelf.Strconv.Itoa3
import Derived.Shelf.Strings.Search1
import Derived.Shelf.Strings.Search2
import Derived.Shelf.Strings.Cut
import Derived.Shelf.Strings.Shaped
import Derived.Shelf.Sort.Plain
import Derived.Shelf.Strings.Prefix
import Derived.Shelf.Strings.Runes
import Derived.Shelf.Strings.IndexAny
import Derived.Shelf.Strings.AsciiSet
import Derived.Shelf.Strings.IndexAnyAll
import Derived.Shelf.Unicode.DecodeSlow
import Derived.Shelf.Unicode.DecodeAny
import Derived.Shelf.Unicode.DecodeLast
import Derived.Shelf.Slices.CompactS
import Derived.Shelf.Slices.In.SortNone
import Derived.Ground.SlgnProg
import Derived.Shelf.SlicesE.Compact
import Derived.Ground.SlgfProg
import Derived.Shelf.SlicesE.IndexFunc
import Derived.Shelf.SlicesE.DeleteFunc
import Derived.Lib.SlTrimSet
import Derived.Shelf.Strings.SlTrimAscii
import Derived.Deep.CutRange
import Derived.Laws.Rows
import Derived.Laws.MakeOwn
import Derived.Deep.WholeRow
import Derived.Laws.AppendOwnNone
import Derived.Sort.OwnSorted
import Derived.Lib.SlicesCompact
import Derived.Sort.KeysCollected
import Derived.Lib.Case
import Derived.Lib.LastIndexByte
import Derived.Scope
import Derived.ScopeJumps
import Derived.WalkMore
import Derived.Lib.TrimByte
import Derived.Lib.ItoaNum
import Derived.OwnWalk
set_option linter.unusedSimpArgs false
set_option linter.unusedVariables false

namespace Go.Proofs.YtolioccofbhliaaGreatDoor
open Go.RowKit

def quo:List UInt8→List UInt8×List UInt8
 | []=>([],[])
 | [c]=>if c=34 then ([],[]) else ([c],[])
 | c::d::r=>if c=34 then ([],d::r) else if c=92 then (d::(quo r).1,(quo r).2) else (c::(quo (d::r)).1,(quo (d::r)).2)

end Go.Proofs.YtolioccofbhliaaGreatDoor
namespace Go.Proofs.YtolioccofbhliaaGreatDoor

open Go.RowKit

theorem byte_all {p:UInt8→Bool} (h:(List.range 256).all (fun n=>p (UInt8.ofNat n))=true) (c:UInt8):p c=true:=by
 have:=List.all_eq_true.1 h c.toNat (List.mem_range.2 c.toNat_lt);simpa using this

end Go.Proofs.YtolioccofbhliaaGreatDoor
namespace Go.Proofs.YtolioccofbhliaaGreatDoor

open Go.RowKit

def But (b:Nat) (w w':World):Prop:=Below b w w' ∧ ∀ k,b<k→k<w.heap.size→w'.heap[k]? = w.heap[k]?

theorem But.refl (b:Nat) (w:World):But b w w:=⟨Below.refl _ _,fun _ _ _=>rfl⟩

theorem But.of {b:Nat} {w w':World} (h:Below w.heap.size w w') (hb:b≤w.heap.size):But b w w':=⟨h.mono hb,fun k _ hk=>h.block k hk⟩

theorem But.trans {b:Nat} {w w1 w2:World} (h:But b w w1) (h2:But b w1 w2):But b w w2:=
 ⟨h.1.trans h2.1,fun k hb hk=>(h2.2 k hb (by have:=h.1.size;omega)).trans (h.2 k hb hk)⟩

theorem But.then {b:Nat} {w w1 w2:World} (h:But b w w1) (h2:Below w1.heap.size w1 w2) (hb:b≤w1.heap.size):But b w w2:=h.trans (But.of h2 hb)

theorem But.size {b:Nat} {w w1:World} (h:But b w w1):w.heap.size≤w1.heap.size:=h.1.size

theorem But.block {b:Nat} {w w1:World} (h:But b w w1) (k:Nat) (hk:k<w.heap.size) (hne:k≠b):w1.heap[k]? = w.heap[k]? :=by
 rcases Nat.lt_or_gt_of_ne hne with h1 | h1
 ·exact h.1.block k h1
 ·exact h.2 k h1 hk

theorem But.below {b B:Nat} {v w w1:World} (h0:Below B v w) (h:But b w w1) (hB:B≤b):Below B v w1:=h0.trans (h.1.mono hB)

theorem But.own {b B n k:Nat} {e:TypeId} {v:Value} {xs:List Value} {w w1:World} (h:But b w w1) (ho:w.ownsRow B e k v n xs) (hne:v.ownBlock≠some b):w1.ownsRow B e k v n xs:=by
 rcases ho.2 with h' | ⟨g,cap,cur,hv,hg,hrow,rest⟩
 ·exact ⟨ho.1,.inl h'⟩
 ·refine ⟨ho.1,.inr ⟨g,cap,cur,hv,hg,(h.block g (Array.getElem?_eq_some_iff.1 hrow).1 ?_).trans hrow,rest⟩⟩
  rintro rfl;subst hv;exact hne rfl

end Go.Proofs.YtolioccofbhliaaGreatDoor
namespace Go.Proofs.YtolioccofbhliaaGreatDoor

open Go.RowKit

def IsRow_Cb (k:IntKind) (w:World) (a:Option Addr) (len cap:Nat) (zs:List Int):Prop:=
 (a=none∧len=0∧cap=0∧zs=[]) ∨
 ∃ x,a=some x∧len≤cap∧cap≤maxLen∧zs.length=cap∧(∀ i,i<zs.length→w.cell? (x.add i)=some (.int k (zs.getD i 0))) ∧ ∀ n ∈ zs,(Lit.int k n).wf=true

theorem IsRow_Cb.block {k:IntKind} {w:World} {a:Option Addr} {len cap:Nat} {zs:List Int} (h:IsRow_Cb k w a len cap zs) {y:Addr} (hy:a=some y) {j:Nat} (hj:j<zs.length):(y.add j).block<w.heap.size:=by
 rcases h with ⟨rfl,_⟩ | ⟨x,rfl,_,_,_,hcell,_⟩
 ·cases hy
 ·obtain rfl:=Option.some.inj hy
  exact World.block_lt_of_cell? w _ (hcell j hj)

end Go.Proofs.YtolioccofbhliaaGreatDoor
namespace Go.Proofs.YtolioccofbhliaaGreatDoor

open Go.RowKit

def SlB_Cb (w:World) (v:Value) (l:List UInt8):Prop:=
 (∃ c,v = .slice none 0 c∧l=[]) ∨ ∃ x cap,v = .slice (some x) l.length cap ∧ ∀ j (h:j<l.length),w.cell? (x.add j)=some (.int .u8 (l[j].toNat:Int))

theorem SlB_Cb.string {P:Program} {w:World} {v:Value} {l:List UInt8} {e src dst:TypeId} (h:SlB_Cb w v l) (hs:P.underlying src=some (.slice e)) (he:P.underlying e=some (.int .u8)) (hd:P.underlying dst=some .string):
 (convert src dst v).run P w = .ok (.string ⟨l.toArray⟩) w:=by
 rcases h with ⟨c,rfl,rfl⟩ | ⟨x,cap,rfl,hc⟩
 ·exact Lib.run_convert_nil_bytes w src dst e c hs he hd
 ·exact run_convert_bytes_back w src dst e x cap l hs he hd hc

theorem SlB_Cb.below {w w':World} {v:Value} {l:List UInt8} {B:Nat} (h:SlB_Cb w v l) (hb:Below B w w') (hB: ∀ x n c,v = .slice (some x) n c → ∀ j,j<l.length→(x.add j).block<B):SlB_Cb w' v l:=by
 rcases h with h | ⟨x,cap,rfl,hc⟩
 ·exact .inl h
 ·exact .inr ⟨x,cap,rfl,fun j hj=>(hb.cell (hB x _ _ rfl j hj)).trans (hc j hj)⟩

theorem SlB_Cb.kept {w w':World} {v:Value} {l:List UInt8} (h:SlB_Cb w v l) (hb:Below w.heap.size w w'):SlB_Cb w' v l:=by
 refine h.below hb ?_;rcases h with ⟨c,rfl,rfl⟩ | ⟨x,cap,rfl,hc⟩
 ·intro x n c' e j hj;simp at hj
 ·intro x' n c' e j hj
  obtain ⟨e1,_,_⟩:=Value.slice.inj e
  obtain rfl:=Option.some.inj e1;exact World.block_lt_of_cell? w _ (hc j hj)

theorem SlB_Cb.alloc {w:World} {v:Value} {l:List UInt8} (h:SlB_Cb w v l) (o:Obj):SlB_Cb (w.alloc o) v l:=h.kept ((Below.refl _ w).alloc (Nat.le_refl _) o)

theorem SlB_Cb.len {w:World} {v:Value} {l:List UInt8} (h:SlB_Cb w v l): ∃ a cap,v = .slice a l.length cap:=by
 rcases h with ⟨c,rfl,rfl⟩ | ⟨x,cap,rfl,hc⟩
 ·exact ⟨none,c,rfl⟩
 ·exact ⟨some x,cap,rfl⟩

theorem SlB_Cb.own {w:World} {B:Nat} {e:TypeId} {v:Value} {l:List UInt8} (h:w.ownsRow B e 1 v l.length (Lib.byteCells l)):SlB_Cb w v l:=by
 rcases h.2 with ⟨rfl,h0⟩ | ⟨g,cap,cur,rfl,_⟩
 ·exact .inl ⟨0,rfl,List.eq_nil_of_length_eq_zero h0⟩
 ·exact .inr ⟨_,cap,rfl,fun j hj=>h.cells (g:=g) rfl j _ (by simp [Lib.byteCells,hj])⟩

theorem SlB_Cb.take {w:World} {a:Option Addr} {len cap:Nat} {l:List UInt8} (h:SlB_Cb w (.slice a len cap) l) (n:Nat) (hn:n<l.length):SlB_Cb w (.slice a n cap) (l.take n):=by
 rcases h with ⟨c,e,rfl⟩ | ⟨x,c,e,hc⟩
 ·simp at hn
 ·obtain ⟨rfl,rfl,rfl⟩:=Value.slice.inj e
  refine .inr ⟨x,cap,by congr 1;simp;omega,fun j hj=> ?_⟩
  have hj':j<l.length:=by simp at hj;omega
  rw [hc j hj'];simp

theorem IsRow_Cb.bytes {w:World} {a:Option Addr} {len cap:Nat} {zs:List Int} (h:IsRow_Cb .u8 w a len cap zs): ∃ l:List UInt8,l.length=len∧SlB_Cb w (.slice a len cap) l∧len≤cap∧cap≤maxLen:=by
 rcases h with ⟨rfl,rfl,rfl,rfl⟩ | ⟨x,rfl,hlc,hcm,hz,hcell,hwf⟩
 ·exact ⟨[],rfl,.inl ⟨0,rfl,rfl⟩,Nat.le_refl _,by unfold maxLen;omega⟩
 ·refine ⟨(zs.take len).map fun n=>UInt8.ofNat n.toNat,by simp;omega,.inr ⟨x,cap,by congr 1;simp;omega,?_⟩,hlc,hcm⟩
  intro j hj;have hj':j<len∧j<zs.length:=by simp at hj;omega
  have hwfj:=hwf zs[j] (List.getElem_mem hj'.2);have hb:0≤zs[j]∧zs[j]≤255:=by simpa [Lit.wf,IntKind.min,IntKind.max,IntKind.bits,IntKind.signed] using hwfj
  rw [hcell j hj'.2];have e:zs.getD j 0=zs[j]:=by simp [List.getD,hj'.2]
  rw [e]
  congr 2
  simp;omega

end Go.Proofs.YtolioccofbhliaaGreatDoor
namespace Go.Proofs.YtolioccofbhliaaGreatDoor

open Go.RowKit

def QR (A B out l:List UInt8):Prop:=out++(quo l).1=A∧(quo l).2=B

theorem QR.start (l:List UInt8):QR (quo l).1 (quo l).2 [] l:=⟨rfl,rfl⟩

theorem QR.one {A B out:List UInt8} {c:UInt8} (h:QR A B out [c]) (hc:c≠34):QR A B (out++[c]) []:=by
 obtain ⟨h1,h2⟩:=h
 rw [quo,if_neg hc] at h1 h2
 exact ⟨by rw [← h1];simp [quo],h2⟩

theorem QR.nil {A B out:List UInt8} (h:QR A B out []):out=A∧B=[]:=by
 obtain ⟨h1,h2⟩:=h
 exact ⟨by simpa [quo] using h1,h2.symm⟩

theorem But.grown {b:Nat} {w w1 w2:World} {row:Option Nat} (h:But b w w1) (hg:w1.grownBy w2 row) (hr: ∀ k,row=some k→w.heap.size≤k) (hb:b<w.heap.size):But b w w2:=by
 have h1:=h.1.size;refine ⟨h.1.grown hg (by omega) (fun k hk=>by have:=hr k hk;omega),fun k hk1 hk2=> ?_⟩;rw [hg.block k (by omega) (fun e=>by have:=hr k e.symm;omega)];exact h.2 k hk1 hk2

theorem But.alloc {b:Nat} {w w1:World} (h:But b w w1) (o:Obj) (hb:b≤w1.heap.size):But b w (w1.alloc o):=h.then ((Below.refl _ w1).alloc (Nat.le_refl _) o) hb

end Go.Proofs.YtolioccofbhliaaGreatDoor
namespace Go.Proofs.YtolioccofbhliaaGreatDoor

open Go.RowKit

end Go.Proofs.YtolioccofbhliaaGreatDoor
namespace Go.Proofs.YtolioccofbhliaaGreatDoor

open Go.RowKit Go.Maps Go.WideMaps

theorem But.map {b B n:Nat} {D:DataW Unit} {w w1:World} (h:But b w w1) (ho:w.ownsMap Tryz.prog 9 unitElem B n D) (hne:B≠b):w1.ownsMap Tryz.prog 9 unitElem B n D:=by
 obtain ⟨es,clock,hb,rest⟩:=ho
 exact ⟨es,clock,(h.block B (Array.getElem?_eq_some_iff.1 hb).1 hne).trans hb,rest⟩

end Go.Proofs.YtolioccofbhliaaGreatDoor
namespace Go.Proofs.YtolioccofbhliaaGreatDoor

open Go.RowKit

end Go.Proofs.YtolioccofbhliaaGreatDoor
namespace Go.Proofs.YtolioccofbhliaaGreatDoor

open Go.RowKit

end Go.Proofs.YtolioccofbhliaaGreatDoor
namespace Go.Proofs.YtolioccofbhliaaGreatDoor

open Go.RowKit

def pcsV (L:List Hd) (n:List UInt8):List (List UInt8):=if getB L n then splitV L n else []

end Go.Proofs.YtolioccofbhliaaGreatDoor
namespace Go.Proofs.YtolioccofbhliaaGreatDoor

open Go.RowKit

end Go.Proofs.YtolioccofbhliaaGreatDoor
namespace Go.Proofs.YtolioccofbhliaaGreatDoor

open Go.RowKit

end Go.Proofs.YtolioccofbhliaaGreatDoor
namespace Go.Proofs.YtolioccofbhliaaGreatDoor

open Go.RowKit

end Go.Proofs.YtolioccofbhliaaGreatDoor
namespace Go.Proofs.YtolioccofbhliaaGreatDoor

open Go.RowKit

end Go.Proofs.YtolioccofbhliaaGreatDoor
namespace Go.Proofs.YtolioccofbhliaaGreatDoor

open Go.RowKit

end Go.Proofs.YtolioccofbhliaaGreatDoor
namespace Go.Proofs.YtolioccofbhliaaGreatDoor

open Go.RowKit

end Go.Proofs.YtolioccofbhliaaGreatDoor
namespace Go.Proofs.YtolioccofbhliaaGreatDoor

open Go.RowKit

end Go.Proofs.YtolioccofbhliaaGreatDoor
namespace Go.Proofs.YtolioccofbhliaaGreatDoor

open Go.RowKit

end Go.Proofs.YtolioccofbhliaaGreatDoor
namespace Go.Proofs.YtolioccofbhliaaGreatDoor

open Go.RowKit

end Go.Proofs.YtolioccofbhliaaGreatDoor
namespace Go.Proofs.YtolioccofbhliaaGreatDoor

open Go.RowKit

end Go.Proofs.YtolioccofbhliaaGreatDoor
namespace Go.Proofs.YtolioccofbhliaaGreatDoor

open Go.RowKit

end Go.Proofs.YtolioccofbhliaaGreatDoor
namespace Go.Proofs.YtolioccofbhliaaGreatDoor

open Go.RowKit

def pT (c:UInt8):Bool:=endT c.toNat

set_option maxRecDepth 100000 in
theorem pT_contains (c:UInt8):[(9:UInt8),32].contains c=pT c:=by
 have:=byte_all (p:=fun c=>[(9:UInt8),32].contains c==pT c) (by decide) c
 simpa using this

theorem trimB_strip (l:List UInt8):trimB l=((l.dropWhile pT).reverse.dropWhile pT).reverse:=by
 rw [trim_comm];unfold trimB Lib.trimS Lib.trimLeftS Lib.trimRightS;have:(fun c=>[(9:UInt8),32].contains c)=pT:=funext pT_contains;rw [this]

end Go.Proofs.YtolioccofbhliaaGreatDoor
namespace Go.Proofs.YtolioccofbhliaaGreatDoor

open Go.RowKit

end Go.Proofs.YtolioccofbhliaaGreatDoor
namespace Go.Proofs.YtolioccofbhliaaGreatDoor

open Go.RowKit

end Go.Proofs.YtolioccofbhliaaGreatDoor
namespace Go.Proofs.YtolioccofbhliaaGreatDoor

open Go.RowKit

end Go.Proofs.YtolioccofbhliaaGreatDoor
namespace Go.Proofs.YtolioccofbhliaaGreatDoor

open Go.RowKit

end Go.Proofs.YtolioccofbhliaaGreatDoor
namespace Go.Proofs.YtolioccofbhliaaGreatDoor

open Go.RowKit

end Go.Proofs.YtolioccofbhliaaGreatDoor
namespace Go.Proofs.YtolioccofbhliaaGreatDoor

open Go.RowKit

end Go.Proofs.YtolioccofbhliaaGreatDoor
namespace Go.Proofs.YtolioccofbhliaaGreatDoor

open Go.RowKit

structure Three_Cb where
 (a b c:Nat)

structure Kd_Cb where
 W:Nat
 R:Nat
 s0:Three_Cb
 s1:Three_Cb
 g0:Three_Cb
 g1:Three_Cb

def Kd_Cb.B (k:Kd_Cb):Nat:=k.W / 8

def Kd_Cb.size (k:Kd_Cb):Nat:=16*k.B

end Go.Proofs.YtolioccofbhliaaGreatDoor
namespace Go.Proofs.YtolioccofbhliaaGreatDoor

open Go.RowKit

structure It where
 bits:Int
 want:List UInt8
 opt:List UInt8

end Go.Proofs.YtolioccofbhliaaGreatDoor
namespace Go.Proofs.YtolioccofbhliaaGreatDoor

open Go.RowKit

theorem row_kept_Cb {w w':World} {g:Nat} {o:Obj} (h:w.heap[g]? = some o) (hb:Below w.heap.size w w'):w'.heap[g]? = some o:=by
 have hlt:g<w.heap.size:=by
  rcases Nat.lt_or_ge g w.heap.size with h' | h'
  ·exact h'
  ·rw [Array.getElem?_eq_none h'] at h;cases h
 rw [hb.block g hlt];exact h

theorem there_row_Cb {w:World} {g n:Nat} {cs:Array Value} {t:TypeId} (h:w.heap[g]? = some (.cells cs t (0,0))) (hn:n≤cs.size):w.there g 0 n:=by
 intro j hj;constructor
 ·rw [cell_of_row w g _ cs t _ h];simp;omega
 ·simp [World.frozen?,h]

theorem range_row_Cb {w:World} {g:Nat} {cs:List Value} {t:TypeId} {f:Nat×Nat} (h:w.heap[g]? = some (.cells cs.toArray t f)):w.rangeAt g 0 cs:=by
 intro j v hv;rw [Nat.zero_add,cell_of_row w g j _ t _ h]
 simpa using hv

theorem kept_cell_Cb {w w':World} {a:Addr} {v:Value} (h:w.cell? a=some v) (hb:Below w.heap.size w w'):w'.cell? a=some v:=(hb.cell (World.block_lt_of_cell? w _ h)).trans h

end Go.Proofs.YtolioccofbhliaaGreatDoor
namespace Go.Proofs.YtolioccofbhliaaGreatDoor

open Go.RowKit

def ItAt (w:World) (v:Value) (L:List It):Prop:=
 ∃ a cap,v = .slice a L.length cap∧L.length≤cap∧cap≤maxLen ∧ ∀ j (hj:j<L.length),∃ b off,a=some ⟨b,off,none⟩∧w.cell? ⟨b,off+j*3,none⟩=some (.int .i64 L[j].bits)∧w.cell? ⟨b,off+j*3+1,none⟩=some (.string ⟨L[j].want.toArray⟩)∧w.cell? ⟨b,off+j*3+2,none⟩=some (.string ⟨L[j].opt.toArray⟩)

theorem ItAt.view {w:World} {v:Value} {L:List It} (h:ItAt w v L): ∃ a cap,v = .slice a L.length cap∧L.length≤cap∧cap≤maxLen ∧ ∀ j (hj:j<L.length),∃ b off,a=some ⟨b,off,none⟩∧w.cell? ⟨b,off+j*3,none⟩=some (.int .i64 L[j].bits)∧w.cell? ⟨b,off+j*3+1,none⟩=some (.string ⟨L[j].want.toArray⟩)∧w.cell? ⟨b,off+j*3+2,none⟩=some (.string ⟨L[j].opt.toArray⟩):=h

theorem ItAt.kept {w w':World} {v:Value} {L:List It} (h:ItAt w v L) (hb:Below w.heap.size w w'):ItAt w' v L:=by
 obtain ⟨a,cap,h1,h2,h3,h4⟩:=h
 refine ⟨a,cap,h1,h2,h3,fun j hj=> ?_⟩
 obtain ⟨b,off,e,c1,c2,c3⟩:=h4 j hj
 exact ⟨b,off,e,kept_cell_Cb c1 hb,kept_cell_Cb c2 hb,kept_cell_Cb c3 hb⟩

def Gm (w:World):Prop:= ∃ m,w.cell? ⟨1,0,none⟩=some (.int .i64 m)

theorem Gm.kept {w w':World} (h:Gm w) (hb:Below w.heap.size w w'):Gm w':=by
 obtain ⟨m,hm⟩:=h
 exact ⟨m,kept_cell_Cb hm hb⟩

end Go.Proofs.YtolioccofbhliaaGreatDoor
namespace Go.Proofs.YtolioccofbhliaaGreatDoor

open Go.RowKit

def cW_Cb (K:IntKind) (l:List Nat):List Value:=l.map fun (n:Nat)=> .int K (n:Int)

theorem cW_len_Cb (K:IntKind) (l:List Nat):(cW_Cb K l).length=l.length:=by simp [cW_Cb]

def Rw_Cb (w:World) (g:Nat) (K:IntKind) (t:TypeId) (l:List Nat):Prop:=w.heap[g]? = some (.cells (cW_Cb K l).toArray t (0,0))

theorem Rw_Cb.lt {w:World} {g:Nat} {K:IntKind} {t:TypeId} {l:List Nat} (h:Rw_Cb w g K t l):g<w.heap.size:=(Array.getElem?_eq_some_iff.1 h).1

theorem Rw_Cb.kept {w w':World} {g:Nat} {K:IntKind} {t:TypeId} {l:List Nat} (h:Rw_Cb w g K t l) (hb:Below w.heap.size w w'):Rw_Cb w' g K t l:=row_kept_Cb h hb

theorem Rw_Cb.drew {w:World} {g:Nat} {K:IntKind} {t:TypeId} {l:List Nat} (h:Rw_Cb w g K t l):Rw_Cb w.drew g K t l:=h

theorem Rw_Cb.cell {w:World} {g:Nat} {K:IntKind} {t:TypeId} {l:List Nat} (h:Rw_Cb w g K t l) (i:Nat) (hi:i<l.length):w.cell? ⟨g,i,none⟩=some (.int K (l.getD i 0:Nat)):=by
 rw [cell_of_row w g i _ t _ h];simp [cW_Cb,hi]

theorem Rw_Cb.new (w:World) (K:IntKind) (t:TypeId) (l:List Nat):Rw_Cb (w.alloc (.cells (cW_Cb K l).toArray t)) w.heap.size K t l:=heap_alloc_new w _

theorem Rw_Cb.there {w:World} {g:Nat} {K:IntKind} {t:TypeId} {l:List Nat} (h:Rw_Cb w g K t l) (n:Nat) (hn:n=l.length):w.there g 0 n:=there_row_Cb h (by simp [cW_len_Cb,hn])

theorem Rw_Cb.range {w:World} {g:Nat} {K:IntKind} {t:TypeId} {l:List Nat} (h:Rw_Cb w g K t l):w.rangeAt g 0 (cW_Cb K l):=range_row_Cb h

def But1_Cb (wr:World) (a:Addr) (u:Value) (X:World):Prop:=Below wr.heap.size (wr.setCell a u) (X.setCell a u)

theorem But1_Cb.start (wr:World) (a:Addr) (u:Value):But1_Cb wr a u wr.drew:=⟨rfl,rfl,rfl,Nat.le_refl _,fun k hk=>rfl⟩

theorem size_setCell_Cb (w:World) (a:Addr) (u:Value):(w.setCell a u).heap.size=w.heap.size:=by simp [World.setCell]

theorem But1_Cb.size {wr X:World} {a:Addr} {u:Value} (h:But1_Cb wr a u X):wr.heap.size≤X.heap.size:=by
 have:=Below.size h
 rwa [size_setCell_Cb,size_setCell_Cb] at this

theorem But1_Cb.cell {wr X:World} {a:Addr} {u v:Value} (h:But1_Cb wr a u X) {p:Addr} (hp:wr.cell? p=some v) (hne:a≠p):X.cell? p=some v:=by
 have h1:=Below.cell h (p:=p) (World.block_lt_of_cell? wr p hp);rw [World.cell?_setCell_other _ _ _ _ hne,World.cell?_setCell_other _ _ _ _ hne] at h1;rw [h1];exact hp

end Go.Proofs.YtolioccofbhliaaGreatDoor
namespace Go.Proofs.YtolioccofbhliaaGreatDoor

open Go.RowKit

end Go.Proofs.YtolioccofbhliaaGreatDoor
namespace Go.Proofs.YtolioccofbhliaaGreatDoor

open Go.RowKit

theorem SlB_Cb.at {w:World} {a:Option Addr} {n c:Nat} {l:List UInt8} (h:SlB_Cb w (.slice a n c) l) (k:Nat) (hk:k<l.length): ∃ x,a=some x∧w.cell? (x.add k)=some (.int .u8 (l[k].toNat:Int)):=by
 rcases h with ⟨c,e,rfl⟩ | ⟨x,c,e,hc⟩
 ·simp at hk
 ·obtain ⟨rfl,_,_⟩:=Value.slice.inj e
  exact ⟨x,rfl,hc k hk⟩

end Go.Proofs.YtolioccofbhliaaGreatDoor
namespace Go.Proofs.YtolioccofbhliaaGreatDoor

open Go.RowKit

end Go.Proofs.YtolioccofbhliaaGreatDoor
namespace Go.Proofs.YtolioccofbhliaaGreatDoor

open Go.RowKit

def RtAt (w:World) (v:Value) (L:List It):Prop:=
 ∃ a cap,v = .slice a L.length cap∧L.length≤cap∧cap≤maxLen ∧ ∀ j (hj:j<L.length),∃ b off,a=some ⟨b,off,none⟩∧w.cell? ⟨b,off+j*3,none⟩=some (.int .i64 L[j].bits)∧w.cell? ⟨b,off+j*3+1,none⟩=some (.string ⟨L[j].want.toArray⟩)∧w.cell? ⟨b,off+j*3+2,none⟩=some (.string ⟨L[j].opt.toArray⟩)

theorem RtAt.view {w:World} {v:Value} {L:List It} (h:RtAt w v L): ∃ a cap,v = .slice a L.length cap∧L.length≤cap∧cap≤maxLen ∧ ∀ j (hj:j<L.length),∃ b off,a=some ⟨b,off,none⟩∧w.cell? ⟨b,off+j*3,none⟩=some (.int .i64 L[j].bits)∧w.cell? ⟨b,off+j*3+1,none⟩=some (.string ⟨L[j].want.toArray⟩)∧w.cell? ⟨b,off+j*3+2,none⟩=some (.string ⟨L[j].opt.toArray⟩):=h

end Go.Proofs.YtolioccofbhliaaGreatDoor
namespace Go.Proofs.YtolioccofbhliaaGreatDoor

open Go.RowKit

def Gp (w : World) : Prop := Lib.TabIs Tryz.prog w "internal/strconv.uint64pow10" .u64 Lib.pow10Tab

theorem gPow9 : Tryz.prog.globalNamed "internal/strconv.uint64pow10" = some 0 := by kernel_rfl

theorem Gp.kept {w w':World} (h:Gp w) (hb:Below w.heap.size w w'):Gp w':=Joins.tab_stays gPow9 h hb (Nat.le_refl _)

end Go.Proofs.YtolioccofbhliaaGreatDoor
namespace Go.Proofs.YtolioccofbhliaaGreatDoor

open Go.RowKit

end Go.Proofs.YtolioccofbhliaaGreatDoor

namespace Go.Proofs.YtolioccofbhliaaGreatDoor
open Go.RowKit

def insN (x:List UInt8):List (List UInt8)→List (List UInt8)
 | []=>[x]
 | y::t=>if ltN y x=true then y::insN x t else if y=x then y::t else x::y::t

theorem insN_mem (x n:List UInt8): ∀ O:List (List UInt8),n ∈ insN x O ↔ n=x∨n ∈ O
 | []=>by simp [insN]
 | y::t=>by
   have ih:=insN_mem x n t;unfold insN;split
   ·simp only [List.mem_cons,ih]
    constructor
    ·rintro (h | h | h)
     ·exact .inr (.inl h)
     ·exact .inl h
     ·exact .inr (.inr h)
    ·rintro (h | h | h)
     ·exact .inr (.inl h)
     ·exact .inl h
     ·exact .inr (.inr h)
   ·split
    ·rename_i h
     subst h;simp only [List.mem_cons];constructor
     ·exact .inr
     ·rintro (h | h)
      ·exact .inl h
      ·exact h
    ·simp only [List.mem_cons]

theorem insN_pw (x:List UInt8): ∀ O:List (List UInt8),O.Pairwise (fun a b=>ltN a b=true)→(insN x O).Pairwise (fun a b=>ltN a b=true)
 | [],_=>by simp [insN]
 | y::t,h=>by
   have h2:=List.pairwise_cons.1 h;have ih:=insN_pw x t h2.2;unfold insN;split
   ·rename_i hlt
    refine List.pairwise_cons.2 ⟨fun z hz=> ?_,ih⟩;rcases (insN_mem x z t).1 hz with rfl | hz
    ·exact hlt
    ·exact h2.1 z hz
   ·rename_i hnl
    split
    ·exact h
    ·rename_i hne
     have hxy:ltN x y=true:=by
      rcases ltN_total x y with h3 | h3 | h3
      ·exact h3
      ·exact absurd h3.symm hne
      ·exact absurd h3 hnl
     refine List.pairwise_cons.2 ⟨fun z hz=> ?_,h⟩;rcases List.mem_cons.1 hz with rfl | hz
     ·exact hxy
     ·exact ltN_trans hxy (h2.1 z hz)

def srtN (L:List (List UInt8)):List (List UInt8):=L.foldl (fun O x=>insN x O) []

theorem srtN_facts (L:List (List UInt8)):(srtN L).Pairwise (fun a b=>ltN a b=true)∧(∀ n,n ∈ srtN L ↔ n ∈ L)∧(srtN L).length≤L.length:=by
 suffices H: ∀ (L O:List (List UInt8)),O.Pairwise (fun a b=>ltN a b=true)→(L.foldl (fun O x=>insN x O) O).Pairwise (fun a b=>ltN a b=true)∧(∀ n,n ∈ L.foldl (fun O x=>insN x O) O ↔ n ∈ L∨n ∈ O)∧(L.foldl (fun O x=>insN x O) O).length≤L.length+O.length by
  obtain ⟨h1,h2,h3⟩:=H L [] List.Pairwise.nil
  exact ⟨h1,fun n=>by rw [srtN,h2 n];simp,h3⟩
 have hlen: ∀ (x:List UInt8) (O:List (List UInt8)),(insN x O).length≤O.length+1:=by
  intro x O
  induction O with
  | nil=>simp [insN]
  | cons y t ih=>
    unfold insN;split
    ·simp;omega
    ·split
     ·simp
     ·simp
 intro L
 induction L with
 | nil=>intro O h;exact ⟨h,fun n=>by simp,by simp⟩
 | cons x L ih=>
   intro O h;obtain ⟨h1,h2,h3⟩:=ih (insN x O) (insN_pw x O h)
   refine ⟨h1,fun n=> ?_,?_⟩
   ·rw [List.foldl_cons,h2 n,insN_mem]
    simp only [List.mem_cons];constructor
    ·rintro (h | h | h)
     ·exact .inl (.inr h)
     ·exact .inl (.inl h)
     ·exact .inr h
    ·rintro ((h | h) | h)
     ·exact .inr (.inl h)
     ·exact .inl h
     ·exact .inr (.inr h)
   ·rw [List.foldl_cons]
    have:=hlen x O;simp;omega

end Go.Proofs.YtolioccofbhliaaGreatDoor

namespace Go.Proofs.YtolioccofbhliaaGreatDoor
open Go.RowKit

theorem less_ltN6: ∀ a b:List UInt8,Op.bytesLess a b=ltN a b
 | [],[]=>rfl
 | [],_::_=>rfl
 | _::_,[]=>rfl
 | x::a,y::b=>by
   have ih:=less_ltN6 a b;unfold ltN at ih ⊢;rw [Op.bytesLess,cmp_cons,ih]
   by_cases h1:x<y
   ·simp [h1]
   ·by_cases h2:y<x
    ·have:x≠y:=fun e=>by subst e;exact h1 h2
     simp [h1,h2,this]
    ·have:x=y:=by
      rw [UInt8.lt_iff_toNat_lt] at h1 h2;exact UInt8.toNat_inj.1 (by omega)
     simp [h1,h2,this]

def SoI (w:World) (vv:Value) (O:List (List UInt8)) (wr:World):Prop:=wr.ownsRow w.heap.size 9 1 vv O.length (cellsT O)∧Below w.heap.size w wr

theorem SoI.drewN {w wr:World} {vv:Value} {O:List (List UInt8)} (h:SoI w vv O wr) (n:Nat):SoI w vv O (wr.drewN n):=⟨h.1,Go.below_drewN h.2 n⟩

end Go.Proofs.YtolioccofbhliaaGreatDoor

namespace Go.Proofs.YtolioccofbhliaaGreatDoor
open Go.RowKit

structure Ctl where
 ns:Bool
 nc:Bool
 mx:Int
deriving DecidableEq

theorem intV_range_Efa (l:List UInt8):0≤intV l∧intV l≤9223372036854775807:=by
 unfold intV;split
 ·rename_i h
  rw [Bool.and_eq_true] at h;exact numI_range l h.1
 ·omega

def srt16 (X:List (List UInt8)):List (List UInt8):=X.mergeSort fun x y=>decide (x≤y)

theorem srt16_len (X:List (List UInt8)):(srt16 X).length=X.length:=by unfold srt16;exact List.length_mergeSort ..

theorem srt16_mem (X:List (List UInt8)) (t:List UInt8):t ∈ srt16 X ↔ t ∈ X:=by unfold srt16;exact List.mem_mergeSort

theorem srt16_pair (X:List (List UInt8)):(srt16 X).Pairwise (fun a b=>a≤b):=by
 have h:=List.pairwise_mergeSort (le:=fun x y:List UInt8=>decide (x≤y)) (fun a b c h1 h2=>by
  simp only [decide_eq_true_eq] at *
  exact List.le_trans h1 h2) (fun a b=>by
  simp only [Bool.or_eq_true,decide_eq_true_eq]
  exact List.le_total a b) X
 exact h.imp (fun h=>by simpa using h)

theorem le_ltN (a b:List UInt8):a≤b ↔ ltN b a=false:=by
 have h:ltN b a=decide (b<a):=by rw [← less_ltN6,bytesLess_eq]
 rw [h,decide_eq_false_iff_not,List.not_lt]

theorem pw_one: ∀ (A B:List (List UInt8)),A.Pairwise (fun a b=>ltN a b=true)→B.Pairwise (fun a b=>ltN a b=true)→(∀ n,n ∈ A ↔ n ∈ B)→A=B
 | [],[],_,_,_=>rfl
 | [],b::B,_,_,h=>absurd ((h b).2 (by simp)) (by simp)
 | a::A,[],_,_,h=>absurd ((h a).1 (by simp)) (by simp)
 | a::A,b::B,hA,hB,h=>by
   have hA2:=List.pairwise_cons.1 hA;have hB2:=List.pairwise_cons.1 hB;have hab:a=b:=by
    rcases List.mem_cons.1 ((h a).1 (by simp)) with h1 | h1
    ·exact h1
    ·rcases List.mem_cons.1 ((h b).2 (by simp)) with h2 | h2
     ·exact h2.symm
     ·have h3:=hB2.1 a h1
      have h4:=hA2.1 b h2;rw [ltN_asymm h3] at h4
      cases h4
   subst hab;refine congrArg _ (pw_one A B hA2.2 hB2.2 fun n=> ?_);constructor
   ·intro hn
    rcases List.mem_cons.1 ((h n).1 (by simp [hn])) with h1 | h1
    ·subst h1;have:=hA2.1 n hn;rw [ltN_irrefl] at this;cases this
    ·exact h1
   ·intro hn
    rcases List.mem_cons.1 ((h n).2 (by simp [hn])) with h1 | h1
    ·subst h1;have:=hB2.1 n hn;rw [ltN_irrefl] at this;cases this
    ·exact h1

theorem compact_upto (zs:List (List UInt8)) (hs:zs.Pairwise (fun a b=>a≤b)): ∀ m,m≤zs.length →
 (Lib.compactUpTo zs.toArray m).Pairwise (fun a b=>ltN a b=true)∧(∀ n,n ∈ Lib.compactUpTo zs.toArray m ↔ n ∈ zs.take m)∧(Lib.compactUpTo zs.toArray m).length≤m ∧ ∀ j (hj:j<zs.length),j+1=m → ∀ x ∈ Lib.compactUpTo zs.toArray m,x=zs[j]∨ltN x zs[j]=true:=by
 intro m
 induction m with
 | zero=>intro _;exact ⟨by simp [Lib.compactUpTo],fun n=>by simp [Lib.compactUpTo],by simp [Lib.compactUpTo],fun j hj h=>by omega⟩
 | succ m ih=>
   intro hm;obtain ⟨h1,h2,h3,h4⟩:=ih (by omega)
   have hmz:m<zs.length:=by omega
   have hg:zs.toArray[m]! = zs[m]:=by rw [getElem!_pos _ _ (by simpa using hmz)];simp
   rw [Lib.compactUpTo_succ,hg]
   have htk:zs.take (m+1)=zs.take m++[zs[m]]:=by rw [List.take_add_one,List.getElem?_eq_getElem hmz];rfl
   have hle: ∀ j (hj:j<zs.length),j<m→zs[j]≤zs[m]:=fun j hj hjm=>List.pairwise_iff_getElem.1 hs j m hj hmz hjm
   cases hk:Lib.keeps zs.toArray m with
   | true=>
     have hlt: ∀ x ∈ Lib.compactUpTo zs.toArray m,ltN x zs[m]=true:=by
      intro x hx;by_cases h0:m=0
      ·subst h0;simp [Lib.compactUpTo] at hx
      ·obtain ⟨k,rfl⟩: ∃ k,m=k+1:=⟨m - 1,by omega⟩
       have hne:zs[k+1]≠zs[k]:=by
        unfold Lib.keeps at hk;rw [decide_eq_true_eq] at hk;rcases hk with hk | hk
        ·omega
        ·rw [hg,Nat.add_sub_cancel,getElem!_pos _ _ (by simp;omega)] at hk
         simpa using hk
       have hkk:ltN zs[k] zs[k+1]=true:=by
        have h5:=(le_ltN _ _).1 (hle k (by omega) (by omega));rcases ltN_total zs[k] zs[k+1] with h6 | h6 | h6
        ·exact h6
        ·exact absurd h6.symm hne
        ·rw [h5] at h6;cases h6
       rcases h4 k (by omega) rfl x hx with rfl | h5
       ·exact hkk
       ·exact ltN_trans h5 hkk
     rw [if_pos rfl];refine ⟨?_,fun n=> ?_,by simp;omega,fun j hj e x hx=> ?_⟩
     ·rw [List.pairwise_append]
      exact ⟨h1,by simp,fun a ha b hb=>by rw [List.mem_singleton.1 hb];exact hlt a ha⟩
     ·rw [htk,List.mem_append,List.mem_append,h2 n]
     ·have:j=m:=by omega
      subst this;rcases List.mem_append.1 hx with hx | hx
      ·exact .inr (hlt x hx)
      ·exact .inl (List.mem_singleton.1 hx)
   | false=>
     have hm0:m≠0:=fun e=>by subst e;simp [Lib.keeps] at hk
     obtain ⟨k,rfl⟩: ∃ k,m=k+1:=⟨m - 1,by omega⟩
     have heq:zs[k+1]=zs[k]:=by
      unfold Lib.keeps at hk;rw [decide_eq_false_iff_not] at hk;rw [hg,Nat.add_sub_cancel,getElem!_pos _ _ (by simp;omega)] at hk
      simp at hk;exact hk
     rw [if_neg (by simp),List.append_nil];refine ⟨h1,fun n=> ?_,by omega,fun j hj e x hx=> ?_⟩
     ·rw [htk,List.mem_append,h2 n,List.mem_singleton]
      constructor
      ·exact .inl
      ·rintro (h | h)
       ·exact h
       ·rw [h,heq,List.mem_take_iff_getElem]
        exact ⟨k,by omega,rfl⟩
     ·have:j=k+1:=by omega
      subst this;rw [heq];exact h4 k (by omega) rfl x hx

theorem compact_srt (X:List (List UInt8)):Lib.compact (srt16 X)=srtN X:=by
 obtain ⟨h1,h2,h3,_⟩:=compact_upto (srt16 X) (srt16_pair X) (srt16 X).length (Nat.le_refl _)
 have hf:=srtN_facts X;refine pw_one _ _ h1 hf.1 fun n=> ?_
 rw [show Lib.compact (srt16 X)=Lib.compactUpTo (srt16 X).toArray (srt16 X).length from rfl,h2 n,hf.2.1 n,List.take_length,srt16_mem]

end Go.Proofs.YtolioccofbhliaaGreatDoor

namespace Go.Proofs.YtolioccofbhliaaGreatDoor
open Go.RowKit Go.Maps Go.WideMaps

def simM (s:List UInt8):Bool:=s==[71,69,84]||(s==[72,69,65,68]||s==[80,79,83,84])

theorem low_low18 (l:List UInt8):low (low l)=low l:=by
 unfold low;rw [List.map_map];refine List.map_congr_left fun c _=> ?_
 have h: ∀ n:Fin 256,lowC (lowC (UInt8.ofNat n.val))=lowC (UInt8.ofNat n.val):=by decide +kernel
 have:=h ⟨c.toNat,c.toNat_lt⟩
 simpa using this

theorem srtN_le (L:List (List UInt8)):(srtN L).Pairwise (fun a b=>decide (a≤b)=true):=by
 refine (srtN_facts L).1.imp ?_;intro a b h;rw [decide_eq_true_eq,le_ltN]
 exact ltN_asymm h

theorem srt16_srtN (L:List (List UInt8)):srt16 (srtN L)=srtN L:=by
 unfold srt16;exact List.mergeSort_of_pairwise (srtN_le L)

def nAO:List UInt8:=[97,99,99,101,115,115,45,99,111,110,116,114,111,108,45,97,108,108,111,119,45,111,114,105,103,105,110]

def nAC:List UInt8:=[97,99,99,101,115,115,45,99,111,110,116,114,111,108,45,97,108,108,111,119,45,99,114,101,100,101,110,116,105,97,108,115]

def tTru:List UInt8:=[116,114,117,101]

def chkC (t:List UInt8) (c:Bool) (L:List Hd):Bool:=
 if getB L nAO=false then false
 else if getT L nAO=[42]∧c=false then true
 else if getT L nAO=t then !c||getT L nAC==tTru
 else false

end Go.Proofs.YtolioccofbhliaaGreatDoor

namespace Go.Proofs.YtolioccofbhliaaGreatDoor
open Go.RowKit

structure Rt where
 self:List UInt8
 url:List UInt8
 cred:Bool
 isN:Bool
 word:List UInt8
deriving DecidableEq

structure RwP where
 what:Rt
 til:Int
deriving DecidableEq

def cutT (x:Rt) (T:List RwP):List RwP:=T.filter fun r=> !decide (r.what=x)

def putT (x:Rt) (age now:Int) (T:List RwP):List RwP:=
 if age=0 then cutT x T
 else if 32<(cutT x T++[(⟨x,now+age⟩:RwP)]).length then (cutT x T++[(⟨x,now+age⟩:RwP)]).eraseIdx 0
 else cutT x T++[⟨x,now+age⟩]

def putsT (age now:Int) (X:List Rt) (T:List RwP):List RwP:=X.foldl (fun T x=>putT x age now T) T

def metR (s u:List UInt8) (c:Bool) (m:List UInt8):Rt:=⟨s,u,c,false,m⟩

def namR (s u:List UInt8) (c:Bool) (n:List UInt8):Rt:=⟨s,u,c,true,low n⟩

def rtsV (s u:List UInt8) (c:Bool) (M N:List (List UInt8)) (all:Bool):List Rt:=
 M.map (metR s u c)++N.map (namR s u c)++if all then [namR s u c [42]] else []

def holT (x:Rt) (now:Int) (T:List RwP):Bool:=T.any fun r=>decide (r.what=x)&&decide (now<r.til)

def drpT (s u:List UInt8) (T:List RwP):List RwP:=T.filter fun r=> !(decide (r.what.self=s)&&decide (r.what.url=u))

def lenT (now:Int) (T:List RwP):Nat:=(T.filter fun r=>decide (now<r.til)).length

def nAuth:List UInt8:=[97,117,116,104,111,114,105,122,97,116,105,111,110]

def oneN (c:Bool) (isN:List UInt8→Bool) (n:List UInt8):Bool:=isN (low n)||(!c&&(!decide (low n=nAuth)&&isN [42]))

def okV (c:Bool) (m:List UInt8) (N:List (List UInt8)) (isM isN:List UInt8→Bool):Bool:=
 (simM m||(isM m||(!c&&isM [42])))&&N.all (oneN c isN)

def alwT (s u:List UInt8) (c:Bool) (m:List UInt8) (N:List (List UInt8)) (now:Int) (T:List RwP):Bool:=
 okV c m N (fun w=>holT (metR s u c w) now T) (fun w=>holT (namR s u c w) now T)

theorem cutT_len (x:Rt) (T:List RwP):(cutT x T).length≤T.length:=List.length_filter_le _ _

theorem putT_len (x:Rt) (age now:Int) (T:List RwP) (h:T.length≤32):(putT x age now T).length≤32:=by
 have hf:=cutT_len x T;unfold putT;split
 ·omega
 ·split
  ·rw [List.length_eraseIdx];split<;>simp only [List.length_append,List.length_cons,List.length_nil] at * <;>omega
  ·omega

theorem putsT_len (age now:Int): ∀ (X:List Rt) (T:List RwP),T.length≤32→(putsT age now X T).length≤32
 | [],_,h=>h
 | x::X,T,h=>putsT_len age now X _ (putT_len x age now T h)

theorem putsT_app (age now:Int) (X Y:List Rt) (T:List RwP):putsT age now (X++Y) T=putsT age now Y (putsT age now X T):=by unfold putsT;rw [List.foldl_append]

theorem putsT_none (now:Int): ∀ X:List Rt,putsT 0 now X []=[]
 | []=>rfl
 | x::X=>putsT_none now X

def Hol (E:Int) (n:Nat) (X:List Rt) (T:List RwP):Prop:=T.length≤n∧(∀ r ∈ T,r.til=E) ∧ ∀ x,(∃ r ∈ T,r.what=x) ↔ x ∈ X

theorem Hol.put {E age now:Int} {n:Nat} {X:List Rt} {T:List RwP} (h:Hol E n X T) (hE:now+age=E) (ha:age≠0) (hn:n<32) (x:Rt):Hol E (n+1) (X++[x]) (putT x age now T):=by
 obtain ⟨h1,h2,h3⟩:=h
 have hf:=cutT_len x T;unfold putT;rw [if_neg ha,if_neg (by simp only [List.length_append,List.length_cons,List.length_nil];omega)];refine ⟨by simp only [List.length_append,List.length_cons,List.length_nil];omega,?_,fun y=>⟨?_,?_⟩⟩
 ·intro r hr
  rcases List.mem_append.1 hr with hr | hr
  ·exact h2 r (List.mem_filter.1 hr).1
  ·rw [List.mem_singleton.1 hr];exact hE
 ·rintro ⟨r,hr,rfl⟩
  rcases List.mem_append.1 hr with hr | hr
  ·exact List.mem_append_left _ ((h3 _).1 ⟨r,(List.mem_filter.1 hr).1,rfl⟩)
  ·rw [List.mem_singleton.1 hr];simp
 ·intro hy
  by_cases hyx:y=x
  ·subst hyx
   exact ⟨_,List.mem_append_right _ (List.mem_singleton.2 rfl),rfl⟩
  ·rcases List.mem_append.1 hy with hy | hy
   ·obtain ⟨r,hr,rfl⟩:=(h3 _).2 hy
    exact ⟨r,List.mem_append_left _ (List.mem_filter.2 ⟨hr,by simpa using hyx⟩),rfl⟩
   ·exact absurd (List.mem_singleton.1 hy) hyx

theorem Hol.puts {E age now:Int} (hE:now+age=E) (ha:age≠0): ∀ (Y:List Rt) (n:Nat) (X:List Rt) (T:List RwP),Hol E n X T→n+Y.length≤32→Hol E (n+Y.length) (X++Y) (putsT age now Y T)
 | [],n,X,T,h,_=>by simpa [putsT] using h
 | y::Y,n,X,T,h,hl=>by
   simp only [List.length_cons] at hl;have h1:=Hol.puts hE ha Y (n+1) (X++[y]) (putT y age now T) (h.put hE ha (by omega) y) (by omega)
   rw [List.append_assoc] at h1;have e:n+1+Y.length=n+(y::Y).length:=by simp only [List.length_cons];omega
   rw [e] at h1;exact h1

theorem Hol.nil (E:Int):Hol E 0 [] []:=⟨Nat.le_refl _,by simp,fun x=>by simp⟩

theorem Hol.hol {E:Int} {n:Nat} {X:List Rt} {T:List RwP} (h:Hol E n X T) (x:Rt) (now:Int):holT x now T=(decide (x ∈ X)&&decide (now<E)):=by
 obtain ⟨_,h2,h3⟩:=h
 unfold holT;rw [Bool.eq_iff_iff];simp only [List.any_eq_true,Bool.and_eq_true,decide_eq_true_eq]
 constructor
 ·rintro ⟨r,hr,rfl,hn⟩
  exact ⟨(h3 _).1 ⟨r,hr,rfl⟩,by rw [← h2 r hr];exact hn⟩
 ·rintro ⟨hx,hn⟩
  obtain ⟨r,hr,rfl⟩:=(h3 x).2 hx
  exact ⟨r,hr,rfl,by rw [h2 r hr];exact hn⟩

theorem okV_none (c:Bool) (m:List UInt8) (N:List (List UInt8)):okV c m N (fun _=>false) (fun _=>false)=(simM m&&decide (N=[])):=by
 unfold okV
 cases N with
 | nil=>simp
 | cons a N=>
   have:oneN c (fun _=>false) a=false:=by unfold oneN;simp
   simp [this]

theorem okV_congr {c:Bool} {m:List UInt8} {N:List (List UInt8)} {a b a' b':List UInt8→Bool} (h1: ∀ x,a x=a' x) (h2: ∀ x,low x=x→b x=b' x):okV c m N a b=okV c m N a' b':=by
 have e: ∀ n,oneN c b n=oneN c b' n:=fun n=>by unfold oneN;rw [h2 _ (low_low18 n),h2 _ (by decide)]
 unfold okV;rw [h1,h1,show oneN c b=oneN c b' from funext e]

theorem mem_rts_m (s u:List UInt8) (c:Bool) (M N:List (List UInt8)) (all:Bool) (s' u':List UInt8) (c':Bool) (w:List UInt8):metR s' u' c' w ∈ rtsV s u c M N all ↔ s'=s∧u'=u∧c'=c∧w ∈ M:=by
 unfold rtsV metR namR;have key:(∃ a,a ∈ M∧s=s'∧u=u'∧c=c'∧a=w) ↔ s'=s∧u'=u∧c'=c∧w ∈ M:=by
  constructor
  ·rintro ⟨a,h,rfl,rfl,rfl,rfl⟩;exact ⟨rfl,rfl,rfl,h⟩
  ·rintro ⟨rfl,rfl,rfl,h⟩;exact ⟨w,h,rfl,rfl,rfl,rfl⟩
 cases all<;>simpa using key

theorem mem_rts_n (s u:List UInt8) (c:Bool) (M N:List (List UInt8)) (all:Bool) (hN: ∀ n ∈ N,low n=n) (ha:all=true→[42] ∈ N) (w:List UInt8):namR s u c w ∈ rtsV s u c M N all ↔ low w ∈ N:=by
 have key:(∃ a,a ∈ N∧low a=low w) ↔ low w ∈ N:=by
  constructor
  ·rintro ⟨a,h,e⟩
   rw [← e,hN a h];exact h
  ·intro h
   exact ⟨low w,h,low_low18 w⟩
 unfold rtsV metR namR
 cases all
 ·simp [key]
 ·simp [key]
  intro h;rw [h,show low [42]=[42] by decide]
  exact ha rfl

theorem grants_plain (c:Bool) (m:List UInt8) (Q M N:List (List UInt8)) (all:Bool) (age at':Int) (h0:0≤age) (hat:0≤at') (hl:M.length+N.length<32) (hN: ∀ n ∈ N,low n=n) (ha:all=true→[42] ∈ N) (hok:okV c m Q (fun w=>M.contains w) (fun w=>N.contains w)=true) (s u:List UInt8):
 alwT s u c m Q (50+at') (putsT age 50 (rtsV s u c M N all) [])=(decide (at'<age)||(simM m&&decide (Q=[]))):=by
 by_cases hz:age=0
 ·subst hz
  rw [putsT_none,decide_eq_false (by omega),Bool.false_or,← okV_none c]
  rfl
 ·have hlen:(rtsV s u c M N all).length≤32:=by
   unfold rtsV;simp only [List.length_append,List.length_map]
   split<;>simp only [List.length_cons,List.length_nil]<;>omega
  have H:=Hol.puts (E:=50+age) rfl hz (rtsV s u c M N all) 0 [] [] (Hol.nil _) (by omega)
  rw [List.nil_append] at H;unfold alwT;by_cases hlt:at'<age
  ·rw [decide_eq_true hlt,Bool.true_or,← hok]
   refine okV_congr (fun w=> ?_) (fun w hw=> ?_)
   ·show holT _ _ _=_
    rw [H.hol,decide_eq_true (by omega:50+at'<50+age),Bool.and_true,Bool.eq_iff_iff]
    simp only [decide_eq_true_eq,List.contains_iff_mem]
    rw [mem_rts_m];simp
   ·show holT _ _ _=_
    rw [H.hol,decide_eq_true (by omega:50+at'<50+age),Bool.and_true,Bool.eq_iff_iff]
    simp only [decide_eq_true_eq,List.contains_iff_mem]
    rw [mem_rts_n _ _ _ _ _ _ hN ha,hw]
  ·rw [decide_eq_false hlt,Bool.false_or,← okV_none c]
   have e: ∀ x:Rt,holT x (50+at') (putsT age 50 (rtsV s u c M N all) [])=false:=fun x=>by
    rw [H.hol,decide_eq_false (by omega: ¬ 50+at'<50+age),Bool.and_false]
   exact okV_congr (fun w=>e _) (fun w _=>e _)

theorem grants_other (c:Bool) (m:List UInt8) (Q M N:List (List UInt8)) (all:Bool) (age:Int) (h0:0≤age) (hl:M.length+N.length<32) (hs:simM m=false) (s u s' u':List UInt8) (c':Bool) (hne: ¬ (s'=s∧u'=u∧c'=c)):
 alwT s' u' c' m Q 50 (putsT age 50 (rtsV s u c M N all) [])=false:=by
 have e: ∀ w,holT (metR s' u' c' w) 50 (putsT age 50 (rtsV s u c M N all) [])=false:=fun w=>by
  by_cases hz:age=0
  ·subst hz
   rw [putsT_none];rfl
  ·have hlen:(rtsV s u c M N all).length≤32:=by
    unfold rtsV;simp only [List.length_append,List.length_map]
    split<;>simp only [List.length_cons,List.length_nil]<;>omega
   have H:=Hol.puts (E:=50+age) rfl hz (rtsV s u c M N all) 0 [] [] (Hol.nil _) (by omega)
   rw [List.nil_append] at H;rw [H.hol,decide_eq_false (fun h=>by
    rw [mem_rts_m] at h;exact hne ⟨h.1,h.2.1,h.2.2.1⟩),Bool.false_and]
 unfold alwT okV;dsimp only;rw [e,e,hs]
 simp

theorem rows_put (nm:Nat→List UInt8) (hnm: ∀ i j,i<60→j<60→nm i=nm j→i=j) (c:Bool) (s u:List UInt8) (i:Nat) (hi:i<60) (T:List RwP) (hT:T=((List.range i).drop (i - 32)).map fun j=>⟨metR s u c (nm j),100⟩):
 putT (metR s u c (nm i)) 100 0 T=((List.range (i+1)).drop (i+1 - 32)).map fun j=>⟨metR s u c (nm j),100⟩:=by
 have hf:cutT (metR s u c (nm i)) T=T:=by
  unfold cutT;rw [List.filter_eq_self];intro r hr;rw [hT] at hr;obtain ⟨j,hj,rfl⟩:=List.mem_map.1 hr
  have hji:j<i:=List.mem_range.1 (List.mem_of_mem_drop hj);simp only [Bool.not_eq_true',decide_eq_false_iff_not]
  intro e;have e2:nm j=nm i:=by unfold metR at e;injection e
  have:=hnm j i (by omega) hi e2
  omega
 unfold putT;rw [hf,if_neg (by decide),hT]
 have hl:(((List.range i).drop (i - 32)).map fun j=>(⟨metR s u c (nm j),100⟩:RwP)).length=i - (i - 32):=by simp
 by_cases h:32≤i
 ·rw [if_pos (by rw [List.length_append,hl];simp;omega)]
  rw [List.range_succ,List.drop_append,List.length_range,show i+1 - 32 - i=0 by omega,List.drop_zero,List.map_append,List.map_singleton]
  rw [show i+1 - 32=(i - 32)+1 by omega,show (List.range i).drop (i - 32+1)=((List.range i).drop (i - 32)).drop 1 by rw [List.drop_drop]];have hne:(List.range i).drop (i - 32)≠[]:=by
   intro e;have:=congrArg List.length e;simp at this;omega
  cases hd:(List.range i).drop (i - 32) with
  | nil=>exact absurd hd hne
  | cons a l=>simp
 ·rw [if_neg (by rw [List.length_append,hl];simp;omega),show i - 32=0 by omega,show i+1 - 32=0 by omega,List.drop_zero,List.drop_zero,List.range_succ,List.map_append]
  simp

def rowsV (nm:Nat→List UInt8) (c:Bool) (s u:List UInt8) (i:Nat):List RwP:=((List.range i).drop (i - 32)).map fun j=>⟨metR s u c (nm j),100⟩

theorem rowsV_len (nm:Nat→List UInt8) (c:Bool) (s u:List UInt8) (i:Nat):(rowsV nm c s u i).length=i - (i - 32):=by simp [rowsV]

theorem rowsV_lenT (nm:Nat→List UInt8) (c:Bool) (s u:List UInt8) (i:Nat) (now:Int) (hn:now<100):lenT now (rowsV nm c s u i)=i - (i - 32):=by
 unfold lenT;rw [List.filter_eq_self.2,rowsV_len]
 intro r hr;obtain ⟨j,hj,rfl⟩:=List.mem_map.1 hr
 exact decide_eq_true hn

theorem rowsV_alw (nm:Nat→List UInt8) (hnm: ∀ i j,i<60→j<60→nm i=nm j→i=j) (hst: ∀ i,i<60→simM (nm i)=false∧nm i≠[42]) (c:Bool) (s u:List UInt8) (n i:Nat) (hn:n≤60) (hi:i<n) (now:Int) (hnow:now<100):alwT s u c (nm i) [] now (rowsV nm c s u n)=decide (n≤i+32):=by
 have e: ∀ w,holT (metR s u c w) now (rowsV nm c s u n)=true ↔ ∃ j,n≤j+32∧j<n∧nm j=w:=fun w=>by
  unfold holT rowsV;simp only [List.any_eq_true,Bool.and_eq_true,decide_eq_true_eq,List.mem_map]
  constructor
  ·rintro ⟨r,⟨j,hj,rfl⟩,h1,h2⟩
   have hji:j<n:=List.mem_range.1 (List.mem_of_mem_drop hj);obtain ⟨k,hk,hkj⟩:=List.getElem_of_mem hj
   rw [List.getElem_drop,List.getElem_range] at hkj
   refine ⟨j,by omega,hji,?_⟩
   unfold metR at h1;injection h1
  ·rintro ⟨j,h1,h2,rfl⟩
   refine ⟨_,⟨j,?_,rfl⟩,rfl,hnow⟩
   have:((List.range n).drop (n - 32))[j - (n - 32)]? = some j:=by
    rw [List.getElem?_drop,List.getElem?_range (by omega)]
    congr 1
    omega
   exact List.mem_of_getElem? this
 have e2:holT (metR s u c [42]) now (rowsV nm c s u n)=false:=by
  cases h:holT (metR s u c [42]) now (rowsV nm c s u n) with
  | false=>rfl
  | true=>
    obtain ⟨j,_,h2,h3⟩:=(e _).1 h
    exact absurd h3 (hst j (by omega)).2
 unfold alwT okV;dsimp only;rw [e2,(hst i (by omega)).1]
 simp only [Bool.false_or,Bool.and_false,Bool.or_false,List.all_nil,Bool.and_true]
 rw [Bool.eq_iff_iff,e]
 simp only [decide_eq_true_eq];constructor
 ·rintro ⟨j,h1,h2,h3⟩
  have:=hnm j i (by omega) (by omega) h3
  omega
 ·intro h
  exact ⟨i,h,hi,rfl⟩

theorem rowsV_drop (nm:Nat→List UInt8) (c:Bool) (s u:List UInt8) (n:Nat):drpT s u (rowsV nm c s u n)=[]:=by
 unfold drpT;rw [List.filter_eq_nil_iff];intro r hr;obtain ⟨j,hj,rfl⟩:=List.mem_map.1 hr
 simp [metR]

end Go.Proofs.YtolioccofbhliaaGreatDoor
