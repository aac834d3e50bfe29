/-
  Walks and plain facts that this claim leans on, put together out of 8 texts: Bj, Cb, Cf, Yrg, Cg, Efa, Wb, Wr.
-/
import Derived.Test.YtpopljcmkbchcaaGreatDoorProg
import Derived.Test.YtpopljcmkbchcaaGreatDoorQt1
import Derived.Test.YtpopljcmkbchcaaGreatDoorQt2
import Derived.Test.YtpopljcmkbchcaaGreatDoorQt3
import Derived.Test.YtpopljcmkbchcaaGreatDoorQt4
import Derived.BigRegion
import Derived.Deep.RegionHeld
import Derived.Deep.RegionHeldLaw
import Derived.WalkKit
import Derived.Lib.Strings
import Derived.Lib.UnsafeStr
import Derived.Laws.IdiomStrings
import Derived.Laws.AppendOwn
import Derived.Laws.BitsAllLaws
import Derived.Lib.Bytealg
import Derived.Lib.BufferMore
import Derived.LoopN
import Derived.Shelf.Strings.Builder1
import Derived.Shelf.Strings.Builder2
import Derived.Shelf.Strings.OnBuilder
import Derived.Shelf.Strings.Trim
import Derived.Shelf.Small.Utf8
import Derived.Shelf.Small.Bits
import Derived.Shelf.Small.Strs
import Derived.Shelf.Small.Wraps
import Derived.Shelf.Strings.BuilderF
import Derived.Shelf.Strings.BuilderK
import Derived.Shelf.Strings.BuilderRune
import Derived.Shelf.Utf8.AppendRune
import Derived.Shelf.Utf8.AppendRunePlain
import Derived.Shelf.Strings.Builder2Cap
import Derived.Shelf.Strconv.Itoa0
import Derived.Shelf.Strconv.Itoa1
import Derived.Shelf.LaysM
import Derived.Shelf.Strconv.Itoa2
import Derived.Shelf.Strconv.Itoa3
import Derived.Shelf.Strings.Search1
import Derived.Shelf.Strings.Search2
import Derived.Shelf.Strings.Cut
import Derived.Shelf.Strings.Shaped
import Derived.Shelf.Sort.Plain
import Derived.Shelf.Strings.Prefix
import Derived.Shelf.Unicode.Latin
import Derived.Shelf.Strings.Runes
import Derived.Shelf.Strings.IndexAny
import Derived.Shelf.Strings.AsciiSet
import Derived.Shelf.Strings.IndexAnyAll
import Derived.Shelf.Unicode.DecodeSlow
import Derived.Shelf.Unicode.DecodeAny
import Derived.Shelf.Unicode.DecodeLast
import Derived.Shelf.Unicode.CaseLookup
import Derived.Shelf.Unicode.CaseConvert
import Derived.Shelf.Unicode.CaseTo
import Derived.Shelf.Unicode.CaseLaid
import Derived.Shelf.Slices.CompactS
import Derived.Shelf.Slices.In.SortNone
import Derived.WalkSpells
import Derived.WalkLawsBesides
import Derived.Lib.SlTrimSet
import Derived.Lib.Join
import Derived.Lib.IndexMore
import Derived.Laws.OwnMore
import Derived.Below
import Derived.WalkSmall
import Derived.Lib.SmallJoins
import Derived.Deep.QuietTactic
import Derived.BigQuiet
import Derived.Deep.LoopGhost
import Derived.Deep.MidRow
import Derived.Shelf.Strings.SlTrimAscii
import Derived.Deep.CutRange
import Derived.Laws.Rows
import Derived.Laws.CopyOwn
import Derived.Laws.MakeOwn
import Derived.Laws.RangeAny
import Derived.Lib.DecodeN
import Derived.Lib.OthersKept
import Derived.RegionTactic
import Derived.Deep.RegionWith
import Derived.Laws.Runes
import Derived.Deep.WholeRow
import Derived.Deep.RegionLaw
import Derived.Laws.AppendOwnNone
import Derived.Lib.IndexAny
import Derived.Lib.BufferRead
import Derived.Lib.RuneBytes
import Derived.Maps.OwnSet
import Derived.Maps.OwnOps
import Derived.Maps.AppendAt
import Derived.StringKeys
import Derived.Lib.FieldsP
import Derived.Laws.ResultCell
import Derived.Lib.LaidTab
import Derived.Lib.AppendIntMem
import Derived.Lib.FrozenHead2
import Derived.Lib.Builder
import Derived.Lib.AppendStr
import Derived.Lib.Replace
import Derived.Shelf.GgClosure.GivesRunes
import Derived.Laws.BitsAll
import Derived.Laws.Shifts
import Derived.Deep.DeepAppendRoom
import Derived.Laws.BytesString
import Derived.Laws.CopyRow
import Derived.Sort.OwnSorted
import Derived.Lib.SlicesCompact
set_option linter.unusedSimpArgs false
set_option linter.unusedVariables false

namespace Go.Proofs.YtpopljcmkbchcaaGreatDoor
open Go.RowKit

def SpI (s:List UInt8) (f i:Nat) (q:Bool):Prop:=f≤i∧i≤s.length∧cutQ false (s.drop f)=(cutQ q (s.drop i)).map (· + (i - f))

theorem SpI.start (s:List UInt8) (f:Nat) (h:f≤s.length):SpI s f f false:=⟨Nat.le_refl _,h,by simp⟩

theorem SpI.last {s:List UInt8} {f:Nat} {q:Bool} (h:SpI s f s.length q):pcs (s.drop f)=[s.drop f]:=by
 obtain ⟨_,_,h3⟩:=h
 rw [List.drop_length] at h3;refine pcs_none _ (h3.trans ?_)
 cases q<;>simp [cutQ]

theorem SpI.comma {s:List UInt8} {f i:Nat} (h:SpI s f i false) (hi:i<s.length) (hc:s[i]=44):pcs (s.drop f)=(s.drop f).take (i - f)::pcs (s.drop (i+1)):=by
 obtain ⟨h1,_,h3⟩:=h
 rw [List.drop_eq_getElem_cons hi,hc,cutQ_comma] at h3;rw [pcs_some _ (i - f) (by rw [h3];simp),List.drop_drop,show f+(i - f+1)=i+1 by omega]

theorem map_add {o:Option Nat} {a b c:Nat} (h:a+b=c):(o.map (· + a)).map (· + b)=o.map (· + c):=by rw [map_map_add,h]

theorem SpI.step {s:List UInt8} {f i d:Nat} {q r:Bool} (h:SpI s f i q) (hd:i+d≤s.length) (hc:cutQ q (s.drop i)=(cutQ r (s.drop (i+d))).map (· + d)):SpI s f (i+d) r:=by
 obtain ⟨h1,h2,h3⟩:=h
 refine ⟨by omega,hd,?_⟩
 rw [h3,hc]
 exact map_add (by omega)

theorem SpI.quote {s:List UInt8} {f i:Nat} {q:Bool} (h:SpI s f i q) (hi:i<s.length) (hc:s[i]=34):SpI s f (i+1) (!q):=by
 refine h.step (by omega) ?_
 rw [List.drop_eq_getElem_cons hi,hc]
 cases q
 ·exact cutQ_open _
 ·exact cutQ_close _

theorem SpI.other {s:List UInt8} {f i:Nat} {q:Bool} (h:SpI s f i q) (hi:i<s.length) (h1:s[i]≠34) (h2:q=false→s[i]≠44) (h3:q=true→s[i]≠92):SpI s f (i+1) q:=by
 refine h.step (by omega) ?_
 rw [List.drop_eq_getElem_cons hi]
 cases q
 ·exact cutQ_other _ _ (h2 rfl) h1
 ·exact cutQ_in _ _ h1 (h3 rfl)

end Go.Proofs.YtpopljcmkbchcaaGreatDoor

namespace Go.Proofs.YtpopljcmkbchcaaGreatDoor
open Go.RowKit

def quo:List UInt8→List UInt8×List UInt8
 | []=>([],[])
 | [c]=>if c=34 then ([],[]) else ([c],[])
 | c::d::r=>if c=34 then ([],d::r) else if c=92 then (d::(quo r).1,(quo r).2) else (c::(quo (d::r)).1,(quo (d::r)).2)

end Go.Proofs.YtpopljcmkbchcaaGreatDoor
namespace Go.Proofs.YtpopljcmkbchcaaGreatDoor

open Go.RowKit

theorem byte_all {p:UInt8→Bool} (h:(List.range 256).all (fun n=>p (UInt8.ofNat n))=true) (c:UInt8):p c=true:=by
 have:=List.all_eq_true.1 h c.toNat (List.mem_range.2 c.toNat_lt);simpa using this

end Go.Proofs.YtpopljcmkbchcaaGreatDoor
namespace Go.Proofs.YtpopljcmkbchcaaGreatDoor

open Go.RowKit

def But (b:Nat) (w w':World):Prop:=Below b w w' ∧ ∀ k,b<k→k<w.heap.size→w'.heap[k]? = w.heap[k]?

theorem But.refl (b:Nat) (w:World):But b w w:=⟨Below.refl _ _,fun _ _ _=>rfl⟩

theorem But.of {b:Nat} {w w':World} (h:Below w.heap.size w w') (hb:b≤w.heap.size):But b w w':=⟨h.mono hb,fun k _ hk=>h.block k hk⟩

theorem But.trans {b:Nat} {w w1 w2:World} (h:But b w w1) (h2:But b w1 w2):But b w w2:=
 ⟨h.1.trans h2.1,fun k hb hk=>(h2.2 k hb (by have:=h.1.size;omega)).trans (h.2 k hb hk)⟩

theorem But.then {b:Nat} {w w1 w2:World} (h:But b w w1) (h2:Below w1.heap.size w1 w2) (hb:b≤w1.heap.size):But b w w2:=h.trans (But.of h2 hb)

theorem But.size {b:Nat} {w w1:World} (h:But b w w1):w.heap.size≤w1.heap.size:=h.1.size

theorem But.block {b:Nat} {w w1:World} (h:But b w w1) (k:Nat) (hk:k<w.heap.size) (hne:k≠b):w1.heap[k]? = w.heap[k]? :=by
 rcases Nat.lt_or_gt_of_ne hne with h1 | h1
 ·exact h.1.block k h1
 ·exact h.2 k h1 hk

theorem But.below {b B:Nat} {v w w1:World} (h0:Below B v w) (h:But b w w1) (hB:B≤b):Below B v w1:=h0.trans (h.1.mono hB)

theorem But.own {b B n k:Nat} {e:TypeId} {v:Value} {xs:List Value} {w w1:World} (h:But b w w1) (ho:w.ownsRow B e k v n xs) (hne:v.ownBlock≠some b):w1.ownsRow B e k v n xs:=by
 rcases ho.2 with h' | ⟨g,cap,cur,hv,hg,hrow,rest⟩
 ·exact ⟨ho.1,.inl h'⟩
 ·refine ⟨ho.1,.inr ⟨g,cap,cur,hv,hg,(h.block g (Array.getElem?_eq_some_iff.1 hrow).1 ?_).trans hrow,rest⟩⟩
  rintro rfl;subst hv;exact hne rfl

end Go.Proofs.YtpopljcmkbchcaaGreatDoor
namespace Go.Proofs.YtpopljcmkbchcaaGreatDoor

open Go.RowKit

def IsRow_Cb (k:IntKind) (w:World) (a:Option Addr) (len cap:Nat) (zs:List Int):Prop:=
 (a=none∧len=0∧cap=0∧zs=[]) ∨
 ∃ x,a=some x∧len≤cap∧cap≤maxLen∧zs.length=cap∧(∀ i,i<zs.length→w.cell? (x.add i)=some (.int k (zs.getD i 0))) ∧ ∀ n ∈ zs,(Lit.int k n).wf=true

theorem IsRow_Cb.block {k:IntKind} {w:World} {a:Option Addr} {len cap:Nat} {zs:List Int} (h:IsRow_Cb k w a len cap zs) {y:Addr} (hy:a=some y) {j:Nat} (hj:j<zs.length):(y.add j).block<w.heap.size:=by
 rcases h with ⟨rfl,_⟩ | ⟨x,rfl,_,_,_,hcell,_⟩
 ·cases hy
 ·obtain rfl:=Option.some.inj hy
  exact World.block_lt_of_cell? w _ (hcell j hj)

end Go.Proofs.YtpopljcmkbchcaaGreatDoor
namespace Go.Proofs.YtpopljcmkbchcaaGreatDoor

open Go.RowKit

def SlB_Cb (w:World) (v:Value) (l:List UInt8):Prop:=
 (∃ c,v = .slice none 0 c∧l=[]) ∨ ∃ x cap,v = .slice (some x) l.length cap ∧ ∀ j (h:j<l.length),w.cell? (x.add j)=some (.int .u8 (l[j].toNat:Int))

theorem SlB_Cb.string {P:Program} {w:World} {v:Value} {l:List UInt8} {e src dst:TypeId} (h:SlB_Cb w v l) (hs:P.underlying src=some (.slice e)) (he:P.underlying e=some (.int .u8)) (hd:P.underlying dst=some .string):
 (convert src dst v).run P w = .ok (.string ⟨l.toArray⟩) w:=by
 rcases h with ⟨c,rfl,rfl⟩ | ⟨x,cap,rfl,hc⟩
 ·exact Lib.run_convert_nil_bytes w src dst e c hs he hd
 ·exact run_convert_bytes_back w src dst e x cap l hs he hd hc

theorem SlB_Cb.below {w w':World} {v:Value} {l:List UInt8} {B:Nat} (h:SlB_Cb w v l) (hb:Below B w w') (hB: ∀ x n c,v = .slice (some x) n c → ∀ j,j<l.length→(x.add j).block<B):SlB_Cb w' v l:=by
 rcases h with h | ⟨x,cap,rfl,hc⟩
 ·exact .inl h
 ·exact .inr ⟨x,cap,rfl,fun j hj=>(hb.cell (hB x _ _ rfl j hj)).trans (hc j hj)⟩

theorem SlB_Cb.kept {w w':World} {v:Value} {l:List UInt8} (h:SlB_Cb w v l) (hb:Below w.heap.size w w'):SlB_Cb w' v l:=by
 refine h.below hb ?_;rcases h with ⟨c,rfl,rfl⟩ | ⟨x,cap,rfl,hc⟩
 ·intro x n c' e j hj;simp at hj
 ·intro x' n c' e j hj
  obtain ⟨e1,_,_⟩:=Value.slice.inj e
  obtain rfl:=Option.some.inj e1;exact World.block_lt_of_cell? w _ (hc j hj)

theorem SlB_Cb.alloc {w:World} {v:Value} {l:List UInt8} (h:SlB_Cb w v l) (o:Obj):SlB_Cb (w.alloc o) v l:=h.kept ((Below.refl _ w).alloc (Nat.le_refl _) o)

theorem SlB_Cb.len {w:World} {v:Value} {l:List UInt8} (h:SlB_Cb w v l): ∃ a cap,v = .slice a l.length cap:=by
 rcases h with ⟨c,rfl,rfl⟩ | ⟨x,cap,rfl,hc⟩
 ·exact ⟨none,c,rfl⟩
 ·exact ⟨some x,cap,rfl⟩

theorem SlB_Cb.own {w:World} {B:Nat} {e:TypeId} {v:Value} {l:List UInt8} (h:w.ownsRow B e 1 v l.length (Lib.byteCells l)):SlB_Cb w v l:=by
 rcases h.2 with ⟨rfl,h0⟩ | ⟨g,cap,cur,rfl,_⟩
 ·exact .inl ⟨0,rfl,List.eq_nil_of_length_eq_zero h0⟩
 ·exact .inr ⟨_,cap,rfl,fun j hj=>h.cells (g:=g) rfl j _ (by simp [Lib.byteCells,hj])⟩

theorem SlB_Cb.take {w:World} {a:Option Addr} {len cap:Nat} {l:List UInt8} (h:SlB_Cb w (.slice a len cap) l) (n:Nat) (hn:n<l.length):SlB_Cb w (.slice a n cap) (l.take n):=by
 rcases h with ⟨c,e,rfl⟩ | ⟨x,c,e,hc⟩
 ·simp at hn
 ·obtain ⟨rfl,rfl,rfl⟩:=Value.slice.inj e
  refine .inr ⟨x,cap,by congr 1;simp;omega,fun j hj=> ?_⟩
  have hj':j<l.length:=by simp at hj;omega
  rw [hc j hj'];simp

theorem IsRow_Cb.bytes {w:World} {a:Option Addr} {len cap:Nat} {zs:List Int} (h:IsRow_Cb .u8 w a len cap zs): ∃ l:List UInt8,l.length=len∧SlB_Cb w (.slice a len cap) l∧len≤cap∧cap≤maxLen:=by
 rcases h with ⟨rfl,rfl,rfl,rfl⟩ | ⟨x,rfl,hlc,hcm,hz,hcell,hwf⟩
 ·exact ⟨[],rfl,.inl ⟨0,rfl,rfl⟩,Nat.le_refl _,by unfold maxLen;omega⟩
 ·refine ⟨(zs.take len).map fun n=>UInt8.ofNat n.toNat,by simp;omega,.inr ⟨x,cap,by congr 1;simp;omega,?_⟩,hlc,hcm⟩
  intro j hj;have hj':j<len∧j<zs.length:=by simp at hj;omega
  have hwfj:=hwf zs[j] (List.getElem_mem hj'.2);have hb:0≤zs[j]∧zs[j]≤255:=by simpa [Lit.wf,IntKind.min,IntKind.max,IntKind.bits,IntKind.signed] using hwfj
  rw [hcell j hj'.2];have e:zs.getD j 0=zs[j]:=by simp [List.getD,hj'.2]
  rw [e]
  congr 2
  simp;omega

end Go.Proofs.YtpopljcmkbchcaaGreatDoor
namespace Go.Proofs.YtpopljcmkbchcaaGreatDoor

open Go.RowKit

def QR (A B out l:List UInt8):Prop:=out++(quo l).1=A∧(quo l).2=B

theorem QR.start (l:List UInt8):QR (quo l).1 (quo l).2 [] l:=⟨rfl,rfl⟩

theorem QR.one {A B out:List UInt8} {c:UInt8} (h:QR A B out [c]) (hc:c≠34):QR A B (out++[c]) []:=by
 obtain ⟨h1,h2⟩:=h
 rw [quo,if_neg hc] at h1 h2
 exact ⟨by rw [← h1];simp [quo],h2⟩

theorem QR.nil {A B out:List UInt8} (h:QR A B out []):out=A∧B=[]:=by
 obtain ⟨h1,h2⟩:=h
 exact ⟨by simpa [quo] using h1,h2.symm⟩

theorem But.grown {b:Nat} {w w1 w2:World} {row:Option Nat} (h:But b w w1) (hg:w1.grownBy w2 row) (hr: ∀ k,row=some k→w.heap.size≤k) (hb:b<w.heap.size):But b w w2:=by
 have h1:=h.1.size;refine ⟨h.1.grown hg (by omega) (fun k hk=>by have:=hr k hk;omega),fun k hk1 hk2=> ?_⟩;rw [hg.block k (by omega) (fun e=>by have:=hr k e.symm;omega)];exact h.2 k hk1 hk2

theorem But.alloc {b:Nat} {w w1:World} (h:But b w w1) (o:Obj) (hb:b≤w1.heap.size):But b w (w1.alloc o):=h.then ((Below.refl _ w1).alloc (Nat.le_refl _) o) hb

end Go.Proofs.YtpopljcmkbchcaaGreatDoor
namespace Go.Proofs.YtpopljcmkbchcaaGreatDoor

open Go.RowKit

end Go.Proofs.YtpopljcmkbchcaaGreatDoor
namespace Go.Proofs.YtpopljcmkbchcaaGreatDoor

open Go.RowKit Go.Maps Go.WideMaps

theorem But.map {b B n:Nat} {D:DataW Unit} {w w1:World} (h:But b w w1) (ho:w.ownsMap Tryz.prog 9 unitElem B n D) (hne:B≠b):w1.ownsMap Tryz.prog 9 unitElem B n D:=by
 obtain ⟨es,clock,hb,rest⟩:=ho
 exact ⟨es,clock,(h.block B (Array.getElem?_eq_some_iff.1 hb).1 hne).trans hb,rest⟩

end Go.Proofs.YtpopljcmkbchcaaGreatDoor
namespace Go.Proofs.YtpopljcmkbchcaaGreatDoor

open Go.RowKit

end Go.Proofs.YtpopljcmkbchcaaGreatDoor
namespace Go.Proofs.YtpopljcmkbchcaaGreatDoor

open Go.RowKit

end Go.Proofs.YtpopljcmkbchcaaGreatDoor
namespace Go.Proofs.YtpopljcmkbchcaaGreatDoor

open Go.RowKit

def pcsV (L:List Hd) (n:List UInt8):List (List UInt8):=if getB L n then splitV L n else []

end Go.Proofs.YtpopljcmkbchcaaGreatDoor
namespace Go.Proofs.YtpopljcmkbchcaaGreatDoor

open Go.RowKit

end Go.Proofs.YtpopljcmkbchcaaGreatDoor
namespace Go.Proofs.YtpopljcmkbchcaaGreatDoor

open Go.RowKit

end Go.Proofs.YtpopljcmkbchcaaGreatDoor
namespace Go.Proofs.YtpopljcmkbchcaaGreatDoor

open Go.RowKit

end Go.Proofs.YtpopljcmkbchcaaGreatDoor
namespace Go.Proofs.YtpopljcmkbchcaaGreatDoor

open Go.RowKit

end Go.Proofs.YtpopljcmkbchcaaGreatDoor
namespace Go.Proofs.YtpopljcmkbchcaaGreatDoor

open Go.RowKit

end Go.Proofs.YtpopljcmkbchcaaGreatDoor
namespace Go.Proofs.YtpopljcmkbchcaaGreatDoor

open Go.RowKit

end Go.Proofs.YtpopljcmkbchcaaGreatDoor
namespace Go.Proofs.YtpopljcmkbchcaaGreatDoor

open Go.RowKit

end Go.Proofs.YtpopljcmkbchcaaGreatDoor
namespace Go.Proofs.YtpopljcmkbchcaaGreatDoor

open Go.RowKit

end Go.Proofs.YtpopljcmkbchcaaGreatDoor
namespace Go.Proofs.YtpopljcmkbchcaaGreatDoor

open Go.RowKit

end Go.Proofs.YtpopljcmkbchcaaGreatDoor
namespace Go.Proofs.YtpopljcmkbchcaaGreatDoor

open Go.RowKit

end Go.Proofs.YtpopljcmkbchcaaGreatDoor
namespace Go.Proofs.YtpopljcmkbchcaaGreatDoor

open Go.RowKit

end Go.Proofs.YtpopljcmkbchcaaGreatDoor
namespace Go.Proofs.YtpopljcmkbchcaaGreatDoor

open Go.RowKit

def pT (c:UInt8):Bool:=endT c.toNat

set_option maxRecDepth 100000 in
theorem pT_contains (c:UInt8):[(9:UInt8),32].contains c=pT c:=by
 have:=byte_all (p:=fun c=>[(9:UInt8),32].contains c==pT c) (by decide) c
 simpa using this

theorem trimB_strip (l:List UInt8):trimB l=((l.dropWhile pT).reverse.dropWhile pT).reverse:=by
 rw [trim_comm];unfold trimB Lib.trimS Lib.trimLeftS Lib.trimRightS;have:(fun c=>[(9:UInt8),32].contains c)=pT:=funext pT_contains;rw [this]

end Go.Proofs.YtpopljcmkbchcaaGreatDoor
namespace Go.Proofs.YtpopljcmkbchcaaGreatDoor

open Go.RowKit

end Go.Proofs.YtpopljcmkbchcaaGreatDoor
namespace Go.Proofs.YtpopljcmkbchcaaGreatDoor

open Go.RowKit

end Go.Proofs.YtpopljcmkbchcaaGreatDoor
namespace Go.Proofs.YtpopljcmkbchcaaGreatDoor

open Go.RowKit

end Go.Proofs.YtpopljcmkbchcaaGreatDoor
namespace Go.Proofs.YtpopljcmkbchcaaGreatDoor

open Go.RowKit

end Go.Proofs.YtpopljcmkbchcaaGreatDoor
namespace Go.Proofs.YtpopljcmkbchcaaGreatDoor

open Go.RowKit

end Go.Proofs.YtpopljcmkbchcaaGreatDoor
namespace Go.Proofs.YtpopljcmkbchcaaGreatDoor

open Go.RowKit

end Go.Proofs.YtpopljcmkbchcaaGreatDoor
namespace Go.Proofs.YtpopljcmkbchcaaGreatDoor

open Go.RowKit

structure Three_Cb where
 (a b c:Nat)

structure Kd_Cb where
 W:Nat
 R:Nat
 s0:Three_Cb
 s1:Three_Cb
 g0:Three_Cb
 g1:Three_Cb

def Kd_Cb.B (k:Kd_Cb):Nat:=k.W / 8

def Kd_Cb.size (k:Kd_Cb):Nat:=16*k.B

end Go.Proofs.YtpopljcmkbchcaaGreatDoor
namespace Go.Proofs.YtpopljcmkbchcaaGreatDoor

open Go.RowKit

theorem index_one_none_Cb (l:List UInt8) (c:UInt8) (h:c ∉ l):Lib.index l [c] = -1:=by
 induction l with
 | nil=>rfl
 | cons a l ih=>
   have ha:a≠c:=fun e=>h (by simp [e])
   have hl:c ∉ l:=fun e=>h (by simp [e])
   unfold Lib.index;rw [ih hl];have:[c].isPrefixOf (a::l)=false:=by simp [List.isPrefixOf];exact fun e=>ha e.symm
   rw [this];rfl

theorem index_one_some_Cb (a r:List UInt8) (c:UInt8) (h:c ∉ a):Lib.index (a++c::r) [c]=a.length:=by
 induction a with
 | nil=>unfold Lib.index;simp [List.isPrefixOf]
 | cons x a ih=>
   have hx:x≠c:=fun e=>h (by simp [e])
   have ha:c ∉ a:=fun e=>h (by simp [e])
   rw [List.cons_append];unfold Lib.index;rw [ih ha];have:[c].isPrefixOf (x::(a++c::r))=false:=by simp [List.isPrefixOf];exact fun e=>hx e.symm
   rw [this];have h1:((a.length:Int) == -1)=false:=by rw [beq_eq_false_iff_ne];omega
   simp [h1]

theorem cut_none_Cb (l:List UInt8) (c:UInt8) (h:c ∉ l):Lib.cut l [c]=(l,[],false):=by
 unfold Lib.cut;rw [index_one_none_Cb l c h];rfl

theorem cut_some_Cb (a r:List UInt8) (c:UInt8) (h:c ∉ a):Lib.cut (a++c::r) [c]=(a,r,true):=by
 unfold Lib.cut;rw [index_one_some_Cb a r c h];simp

theorem first_split_Cb (c:UInt8): ∀ l:List UInt8,c ∉ l ∨ ∃ a r,c ∉ a∧l=a++c::r
 | []=> .inl (by simp)
 | x::l=>by
   by_cases hx:x=c
   ·exact .inr ⟨[],l,by simp,by simp [hx]⟩
   ·rcases first_split_Cb c l with h | ⟨a,r,ha,rfl⟩
    ·exact .inl (by simp [h];exact fun e=>hx e.symm)
    ·exact .inr ⟨x::a,r,by simp [ha];exact fun e=>hx e.symm,rfl⟩

def part_Cb (c:UInt8):List UInt8→List UInt8×List UInt8×Bool
 | []=>([],[],false)
 | x::l=>if x=c then ([],l,true) else (x::(part_Cb c l).1,(part_Cb c l).2.1,(part_Cb c l).2.2)

theorem part_none_Cb (c:UInt8): ∀ l:List UInt8,c ∉ l→part_Cb c l=(l,[],false)
 | [],_=>rfl
 | x::l,h=>by
   have hx:x≠c:=fun e=>h (by simp [e])
   have hl:c ∉ l:=fun e=>h (by simp [e])
   rw [part_Cb,if_neg hx,part_none_Cb c l hl]

theorem part_some_Cb (c:UInt8): ∀ (a r:List UInt8),c ∉ a→part_Cb c (a++c::r)=(a,r,true)
 | [],r,_=>by rw [List.nil_append,part_Cb,if_pos rfl]
 | x::a,r,h=>by
   have hx:x≠c:=fun e=>h (by simp [e])
   have hl:c ∉ a:=fun e=>h (by simp [e])
   rw [List.cons_append,part_Cb,if_neg hx,part_some_Cb c a r hl]

theorem cut_part_Cb (c:UInt8) (l:List UInt8):Lib.cut l [c]=part_Cb c l:=by
 rcases first_split_Cb c l with h | ⟨a,r,h,rfl⟩
 ·rw [cut_none_Cb l c h,part_none_Cb c l h]
 ·rw [cut_some_Cb a r c h,part_some_Cb c a r h]

structure It where
 bits:Int
 want:List UInt8
 opt:List UInt8

end Go.Proofs.YtpopljcmkbchcaaGreatDoor
namespace Go.Proofs.YtpopljcmkbchcaaGreatDoor

open Go.RowKit

theorem row_kept_Cb {w w':World} {g:Nat} {o:Obj} (h:w.heap[g]? = some o) (hb:Below w.heap.size w w'):w'.heap[g]? = some o:=by
 have hlt:g<w.heap.size:=by
  rcases Nat.lt_or_ge g w.heap.size with h' | h'
  ·exact h'
  ·rw [Array.getElem?_eq_none h'] at h;cases h
 rw [hb.block g hlt];exact h

theorem there_row_Cb {w:World} {g n:Nat} {cs:Array Value} {t:TypeId} (h:w.heap[g]? = some (.cells cs t (0,0))) (hn:n≤cs.size):w.there g 0 n:=by
 intro j hj;constructor
 ·rw [cell_of_row w g _ cs t _ h];simp;omega
 ·simp [World.frozen?,h]

theorem range_row_Cb {w:World} {g:Nat} {cs:List Value} {t:TypeId} {f:Nat×Nat} (h:w.heap[g]? = some (.cells cs.toArray t f)):w.rangeAt g 0 cs:=by
 intro j v hv;rw [Nat.zero_add,cell_of_row w g j _ t _ h]
 simpa using hv

theorem kept_cell_Cb {w w':World} {a:Addr} {v:Value} (h:w.cell? a=some v) (hb:Below w.heap.size w w'):w'.cell? a=some v:=(hb.cell (World.block_lt_of_cell? w _ h)).trans h

end Go.Proofs.YtpopljcmkbchcaaGreatDoor
namespace Go.Proofs.YtpopljcmkbchcaaGreatDoor

open Go.RowKit

def ItAt (w:World) (v:Value) (L:List It):Prop:=
 ∃ a cap,v = .slice a L.length cap∧L.length≤cap∧cap≤maxLen ∧ ∀ j (hj:j<L.length),∃ b off,a=some ⟨b,off,none⟩∧w.cell? ⟨b,off+j*3,none⟩=some (.int .i64 L[j].bits)∧w.cell? ⟨b,off+j*3+1,none⟩=some (.string ⟨L[j].want.toArray⟩)∧w.cell? ⟨b,off+j*3+2,none⟩=some (.string ⟨L[j].opt.toArray⟩)

theorem ItAt.view {w:World} {v:Value} {L:List It} (h:ItAt w v L): ∃ a cap,v = .slice a L.length cap∧L.length≤cap∧cap≤maxLen ∧ ∀ j (hj:j<L.length),∃ b off,a=some ⟨b,off,none⟩∧w.cell? ⟨b,off+j*3,none⟩=some (.int .i64 L[j].bits)∧w.cell? ⟨b,off+j*3+1,none⟩=some (.string ⟨L[j].want.toArray⟩)∧w.cell? ⟨b,off+j*3+2,none⟩=some (.string ⟨L[j].opt.toArray⟩):=h

theorem ItAt.kept {w w':World} {v:Value} {L:List It} (h:ItAt w v L) (hb:Below w.heap.size w w'):ItAt w' v L:=by
 obtain ⟨a,cap,h1,h2,h3,h4⟩:=h
 refine ⟨a,cap,h1,h2,h3,fun j hj=> ?_⟩
 obtain ⟨b,off,e,c1,c2,c3⟩:=h4 j hj
 exact ⟨b,off,e,kept_cell_Cb c1 hb,kept_cell_Cb c2 hb,kept_cell_Cb c3 hb⟩

def Gm (w:World):Prop:= ∃ m,w.cell? ⟨2,0,none⟩=some (.int .i64 m)

theorem Gm.kept {w w':World} (h:Gm w) (hb:Below w.heap.size w w'):Gm w':=by
 obtain ⟨m,hm⟩:=h
 exact ⟨m,kept_cell_Cb hm hb⟩

end Go.Proofs.YtpopljcmkbchcaaGreatDoor
namespace Go.Proofs.YtpopljcmkbchcaaGreatDoor

open Go.RowKit

def cW_Cb (K:IntKind) (l:List Nat):List Value:=l.map fun (n:Nat)=> .int K (n:Int)

theorem cW_len_Cb (K:IntKind) (l:List Nat):(cW_Cb K l).length=l.length:=by simp [cW_Cb]

def Rw_Cb (w:World) (g:Nat) (K:IntKind) (t:TypeId) (l:List Nat):Prop:=w.heap[g]? = some (.cells (cW_Cb K l).toArray t (0,0))

theorem Rw_Cb.lt {w:World} {g:Nat} {K:IntKind} {t:TypeId} {l:List Nat} (h:Rw_Cb w g K t l):g<w.heap.size:=(Array.getElem?_eq_some_iff.1 h).1

theorem Rw_Cb.kept {w w':World} {g:Nat} {K:IntKind} {t:TypeId} {l:List Nat} (h:Rw_Cb w g K t l) (hb:Below w.heap.size w w'):Rw_Cb w' g K t l:=row_kept_Cb h hb

theorem Rw_Cb.drew {w:World} {g:Nat} {K:IntKind} {t:TypeId} {l:List Nat} (h:Rw_Cb w g K t l):Rw_Cb w.drew g K t l:=h

theorem Rw_Cb.cell {w:World} {g:Nat} {K:IntKind} {t:TypeId} {l:List Nat} (h:Rw_Cb w g K t l) (i:Nat) (hi:i<l.length):w.cell? ⟨g,i,none⟩=some (.int K (l.getD i 0:Nat)):=by
 rw [cell_of_row w g i _ t _ h];simp [cW_Cb,hi]

theorem Rw_Cb.new (w:World) (K:IntKind) (t:TypeId) (l:List Nat):Rw_Cb (w.alloc (.cells (cW_Cb K l).toArray t)) w.heap.size K t l:=heap_alloc_new w _

theorem Rw_Cb.there {w:World} {g:Nat} {K:IntKind} {t:TypeId} {l:List Nat} (h:Rw_Cb w g K t l) (n:Nat) (hn:n=l.length):w.there g 0 n:=there_row_Cb h (by simp [cW_len_Cb,hn])

theorem Rw_Cb.range {w:World} {g:Nat} {K:IntKind} {t:TypeId} {l:List Nat} (h:Rw_Cb w g K t l):w.rangeAt g 0 (cW_Cb K l):=range_row_Cb h

def But1_Cb (wr:World) (a:Addr) (u:Value) (X:World):Prop:=Below wr.heap.size (wr.setCell a u) (X.setCell a u)

theorem But1_Cb.start (wr:World) (a:Addr) (u:Value):But1_Cb wr a u wr.drew:=⟨rfl,rfl,rfl,Nat.le_refl _,fun k hk=>rfl⟩

theorem size_setCell_Cb (w:World) (a:Addr) (u:Value):(w.setCell a u).heap.size=w.heap.size:=by simp [World.setCell]

theorem But1_Cb.size {wr X:World} {a:Addr} {u:Value} (h:But1_Cb wr a u X):wr.heap.size≤X.heap.size:=by
 have:=Below.size h
 rwa [size_setCell_Cb,size_setCell_Cb] at this

theorem But1_Cb.cell {wr X:World} {a:Addr} {u v:Value} (h:But1_Cb wr a u X) {p:Addr} (hp:wr.cell? p=some v) (hne:a≠p):X.cell? p=some v:=by
 have h1:=Below.cell h (p:=p) (World.block_lt_of_cell? wr p hp);rw [World.cell?_setCell_other _ _ _ _ hne,World.cell?_setCell_other _ _ _ _ hne] at h1;rw [h1];exact hp

end Go.Proofs.YtpopljcmkbchcaaGreatDoor
namespace Go.Proofs.YtpopljcmkbchcaaGreatDoor

open Go.RowKit

end Go.Proofs.YtpopljcmkbchcaaGreatDoor
namespace Go.Proofs.YtpopljcmkbchcaaGreatDoor

open Go.RowKit

theorem SlB_Cb.at {w:World} {a:Option Addr} {n c:Nat} {l:List UInt8} (h:SlB_Cb w (.slice a n c) l) (k:Nat) (hk:k<l.length): ∃ x,a=some x∧w.cell? (x.add k)=some (.int .u8 (l[k].toNat:Int)):=by
 rcases h with ⟨c,e,rfl⟩ | ⟨x,c,e,hc⟩
 ·simp at hk
 ·obtain ⟨rfl,_,_⟩:=Value.slice.inj e
  exact ⟨x,rfl,hc k hk⟩

end Go.Proofs.YtpopljcmkbchcaaGreatDoor
namespace Go.Proofs.YtpopljcmkbchcaaGreatDoor

open Go.RowKit

end Go.Proofs.YtpopljcmkbchcaaGreatDoor
namespace Go.Proofs.YtpopljcmkbchcaaGreatDoor

open Go.RowKit

def RtAt (w:World) (v:Value) (L:List It):Prop:=
 ∃ a cap,v = .slice a L.length cap∧L.length≤cap∧cap≤maxLen ∧ ∀ j (hj:j<L.length),∃ b off,a=some ⟨b,off,none⟩∧w.cell? ⟨b,off+j*3,none⟩=some (.int .i64 L[j].bits)∧w.cell? ⟨b,off+j*3+1,none⟩=some (.string ⟨L[j].want.toArray⟩)∧w.cell? ⟨b,off+j*3+2,none⟩=some (.string ⟨L[j].opt.toArray⟩)

theorem RtAt.view {w:World} {v:Value} {L:List It} (h:RtAt w v L): ∃ a cap,v = .slice a L.length cap∧L.length≤cap∧cap≤maxLen ∧ ∀ j (hj:j<L.length),∃ b off,a=some ⟨b,off,none⟩∧w.cell? ⟨b,off+j*3,none⟩=some (.int .i64 L[j].bits)∧w.cell? ⟨b,off+j*3+1,none⟩=some (.string ⟨L[j].want.toArray⟩)∧w.cell? ⟨b,off+j*3+2,none⟩=some (.string ⟨L[j].opt.toArray⟩):=h

end Go.Proofs.YtpopljcmkbchcaaGreatDoor
namespace Go.Proofs.YtpopljcmkbchcaaGreatDoor

open Go.RowKit

def Gp (w : World) : Prop := Lib.TabIs Tryz.prog w "internal/strconv.uint64pow10" .u64 Lib.pow10Tab

theorem gPow9 : Tryz.prog.globalNamed "internal/strconv.uint64pow10" = some 0 := by kernel_rfl

theorem Gp.kept {w w':World} (h:Gp w) (hb:Below w.heap.size w w'):Gp w':=Joins.tab_stays gPow9 h hb (Nat.le_refl _)

end Go.Proofs.YtpopljcmkbchcaaGreatDoor
namespace Go.Proofs.YtpopljcmkbchcaaGreatDoor

open Go.RowKit

end Go.Proofs.YtpopljcmkbchcaaGreatDoor

namespace Go.Proofs.YtpopljcmkbchcaaGreatDoor
open Go.RowKit

def insN (x:List UInt8):List (List UInt8)→List (List UInt8)
 | []=>[x]
 | y::t=>if ltN y x=true then y::insN x t else if y=x then y::t else x::y::t

theorem insN_mem (x n:List UInt8): ∀ O:List (List UInt8),n ∈ insN x O ↔ n=x∨n ∈ O
 | []=>by simp [insN]
 | y::t=>by
   have ih:=insN_mem x n t;unfold insN;split
   ·simp only [List.mem_cons,ih]
    constructor
    ·rintro (h | h | h)
     ·exact .inr (.inl h)
     ·exact .inl h
     ·exact .inr (.inr h)
    ·rintro (h | h | h)
     ·exact .inr (.inl h)
     ·exact .inl h
     ·exact .inr (.inr h)
   ·split
    ·rename_i h
     subst h;simp only [List.mem_cons];constructor
     ·exact .inr
     ·rintro (h | h)
      ·exact .inl h
      ·exact h
    ·simp only [List.mem_cons]

theorem insN_pw (x:List UInt8): ∀ O:List (List UInt8),O.Pairwise (fun a b=>ltN a b=true)→(insN x O).Pairwise (fun a b=>ltN a b=true)
 | [],_=>by simp [insN]
 | y::t,h=>by
   have h2:=List.pairwise_cons.1 h;have ih:=insN_pw x t h2.2;unfold insN;split
   ·rename_i hlt
    refine List.pairwise_cons.2 ⟨fun z hz=> ?_,ih⟩;rcases (insN_mem x z t).1 hz with rfl | hz
    ·exact hlt
    ·exact h2.1 z hz
   ·rename_i hnl
    split
    ·exact h
    ·rename_i hne
     have hxy:ltN x y=true:=by
      rcases ltN_total x y with h3 | h3 | h3
      ·exact h3
      ·exact absurd h3.symm hne
      ·exact absurd h3 hnl
     refine List.pairwise_cons.2 ⟨fun z hz=> ?_,h⟩;rcases List.mem_cons.1 hz with rfl | hz
     ·exact hxy
     ·exact ltN_trans hxy (h2.1 z hz)

def srtN (L:List (List UInt8)):List (List UInt8):=L.foldl (fun O x=>insN x O) []

theorem srtN_facts (L:List (List UInt8)):(srtN L).Pairwise (fun a b=>ltN a b=true)∧(∀ n,n ∈ srtN L ↔ n ∈ L)∧(srtN L).length≤L.length:=by
 suffices H: ∀ (L O:List (List UInt8)),O.Pairwise (fun a b=>ltN a b=true)→(L.foldl (fun O x=>insN x O) O).Pairwise (fun a b=>ltN a b=true)∧(∀ n,n ∈ L.foldl (fun O x=>insN x O) O ↔ n ∈ L∨n ∈ O)∧(L.foldl (fun O x=>insN x O) O).length≤L.length+O.length by
  obtain ⟨h1,h2,h3⟩:=H L [] List.Pairwise.nil
  exact ⟨h1,fun n=>by rw [srtN,h2 n];simp,h3⟩
 have hlen: ∀ (x:List UInt8) (O:List (List UInt8)),(insN x O).length≤O.length+1:=by
  intro x O
  induction O with
  | nil=>simp [insN]
  | cons y t ih=>
    unfold insN;split
    ·simp;omega
    ·split
     ·simp
     ·simp
 intro L
 induction L with
 | nil=>intro O h;exact ⟨h,fun n=>by simp,by simp⟩
 | cons x L ih=>
   intro O h;obtain ⟨h1,h2,h3⟩:=ih (insN x O) (insN_pw x O h)
   refine ⟨h1,fun n=> ?_,?_⟩
   ·rw [List.foldl_cons,h2 n,insN_mem]
    simp only [List.mem_cons];constructor
    ·rintro (h | h | h)
     ·exact .inl (.inr h)
     ·exact .inl (.inl h)
     ·exact .inr h
    ·rintro ((h | h) | h)
     ·exact .inr (.inl h)
     ·exact .inl h
     ·exact .inr (.inr h)
   ·rw [List.foldl_cons]
    have:=hlen x O;simp;omega

end Go.Proofs.YtpopljcmkbchcaaGreatDoor

namespace Go.Proofs.YtpopljcmkbchcaaGreatDoor
open Go.RowKit

theorem wpAnyH_to {P:Program} {md:Region.Mode} {ops:Array Oper} {Q:Exit→Act→World→Prop} {S:World→Prop} {fuel fuel':Nat} {listed listed':Array Bool} {a:Act} {w:World} (hf:fuel=fuel') (hl:listed=listed') (h:wpAnyH P md ops Q S fuel' listed' a w):wpAnyH P md ops Q S fuel listed a w:=by
 subst hf;subst hl;exact h

end Go.Proofs.YtpopljcmkbchcaaGreatDoor

namespace Go.Proofs.YtpopljcmkbchcaaGreatDoor
open Go.RowKit

theorem less_ltN6: ∀ a b:List UInt8,Op.bytesLess a b=ltN a b
 | [],[]=>rfl
 | [],_::_=>rfl
 | _::_,[]=>rfl
 | x::a,y::b=>by
   have ih:=less_ltN6 a b;unfold ltN at ih ⊢;rw [Op.bytesLess,cmp_cons,ih]
   by_cases h1:x<y
   ·simp [h1]
   ·by_cases h2:y<x
    ·have:x≠y:=fun e=>by subst e;exact h1 h2
     simp [h1,h2,this]
    ·have:x=y:=by
      rw [UInt8.lt_iff_toNat_lt] at h1 h2;exact UInt8.toNat_inj.1 (by omega)
     simp [h1,h2,this]

def SoI (w:World) (vv:Value) (O:List (List UInt8)) (wr:World):Prop:=wr.ownsRow w.heap.size 9 1 vv O.length (cellsT O)∧Below w.heap.size w wr

theorem SoI.drewN {w wr:World} {vv:Value} {O:List (List UInt8)} (h:SoI w vv O wr) (n:Nat):SoI w vv O (wr.drewN n):=⟨h.1,Go.below_drewN h.2 n⟩

end Go.Proofs.YtpopljcmkbchcaaGreatDoor

namespace Go.Proofs.YtpopljcmkbchcaaGreatDoor
open Go.RowKit

structure Ctl where
 ns:Bool
 nc:Bool
 mx:Int
deriving DecidableEq

def nCC:List UInt8:=[99,97,99,104,101,45,99,111,110,116,114,111,108]

def nAg:List UInt8:=[97,103,101]

def nVy:List UInt8:=[118,97,114,121]

def tNS:List UInt8:=[110,111,45,115,116,111,114,101]

def tNC:List UInt8:=[110,111,45,99,97,99,104,101]

def tMA:List UInt8:=[109,97,120,45,97,103,101]

def unqV (s:List UInt8):List UInt8:=if Lib.hasPrefix s [34]&&Lib.hasSuffix (Lib.trimPrefix s [34]) [34] then Lib.trimSuffix (Lib.trimPrefix s [34]) [34] else s

theorem unq_le (s:List UInt8):(unqV s).length≤s.length:=by
 unfold unqV;split
 ·unfold Lib.trimSuffix Lib.trimPrefix
  split<;>split<;>simp<;>omega
 ·exact Nat.le_refl _

def apN (p:List UInt8):List UInt8:=low (strip (part_Cb 61 p).1)

def apV (p:List UInt8):List UInt8:=unqV (strip (part_Cb 61 p).2.1)

def ctlS (c:Ctl) (p:List UInt8):Ctl:=
 if apN p=tNS then ⟨true,c.nc,c.mx⟩ else if apN p=tNC then ⟨c.ns,true,c.mx⟩ else if apN p=tMA then ⟨c.ns,c.nc,if intOk (apV p)&&decide (c.mx = -1) then intV (apV p) else c.mx⟩ else c

def ctl0:Ctl:=⟨false,false,-1⟩

def ctlP (P:List (List UInt8)):Ctl:=P.foldl ctlS ctl0

def ctlV (L:List Hd):Ctl:=ctlP (pcsV L nCC)

theorem ctlP_snoc (P:List (List UInt8)) (p:List UInt8):ctlP (P++[p])=ctlS (ctlP P) p:=by simp [ctlP]

theorem ctlP_take (P:List (List UInt8)) (k:Nat) (h:k<P.length):ctlP (P.take (k+1))=ctlS (ctlP (P.take k)) P[k]:=by
 rw [List.take_add_one,List.getElem?_eq_getElem h,← ctlP_snoc]
 rfl

theorem intV_range_Efa (l:List UInt8):0≤intV l∧intV l≤9223372036854775807:=by
 unfold intV;split
 ·rename_i h
  rw [Bool.and_eq_true] at h;exact numI_range l h.1
 ·omega

theorem ctlS_mx {c:Ctl} {p:List UInt8} (h: -1≤c.mx∧c.mx≤9223372036854775807): -1≤(ctlS c p).mx∧(ctlS c p).mx≤9223372036854775807:=by
 have:=intV_range_Efa (apV p);unfold ctlS;split
 ·exact h
 ·split
  ·exact h
  ·split
   ·simp only;split<;>omega
   ·exact h

theorem ctlP_mx (P:List (List UInt8)): -1≤(ctlP P).mx∧(ctlP P).mx≤9223372036854775807:=by
 suffices H: ∀ (P:List (List UInt8)) (c:Ctl),(-1≤c.mx∧c.mx≤9223372036854775807) → -1≤(P.foldl ctlS c).mx∧(P.foldl ctlS c).mx≤9223372036854775807 from H P ctl0 (by decide)
 intro P
 induction P with
 | nil=>intro c h;exact h
 | cons p P ih=>intro c h;exact ih _ (ctlS_mx h)

def addV_Efa (a b:Int):Int:=if 9223372036854775807<a+b then 9223372036854775807 else if a+b<0 then 0 else a+b

def sinV (s n:Int):Int:=if n≤s then 0 else if 9223372036854775807<n - s then 9223372036854775807 else n - s

def ageV (L:List Hd) (s n:Int):Int:=addV_Efa (intV (strip (getT L nAg))) (sinV s n)

def freV (L:List Hd) (s n:Int):Bool:= !(ctlV L).nc&&decide (ageV L s n<(ctlV L).mx)

theorem addV_range (a b:Int):0≤addV_Efa a b∧addV_Efa a b≤9223372036854775807:=by unfold addV_Efa;split<;>(try split)<;>omega

theorem sinV_range (s n:Int):0≤sinV s n∧sinV s n≤9223372036854775807:=by unfold sinV;split<;>(try split)<;>omega

theorem ageV_range (L:List Hd) (s n:Int):0≤ageV L s n∧ageV L s n≤9223372036854775807:=addV_range _ _

def vrS (P:List (List UInt8)):List (List UInt8):=(P.filter (fun p=> !p.isEmpty)).map low

def vrOk (P:List (List UInt8)):Bool:= !P.contains [42]

theorem vrS_snoc (P:List (List UInt8)) (p:List UInt8):vrS (P++[p])=if p=[] then vrS P else vrS P++[low p]:=by
 unfold vrS;rw [List.filter_append,List.map_append]
 cases p with
 | nil=>simp
 | cons a b=>simp

theorem vrS_take (P:List (List UInt8)) (k:Nat) (h:k<P.length):vrS (P.take (k+1))=if P[k]=[] then vrS (P.take k) else vrS (P.take k)++[low P[k]]:=by
 rw [List.take_add_one,List.getElem?_eq_getElem h,← vrS_snoc]
 rfl

theorem vrS_len (P:List (List UInt8)):(vrS P).length≤P.length:=by
 unfold vrS;rw [List.length_map];exact List.length_filter_le _ _

theorem low_len16 (l:List UInt8):(low l).length=l.length:=by simp [low]

theorem vrS_szd (P:List (List UInt8)) (m:Nat) (h: ∀ p ∈ P,p.length≤m): ∀ x ∈ vrS P,x.length≤m:=by
 intro x hx;unfold vrS at hx;obtain ⟨p,hp,rfl⟩:=List.mem_map.1 hx
 rw [low_len16];exact h p (List.mem_filter.1 hp).1

theorem vrOk_stop (P:List (List UInt8)) (k:Nat) (h:k<P.length) (he:P[k]=[42]):vrOk P=false:=by
 unfold vrOk;have:[42] ∈ P:=by rw [← he];exact List.getElem_mem h
 simp [this]

theorem vrOk_all (P:List (List UInt8)) (h: ∀ j (hj:j<P.length),P[j]≠[42]):vrOk P=true:=by
 unfold vrOk;have: ¬ [42] ∈ P:=fun hm=>by
  obtain ⟨j,hj,e⟩:=List.getElem_of_mem hm
  exact h j hj e
 simp [this]

def srt16 (X:List (List UInt8)):List (List UInt8):=X.mergeSort fun x y=>decide (x≤y)

theorem srt16_len (X:List (List UInt8)):(srt16 X).length=X.length:=by unfold srt16;exact List.length_mergeSort ..

theorem srt16_mem (X:List (List UInt8)) (t:List UInt8):t ∈ srt16 X ↔ t ∈ X:=by unfold srt16;exact List.mem_mergeSort

theorem srt16_pair (X:List (List UInt8)):(srt16 X).Pairwise (fun a b=>a≤b):=by
 have h:=List.pairwise_mergeSort (le:=fun x y:List UInt8=>decide (x≤y)) (fun a b c h1 h2=>by
  simp only [decide_eq_true_eq] at *
  exact List.le_trans h1 h2) (fun a b=>by
  simp only [Bool.or_eq_true,decide_eq_true_eq]
  exact List.le_total a b) X
 exact h.imp (fun h=>by simpa using h)

theorem le_ltN (a b:List UInt8):a≤b ↔ ltN b a=false:=by
 have h:ltN b a=decide (b<a):=by rw [← less_ltN6,bytesLess_eq]
 rw [h,decide_eq_false_iff_not,List.not_lt]

theorem pw_one: ∀ (A B:List (List UInt8)),A.Pairwise (fun a b=>ltN a b=true)→B.Pairwise (fun a b=>ltN a b=true)→(∀ n,n ∈ A ↔ n ∈ B)→A=B
 | [],[],_,_,_=>rfl
 | [],b::B,_,_,h=>absurd ((h b).2 (by simp)) (by simp)
 | a::A,[],_,_,h=>absurd ((h a).1 (by simp)) (by simp)
 | a::A,b::B,hA,hB,h=>by
   have hA2:=List.pairwise_cons.1 hA;have hB2:=List.pairwise_cons.1 hB;have hab:a=b:=by
    rcases List.mem_cons.1 ((h a).1 (by simp)) with h1 | h1
    ·exact h1
    ·rcases List.mem_cons.1 ((h b).2 (by simp)) with h2 | h2
     ·exact h2.symm
     ·have h3:=hB2.1 a h1
      have h4:=hA2.1 b h2;rw [ltN_asymm h3] at h4
      cases h4
   subst hab;refine congrArg _ (pw_one A B hA2.2 hB2.2 fun n=> ?_);constructor
   ·intro hn
    rcases List.mem_cons.1 ((h n).1 (by simp [hn])) with h1 | h1
    ·subst h1;have:=hA2.1 n hn;rw [ltN_irrefl] at this;cases this
    ·exact h1
   ·intro hn
    rcases List.mem_cons.1 ((h n).2 (by simp [hn])) with h1 | h1
    ·subst h1;have:=hB2.1 n hn;rw [ltN_irrefl] at this;cases this
    ·exact h1

theorem compact_upto (zs:List (List UInt8)) (hs:zs.Pairwise (fun a b=>a≤b)): ∀ m,m≤zs.length →
 (Lib.compactUpTo zs.toArray m).Pairwise (fun a b=>ltN a b=true)∧(∀ n,n ∈ Lib.compactUpTo zs.toArray m ↔ n ∈ zs.take m)∧(Lib.compactUpTo zs.toArray m).length≤m ∧ ∀ j (hj:j<zs.length),j+1=m → ∀ x ∈ Lib.compactUpTo zs.toArray m,x=zs[j]∨ltN x zs[j]=true:=by
 intro m
 induction m with
 | zero=>intro _;exact ⟨by simp [Lib.compactUpTo],fun n=>by simp [Lib.compactUpTo],by simp [Lib.compactUpTo],fun j hj h=>by omega⟩
 | succ m ih=>
   intro hm;obtain ⟨h1,h2,h3,h4⟩:=ih (by omega)
   have hmz:m<zs.length:=by omega
   have hg:zs.toArray[m]! = zs[m]:=by rw [getElem!_pos _ _ (by simpa using hmz)];simp
   rw [Lib.compactUpTo_succ,hg]
   have htk:zs.take (m+1)=zs.take m++[zs[m]]:=by rw [List.take_add_one,List.getElem?_eq_getElem hmz];rfl
   have hle: ∀ j (hj:j<zs.length),j<m→zs[j]≤zs[m]:=fun j hj hjm=>List.pairwise_iff_getElem.1 hs j m hj hmz hjm
   cases hk:Lib.keeps zs.toArray m with
   | true=>
     have hlt: ∀ x ∈ Lib.compactUpTo zs.toArray m,ltN x zs[m]=true:=by
      intro x hx;by_cases h0:m=0
      ·subst h0;simp [Lib.compactUpTo] at hx
      ·obtain ⟨k,rfl⟩: ∃ k,m=k+1:=⟨m - 1,by omega⟩
       have hne:zs[k+1]≠zs[k]:=by
        unfold Lib.keeps at hk;rw [decide_eq_true_eq] at hk;rcases hk with hk | hk
        ·omega
        ·rw [hg,Nat.add_sub_cancel,getElem!_pos _ _ (by simp;omega)] at hk
         simpa using hk
       have hkk:ltN zs[k] zs[k+1]=true:=by
        have h5:=(le_ltN _ _).1 (hle k (by omega) (by omega));rcases ltN_total zs[k] zs[k+1] with h6 | h6 | h6
        ·exact h6
        ·exact absurd h6.symm hne
        ·rw [h5] at h6;cases h6
       rcases h4 k (by omega) rfl x hx with rfl | h5
       ·exact hkk
       ·exact ltN_trans h5 hkk
     rw [if_pos rfl];refine ⟨?_,fun n=> ?_,by simp;omega,fun j hj e x hx=> ?_⟩
     ·rw [List.pairwise_append]
      exact ⟨h1,by simp,fun a ha b hb=>by rw [List.mem_singleton.1 hb];exact hlt a ha⟩
     ·rw [htk,List.mem_append,List.mem_append,h2 n]
     ·have:j=m:=by omega
      subst this;rcases List.mem_append.1 hx with hx | hx
      ·exact .inr (hlt x hx)
      ·exact .inl (List.mem_singleton.1 hx)
   | false=>
     have hm0:m≠0:=fun e=>by subst e;simp [Lib.keeps] at hk
     obtain ⟨k,rfl⟩: ∃ k,m=k+1:=⟨m - 1,by omega⟩
     have heq:zs[k+1]=zs[k]:=by
      unfold Lib.keeps at hk;rw [decide_eq_false_iff_not] at hk;rw [hg,Nat.add_sub_cancel,getElem!_pos _ _ (by simp;omega)] at hk
      simp at hk;exact hk
     rw [if_neg (by simp),List.append_nil];refine ⟨h1,fun n=> ?_,by omega,fun j hj e x hx=> ?_⟩
     ·rw [htk,List.mem_append,h2 n,List.mem_singleton]
      constructor
      ·exact .inl
      ·rintro (h | h)
       ·exact h
       ·rw [h,heq,List.mem_take_iff_getElem]
        exact ⟨k,by omega,rfl⟩
     ·have:j=k+1:=by omega
      subst this;rw [heq];exact h4 k (by omega) rfl x hx

theorem compact_srt (X:List (List UInt8)):Lib.compact (srt16 X)=srtN X:=by
 obtain ⟨h1,h2,h3,_⟩:=compact_upto (srt16 X) (srt16_pair X) (srt16 X).length (Nat.le_refl _)
 have hf:=srtN_facts X;refine pw_one _ _ h1 hf.1 fun n=> ?_
 rw [show Lib.compact (srt16 X)=Lib.compactUpTo (srt16 X).toArray (srt16 X).length from rfl,h2 n,hf.2.1 n,List.take_length,srt16_mem]

end Go.Proofs.YtpopljcmkbchcaaGreatDoor

namespace Go.Proofs.YtpopljcmkbchcaaGreatDoor
open Go.RowKit

theorem sizeBuilder:(Tryz.prog.info? 162).map (·.size)=some 2:=by kernel_rfl

theorem liesBuilder:liesAt Tryz.prog Tryz.prog.depth 162 (2 / Tryz.prog.cellsOf 162) 0 162 1=true:=by kernel_rfl

theorem infoByte:(Tryz.prog.info? 5).map (fun i=>(i.zero,i.size,i.bytes))=some (some (.int .u8 0),1,1):=by kernel_rfl

end Go.Proofs.YtpopljcmkbchcaaGreatDoor

namespace Go.Proofs.YtpopljcmkbchcaaGreatDoor
open Go.RowKit

theorem hid0 {p:Prop} (h:p):RowKit.Hid p:=h

def markI (i j:Nat):Int:=((i:Int)+1) / 2 ^ (8*(j % 3)) % 256

theorem ownsRow_same {w w':World} {B:Nat} {e:TypeId} {size:Nat} {v:Value} {n:Nat} {xs:List Value} (h:w.ownsRow B e size v n xs) (hk: ∀ g,v.ownBlock=some g→w'.heap[g]? = w.heap[g]?):w'.ownsRow B e size v n xs:=by
 refine ⟨h.1,?_⟩
 rcases h.2 with hn | ⟨g,cap,cur,rfl,hb,hgg,rest⟩
 ·exact .inl hn
 ·exact .inr ⟨g,cap,cur,rfl,hb,(hk g rfl).trans hgg,rest⟩

theorem ownsRow_slice {w:World} {B:Nat} {e:TypeId} {size:Nat} {v:Value} {n:Nat} {xs:List Value} (h:w.ownsRow B e size v n xs): ∃ a k c,v = .slice a k c:=by
 rcases h.2 with ⟨rfl,_⟩ | ⟨g,cap,cur,rfl,_⟩
 ·exact ⟨_,_,_,rfl⟩
 ·exact ⟨_,_,_,rfl⟩

theorem cell_of_heapE {w:World} {b:Nat} {cs:Array Value} {T:TypeId} {fr:Nat×Nat} (hb:w.heap[b]? = some (.cells cs T fr)) (j:Nat) (v:Value) (h:cs[j]? = some v):w.cell? ⟨b,j,none⟩=some v:=by rw [Lib.cell_of_heap hb];exact h

theorem ownsRow_kind {w:World} {B:Nat} {e:TypeId} {size:Nat} {v:Value} {n:Nat} {xs:List Value} (h:w.ownsRow B e size v n xs) (g:Nat) (hg:v.ownBlock=some g): ∃ cur,w.heap[g]? = some (.cells cur e (0,0)):=by
 rcases h.2 with ⟨rfl,_⟩ | ⟨g',cap,cur,rfl,hb,hgg,rest⟩
 ·simp [Value.ownBlock] at hg
 ·simp [Value.ownBlock] at hg
  subst hg;exact ⟨cur,hgg⟩

theorem ownsRow_other {w:World} {B:Nat} {e f:TypeId} {size:Nat} {v:Value} {n:Nat} {xs:List Value} {p:Nat} {cs:Array Value} {fr:Nat×Nat} (h:w.ownsRow B e size v n xs) (hp:w.heap[p]? = some (.cells cs f fr)) (hne:f≠e):v.ownBlock≠some p:=by
 intro hg;obtain ⟨cur,hc⟩:=ownsRow_kind h p hg
 rw [hp] at hc;injection hc with hc
 injection hc with _ hc _
 exact hne hc

theorem step_append_own0 {P:Program} {ops:Array Oper} {o:Oper} {a:Act} {w:World} {K:Act→World→Prop} {Q:Exit→Act→World→Prop} {E:Prop} (hgd:o.guard=none) (s x:Operand) (t:TypeId)
 (ho:o.op = .call { callee:= .builtin .append,args:= #[s,x],argTypes:= #[t,t] })
 (base:Nat) (e:TypeId) (i:TypeInfo) (z:Value) (size bytes:Nat) (ht:P.underlying t=some (.slice e)) (hi:P.info? e=some i) (hz:i.zero=some z)
 (hsize:i.size=size) (hby:i.bytes=bytes) (hzs:z.cells.size=size) (hsz:0<size)
 (v:Value) (n:Nat) (xs:List Value) (hs:a.eval s=v) (hown:w.ownsRow base e size v n xs)
 (ad:Addr) (m c:Nat) (news:List Value) (hx:a.eval x = .slice (some ad) m c) (hl:news.length=m*size) (hnews: ∀ j u,news[j]? = some u→w.cell? (ad.add j)=some u) (h1: ∀ u ∈ news,u.oneCell'=true)
 (h63:n+m≤maxLen) (hbytes:(n+m)*bytes≤140737488355328) (hbase:base≤w.heap.size)
 (h: ∀ v' w',w'.ownsRow base e size v' (n+m) (xs++news)→w.grownBy w' v.ownBlock→(v' = .slice none 0 0 ↔ v = .slice none 0 0∧m=0)→K (a.put o.dst v') w'):
 if Region.wanted o (yielded ops a.tmps)=true then Oper.wp P o a w K Q else E:=by
 rw [if_pos (by simp [Region.wanted,hgd])];exact wp_append_own w s x t ho base e i z size bytes ht hi hz hsize hby hzs hsz v n xs hs hown ad m c news hx hl hnews h1 h63 hbytes hbase h

def Bk (w:World) (B p h:Nat) (xs ys:List Value) (l:List UInt8):Prop:=
 B≤p∧ys.length=xs.length ∧
 (∃ A Y,w.heap[p]? = some (.cells #[A,Y,.int .i64 h,.bool false] 59 (0,0))∧w.ownsRow B 28 1 A xs.length xs∧w.ownsRow B 28 1 Y xs.length ys∧(A.ownBlock=none∨A.ownBlock≠Y.ownBlock)) ∧
 (∀ x ∈ xs,w.ownsRow B 5 1 x l.length (Lib.byteCells l))∧(∀ y ∈ ys,w.ownsRow B 5 1 y l.length (Lib.byteCells l)) ∧
 xs.Pairwise (fun a b=>a.ownBlock≠b.ownBlock)

end Go.Proofs.YtpopljcmkbchcaaGreatDoor
