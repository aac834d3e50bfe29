/-
  Walks and plain facts that this claim leans on, put together out of 15 texts: Vi, Vk, Vl, Vm, Wi, Vn, Hd, He, Hf, Vr, Rm, Hh, Hi, Hk, Ph.
-/
import Derived.Test.YtolioccofbhliaaGreatDoorProg
import Derived.Test.YtolioccofbhliaaGreatDoorQp1
import Derived.Lib.IndexMore
import Derived.Lib.Join
import Derived.Lib.LastIndexByte
import Derived.WalkKit
import Derived.Lib.Strings
import Derived.Lib.UnsafeStr
import Derived.Laws.IdiomStrings
import Derived.Laws.AppendOwn
import Derived.Laws.BitsAllLaws
import Derived.Lib.Bytealg
import Derived.Lib.BufferMore
import Derived.Shelf.Strings.Builder1
import Derived.Shelf.Strings.Builder2
import Derived.Shelf.Strings.OnBuilder
import Derived.Shelf.Strings.Trim
import Derived.Shelf.Small.Utf8
import Derived.Shelf.Small.Bits
import Derived.Shelf.Small.Strs
import Derived.Shelf.Small.Wraps
import Derived.Shelf.Strings.BuilderF
import Derived.Shelf.Strings.BuilderK
import Derived.Shelf.Strings.Builder2Cap
import Derived.Shelf.Strconv.Itoa0
import Derived.Shelf.Strconv.Itoa1
import Derived.Shelf.LaysM
import Derived.Shelf.Strconv.Itoa2
import Derived.Shelf.Strconv.Itoa3
import Derived.Shelf.Strings.Search1
import Derived.Shelf.Strings.Search2
import Derived.Shelf.Strings.Cut
import Derived.Shelf.Strings.Shaped
import Derived.Shelf.Sort.Plain
import Derived.Shelf.Strings.Prefix
import Derived.Shelf.Strings.Runes
import Derived.Shelf.Strings.IndexAny
import Derived.Shelf.Strings.AsciiSet
import Derived.Shelf.Strings.IndexAnyAll
import Derived.Shelf.Unicode.DecodeSlow
import Derived.Shelf.Unicode.DecodeAny
import Derived.Shelf.Unicode.DecodeLast
import Derived.Shelf.Slices.CompactS
import Derived.Shelf.Slices.In.SortNone
import Derived.Ground.SlgnProg
import Derived.Shelf.SlicesE.Compact
import Derived.Ground.SlgfProg
import Derived.Shelf.SlicesE.IndexFunc
import Derived.Shelf.SlicesE.DeleteFunc
import Derived.WalkSpells
import Derived.WalkLawsBesides
import Derived.Lib.AppendIntMem
import Derived.Lib.SmallJoins
import Derived.WalkSmall
import Derived.WalkMore
import Derived.Deep.LoopGhost
import Derived.OwnWalk
import Derived.Laws.CopyOwn
import Derived.Laws.ResultCell
import Derived.Deep.MidRow
import Derived.Lib.FrozenHead2
import Derived.Lib.OthersKept
import Derived.Lib.Builder
import Derived.Deep.RegionWith
set_option linter.unusedSimpArgs false
set_option linter.unusedVariables false

namespace Go.Proofs.YtolioccofbhliaaGreatDoor
open Go.RowKit

def zero8:List Nat:=[0,0,0,0,0,0,0,0]

def agg8 (x:List Nat):Value:= .agg (cells16 x).toArray

theorem row_kept {w w':World} {g:Nat} {o:Obj} (h:w.heap[g]? = some o) (hb:Below w.heap.size w w'):w'.heap[g]? = some o:=by
 have hlt:g<w.heap.size:=by
  rcases Nat.lt_or_ge g w.heap.size with h' | h'
  ·exact h'
  ·rw [Array.getElem?_eq_none h'] at h;cases h
 rw [hb.block g hlt];exact h

theorem there_row {w:World} {g n:Nat} {cs:Array Value} {t:TypeId} (h:w.heap[g]? = some (.cells cs t (0,0))) (hn:n≤cs.size):w.there g 0 n:=by
 intro j hj;constructor
 ·rw [cell_of_row w g _ cs t _ h];simp;omega
 ·simp [World.frozen?,h]

theorem range_row {w:World} {g:Nat} {cs:List Value} {t:TypeId} {f:Nat×Nat} (h:w.heap[g]? = some (.cells cs.toArray t f)):w.rangeAt g 0 cs:=by
 intro j v hv;rw [Nat.zero_add,cell_of_row w g j _ t _ h]
 simpa using hv

theorem below_setCells {B b:Nat} (hb:B≤b) {w0:World}: ∀ (vs:List Value) (o:Nat) (w:World),Below B w0 w→Below B w0 (w.setCells b o vs)
 | [],_,_,h=>h
 | v::r,o,w,h=>by
   rw [World.setCells];exact below_setCells hb r (o+1) _ (h.setCell (p:=⟨b,o,none⟩) hb v)

theorem results_six {fn:Func} {p u:Tmp} {ty:TypeId} (h:fn.results = #[.cell p ty,.tmp u]) (tmps:Array Value) (P:Program) (w:World) (b:Nat) (cs:List Value) (d:TypeDesc) (hp:tmps.getD p undef = .pointer (some ⟨b,0,none⟩)) (hc:w.rangeAt b 0 cs)
 (hu:P.underlying ty=some d) (hd:d.isRow=true) (hi:(P.info? ty).map (·.size)=some cs.length):(results fn tmps).run P w = .ok (.tuple #[.agg cs.toArray,tmps.getD u undef]) w:=by
 rw [results_cell_tmp h,hp];simp [asAddr,Result.andThen,run_loadVar_mid w b 0 ty cs d hc hu hd hi]

theorem own_src {w w':World} {base:Nat} {e:TypeId} {a:Option Addr} {cap:Nat} {o:List Nat} (h:w.ownsRow base e 1 (.slice a o.length cap) o.length (cells16 o)) (h0:0<o.length) (hb:Below w.heap.size w w'):
 ∃ ad,a=some ad ∧ ∀ j v,(cells16 o)[j]? = some v→w'.cell? (ad.add j)=some v:=by
 rcases h.2 with ⟨hv,hn⟩ | ⟨g,cap',cur,hv,_⟩
 ·omega
 ·cases hv
  refine ⟨⟨g,0,none⟩,rfl,fun j v hj=> ?_⟩
  have hc:=h.cells (g:=g) rfl j v hj;have hlt:=World.block_lt_of_cell? w _ hc;rw [hb.cell hlt];exact hc

def cutAd (b k:Nat):Addr:=if k=0 then ⟨b,0,none⟩ else ⟨b,8 - k,none⟩

theorem slice8_from (b k:Nat) (hk:k≤8) (w:World):(Instr.sliceAt 282 (.pointer (some ⟨b,0,none⟩)) (some (.int .i64 (8 - (k:Int)))) none none).run Tryz.prog w = .ok (.slice (some (cutAd b k)) k k) w:=by
 have e8:Tryz.prog.arrayLen 282=8:=by kernel_rfl
 have es:(sizeOf (Tryz.prog.elem 282)).run Tryz.prog w = .ok 1 w:=by kernel_rfl
 rw [run_sliceAt_array_l w 282 ⟨b,0,none⟩ (by kernel_rfl) .i64 _ (by omega) (by rw [e8];omega),es,e8];simp only [Result.andThen,slicedAt]
 have e1:(8 - (k:Int)).toNat=8 - k:=by omega
 have e2:8 - (8 - k)=k:=by omega
 have e3:(if 8=8 - k then (⟨b,0,none⟩:Addr) else (⟨b,0,none⟩:Addr).add ((8 - k)*1))=cutAd b k:=by
  unfold cutAd;by_cases h0:k=0
  ·subst h0;rfl
  ·rw [if_neg (by omega),if_neg h0,Addr.add_mid];simp
 rw [e1,e2,e3]

theorem size8:(Tryz.prog.info? 282).map (·.size)=some 8:=by kernel_rfl

theorem cells16_one (x:List Nat): ∀ v ∈ cells16 x,v.oneCell'=true:=by
 intro v hv;obtain ⟨n,_,rfl⟩:=List.mem_map.1 hv
 rfl

theorem splice16 (a b:List Nat) (h:a.length+b.length≤8):splice (splice (cells16 zero8) 0 (cells16 a)) (8 - b.length) (cells16 b)=cells16 (a++List.replicate (8 - a.length - b.length) 0++b):=by
 have hz:cells16 zero8=List.replicate 8 (Value.int .u16 0):=rfl;have e1:splice (cells16 zero8) 0 (cells16 a)=cells16 a++List.replicate (8 - a.length) (Value.int .u16 0):=by
  unfold splice;rw [hz,List.take_zero,List.nil_append,Nat.zero_add,cells16_len,List.drop_replicate]
 rw [e1];unfold splice;rw [cells16_app,cells16_app,cells16_len,List.take_append,List.take_of_length_le (by rw [cells16_len];omega),cells16_len,List.take_replicate,List.append_assoc,List.append_assoc]
 congr 1
 have e2:min (8 - b.length - a.length) (8 - a.length)=8 - a.length - b.length:=by omega
 have e3:(cells16 a++List.replicate (8 - a.length) (Value.int IntKind.u16 0)).drop (8 - b.length+b.length)=[]:=by
  apply List.drop_eq_nil_of_le;rw [List.length_append,cells16_len,List.length_replicate];omega
 rw [e2,e3,List.append_nil]
 congr 1
 simp [cells16]

end Go.Proofs.YtolioccofbhliaaGreatDoor

namespace Go.Proofs.YtolioccofbhliaaGreatDoor
open Go.RowKit

theorem infoStr:(Tryz.prog.info? 9).map (fun i=>(i.zero,i.size,i.bytes))=some (some (.string ByteArray.empty),1,16):=by kernel_rfl

def hexB (n:Nat):ByteArray:=⟨(hex16 n).toArray⟩

def Strs (w:World) (g:Nat) (x:List Nat) (k:Nat):Prop:=
 ∃ cur:Array Value,w.heap[g]? = some (.cells cur 9 (0,0))∧cur.size=x.length ∧ ∀ j (h:j<x.length),j<k→cur[j]? = some (.string (hexB x[j]))

theorem Strs.kept {w w':World} {g:Nat} {x:List Nat} {k:Nat} (h:Strs w g x k) (hb:Below w.heap.size w w'):Strs w' g x k:=by
 obtain ⟨cur,hg,h2⟩:=h
 exact ⟨cur,row_kept hg hb,h2⟩

theorem Strs.cell {w:World} {g:Nat} {x:List Nat} {k:Nat} (h:Strs w g x k) (j:Nat) (hj:j<x.length): ∃ v,w.cell? ⟨g,j,none⟩=some v:=by
 obtain ⟨cur,hg,hs,_⟩:=h
 rw [cell_of_row w g j cur _ _ hg];exact ⟨cur[j],by simp [hs,hj]⟩

theorem Strs.frozen {w:World} {g:Nat} {x:List Nat} {k:Nat} (h:Strs w g x k) (j:Nat):w.frozen? ⟨g,j,none⟩=false:=by
 obtain ⟨cur,hg,_⟩:=h
 simp [World.frozen?,hg]

theorem Strs.set {w:World} {g:Nat} {x:List Nat} {k:Nat} (h:Strs w g x k) (hk:k<x.length):Strs (w.setCell ⟨g,k,none⟩ (.string (hexB x[k]))) g x (k+1):=by
 obtain ⟨cur,hg,hs,hc⟩:=h
 refine ⟨_,Lib.heap_setCell_same hg _,by simpa using hs,?_⟩
 intro j hj hj2;by_cases e:k=j
 ·subst e
  have:k<cur.size:=by omega
  simp [this]
 ·simp [Array.getElem?_setIfInBounds,e]
  exact hc j hj (by omega)

theorem hex16_le (n:Nat):(hex16 n).length≤5:=by
 have key: ∀ (f m:Nat) (acc:List UInt8),(digsN 16 f m acc).length≤acc.length+f:=by
  intro f
  induction f with
  | zero=>intro m acc;simp [digsN]
  | succ f ih=>
    intro m acc;rw [digsN];split
    ·simp
    ·have:=ih (m / 16) (digC (m % 16)::acc)
     simp at this;omega
 have:=key 4 n [];simp at this;unfold hex16;omega

theorem joined_le (x:List Nat):(joined x).length≤6*x.length:=by
 unfold joined
 induction x with
 | nil=>simp [Lib.join,List.intercalate]
 | cons a x ih=>
   have ha:=hex16_le a
   cases x with
   | nil=>simp [Lib.join_one];omega
   | cons b x=>
     have e:Lib.join ((a::b::x).map hex16) [58]=hex16 a++[58]++Lib.join ((b::x).map hex16) [58]:=by
      simp [Lib.join,List.intercalate,List.intersperse]
     rw [e];simp only [List.length_append,List.length_cons,List.length_nil] at ih ⊢
     omega

def Nums (w:World) (b o:Nat) (x:List Nat):Prop:= ∀ j (h:j<x.length),w.cell? ⟨b,o+j,none⟩=some (.int .u16 (x[j]:Int))

theorem Nums.kept {w w':World} {b o:Nat} {x:List Nat} (h:Nums w b o x) (hb:Below w.heap.size w w'):Nums w' b o x:=fun j hj=>by
 rw [hb.cell (World.block_lt_of_cell? w _ (h j hj))];exact h j hj

end Go.Proofs.YtolioccofbhliaaGreatDoor

namespace Go.Proofs.YtolioccofbhliaaGreatDoor
open Go.RowKit

theorem nums_row {w:World} {g:Nat} {x:List Nat} {t:TypeId} {f:Nat×Nat} (h:w.heap[g]? = some (.cells (cells16 x).toArray t f)):Nums w g 0 x:=fun j hj=>by
 rw [Nat.zero_add,cell_of_row w g j _ t f h]
 simp [cells16,hj]

theorem zeros_hit {l:List Nat} {e:Nat} (h:e<l.length) (h0:l[e]=0):zeros (l.drop e)=zeros (l.drop (e+1))+1:=by
 rw [List.drop_eq_getElem_cons h,zeros,if_pos h0]

theorem zeros_miss {l:List Nat} {e:Nat} (h:e<l.length) (h0:l[e]≠0):zeros (l.drop e)=0:=by
 rw [List.drop_eq_getElem_cons h,zeros,if_neg h0]

theorem lrunN_take {i fr tu:Nat} {x:List Nat} (h:i<x.length) (hz:max (tu - fr) 1<zeros (x.drop i)):lrunN 0 i fr tu (x.drop i)=lrunN 0 (i+1) i (i+zeros (x.drop i)) (x.drop (i+1)):=by
 rw [List.drop_eq_getElem_cons h] at hz ⊢;rw [lrunN,if_pos hz]

theorem lrunN_skip {i fr tu:Nat} {x:List Nat} (h:i<x.length) (hz: ¬ max (tu - fr) 1<zeros (x.drop i)):lrunN 0 i fr tu (x.drop i)=lrunN 0 (i+1) fr tu (x.drop (i+1)):=by
 rw [List.drop_eq_getElem_cons h] at hz ⊢;rw [lrunN,if_neg hz]

end Go.Proofs.YtolioccofbhliaaGreatDoor

namespace Go.Proofs.YtolioccofbhliaaGreatDoor
open Go.RowKit

theorem Nums.take {w:World} {b:Nat} {x:List Nat} (h:Nums w b 0 x) (k:Nat):Nums w b 0 (x.take k):=fun j hj=>by
 have hj':j<x.length:=by simp at hj;omega
 rw [List.getElem_take];exact h j hj'

theorem Nums.drop {w:World} {b:Nat} {x:List Nat} (h:Nums w b 0 x) (k:Nat):Nums w b k (x.drop k):=fun j hj=>by
 have hj':k+j<x.length:=by simp at hj;omega
 rw [List.getElem_drop];have:=h (k+j) hj'
 rwa [Nat.zero_add] at this

end Go.Proofs.YtolioccofbhliaaGreatDoor

namespace Go.Proofs.YtolioccofbhliaaGreatDoor
open Go.RowKit

set_option maxHeartbeats 1000000 in
theorem lower_any (s:ByteArray) (w:World) (hs:s.size≤140737488351232):
 Calls Tryz.prog 99 #[.string s] w fun e w'=>e = .returned (.string ⟨(low s.data.toList).toArray⟩)∧Below w.heap.size w w':=by
 have hcv:=run_bytes_of_string (P:=Tryz.prog) w 9 28 5 s Tryz.underlying9 Tryz.underlying28 Tryz.underlying5;have hcap:=grownCap_ge w s.size 0 5;have hr0:=rowIs_bytes w 5 s (grownCap w s.size 0 5) hcap;have hb0:Below w.heap.size w (w.drew.alloc (.cells (bytesRow s (grownCap w s.size 0 5)) 5 ((bytesRow s (grownCap w s.size 0 5)).size,(bytesRow s (grownCap w s.size 0 5)).size+1))):=(Below.refl _ w).drew.alloc (Nat.le_refl _) _
 generalize (w.drew.alloc (.cells (bytesRow s (grownCap w s.size 0 5)) 5 ((bytesRow s (grownCap w s.size 0 5)).size,(bytesRow s (grownCap w s.size 0 5)).size+1)))=w0 at hcv hr0 hb0;generalize grownCap w s.size 0 5=cap at hcv hcap
 go_enter Tryz.func99,Tryz.ntmps99
 go_wp2
 clear hcv
 go_loopw [10] (fun i wr=> ∃ k:Nat,k≤s.size∧i = .int .i64 k∧rowIs wr w.heap.size 5 (lowTo s.data.toList k)∧Below w.heap.size w wr)
  (fun i _=>s.size - (intOf i).toNat)
 case atStart=>exact ⟨0,Nat.zero_le _,rfl,by rw [lowTo_zero];exact hr0,hb0⟩
 case round=>
  obtain ⟨k,hk,rfl,hr,hbw⟩:=hrel
  by_cases hlt:k<s.size
  ·have hl:k<s.data.toList.length:=by simpa using hlt
   have hl':k<(lowTo s.data.toList k).length:=by rw [lowTo_length];exact hl
   have hc:=hr.cell k hl';rw [lowTo_at _ _ hl] at hc;have hf:=hr.frozen k hl';have hsucc:=lowTo_succ s.data.toList k hl;have hat:=lowTo_at s.data.toList k hl hl';generalize s.data.toList[k]=c at hc hsucc hat;have HS:=hid hsucc;have HAt:=hid hat;clear hsucc hat;have hc8:c.toNat<256:=c.toNat_lt;by_cases hu:65≤c.toNat∧c.toNat≤90
   ·have h1:(65:Int)≤(c.toNat:Int):=by omega
    have h2:(c.toNat:Int)≤90:=by omega
    have HL:=hid (lowC_yes c hu);clear hu
    go_wp2
    go_roundw
    case rel=>
     refine ⟨k+1,by omega,by go_num,?_,hbw.setCell (p:=⟨w.heap.size,k,none⟩) (Nat.le_refl _) _⟩;rw [HS.out,← HL.out]
     exact hr.set k _
    case measure=>simp [intOf];omega
   ·have HL:=hid (lowC_no c hu)
    have hu':(c.toNat:Int)<65∨90<(c.toNat:Int):=by omega
    clear hu;rcases hu' with h1 | h1
    all_goals
     go_wp2
     go_roundw
     case rel=>
      refine ⟨k+1,by omega,by go_num,?_,hbw⟩;have e:lowC c=(lowTo s.data.toList k)[k]:=by rw [HL.out,HAt.out]
      rw [HS.out,e,List.set_getElem_self]
      exact hr
     case measure=>simp [intOf];omega
  ·have hk':k=s.data.toList.length:=by simp;omega
   have hr':rowIs wr w.heap.size 5 (low s.data.toList):=by rw [← lowTo_all,← hk'];exact hr
   clear hr hk';have hcv:=hr'.string (P:=Tryz.prog) (src:=28) (dst:=9) (cap:=cap) Tryz.underlying28 Tryz.underlying5 Tryz.underlying9;rw [show (low s.data.toList).length=s.size by simp [low]] at hcv
   go_wp2
   go_ret
   exact ⟨rfl,hbw⟩

end Go.Proofs.YtolioccofbhliaaGreatDoor

namespace Go.Proofs.YtolioccofbhliaaGreatDoor
open Go.RowKit

theorem dotN_lt: ∀ (r h:Nat) (l:List UInt8) (n:Nat),r≤4→h<2 ^ (8*(4 - r))→dotN r h l=some n→n<4294967296
 | 0,h,_,n,_,hh,e=>by
   rw [dotN] at e
   cases e
   exact hh
 | r+1,h,l,n,hr,hh,e=>by
   rw [dotN] at e;split at e
   ·cases e
   ·rename_i b hb
    split at e
    ·refine dotN_lt r _ _ n (by omega) ?_ e
     have e2:8*(4 - r)=8*(4 - (r+1))+8:=by omega
     have:=plainB_le hb;rw [e2,Nat.pow_add]
     omega
    ·cases e

theorem scanP_lt (whole:Option Nat) (last:Bool) (hw: ∀ m,whole=some m→m<4294967296): ∀ (l:List UInt8) (i n:Nat) (ns:List Nat),i≤4→n<16 ^ i→scanP whole last i n l=some ns→ns.length≤2 ∧ ∀ m ∈ ns,m<65536
 | [],i,n,ns,hi,hn,e=>by
   rw [scanP] at e;split at e
   ·cases e
   ·cases e
    have h4:16 ^ i≤16 ^ 4:=Nat.pow_le_pow_right (by omega) hi
    rw [show 16 ^ 4=65536 from rfl] at h4;refine ⟨by simp,fun m hm=> ?_⟩
    rw [List.mem_singleton] at hm;omega
 | c::l,i,n,ns,hi,hn,e=>by
   rw [scanP] at e;split at e
   ·cases hwh:whole with
    | none=>rw [hwh] at e;cases e
    | some m=>
      rw [hwh] at e
      cases e
      have:=hw m hwh;refine ⟨by simp,fun k hk=> ?_⟩
      simp at hk;omega
   ·split at e
    ·rename_i h
     refine scanP_lt whole last hw l (i+1) _ ns (by omega) ?_ e
     rw [Nat.pow_succ];omega
    ·cases e

theorem piecesN_lt (atEnd:Bool): ∀ (f:Nat) (out:List Nat) (l:List UInt8) (m:Bool) (r:List Nat),(∀ n ∈ out,n<65536)→piecesN atEnd f out l m=some r → ∀ n ∈ r,n<65536
 | f,out,l,false,r,ho,e=>by
   rw [piecesN_done] at e
   cases e;exact ho
 | 0,out,l,true,r,ho,e=>by cases e
 | f+1,out,l,true,r,ho,e=>by
   rw [piecesN] at e;split at e
   ·cases e
   ·rename_i ns hns
    refine piecesN_lt atEnd f _ _ _ r ?_ e;intro n hn;rcases List.mem_append.1 hn with h | h
    ·exact ho n h
    ·exact (scanP_lt _ _ (fun m hm=>dotN_lt 4 0 _ m (by omega) (by decide) hm) _ 0 0 ns (by omega) (by decide) hns).2 n h

theorem sixV_ok {l:List UInt8} {x:List Nat} (h:sixV l=some x):x.length=8 ∧ ∀ n ∈ x,n<65536:=by
 unfold sixV at h;split at h
 ·rename_i a b ha hb
  split at h
  ·rename_i hc
   cases h
   refine ⟨by simp;omega,fun n hn=> ?_⟩
   rcases List.mem_append.1 hn with hn | hn
   ·rcases List.mem_append.1 hn with hn | hn
    ·exact piecesN_lt _ _ _ _ _ a (by simp) ha n hn
    ·have:=List.eq_of_mem_replicate hn;omega
   ·exact piecesN_lt _ _ _ _ _ b (by simp) hb n hn
  ·cases h
 ·cases h

theorem bracketV_open {l:List UInt8} (h:Lib.hasSuffix l [93]=false):bracketV l=none:=by rw [bracketV,h];rfl

theorem bracketV_none {l:List UInt8} (h:Lib.hasSuffix l [93]=true) (h2:sixV (Lib.trimSuffix l [93])=none):bracketV l=none:=by rw [bracketV,if_pos h,h2];rfl

theorem bracketV_some {l:List UInt8} {x:List Nat} (h:Lib.hasSuffix l [93]=true) (h2:sixV (Lib.trimSuffix l [93])=some x):bracketV l=some (91::(text6 x++[93])):=by rw [bracketV,if_pos h,h2];rfl

theorem text6_le (x:List Nat) (h8:x.length=8):(text6 x).length≤100:=by
 unfold text6;have h1:=joined_le x;have h2:=joined_le (x.take (lrun x).1);have h3:=joined_le (x.drop (lrun x).2);have e1:(x.take (lrun x).1).length≤8:=by simp;omega
 have e2:(x.drop (lrun x).2).length≤8:=by simp;omega
 split
 ·omega
 ·simp;omega

theorem parseV_six {l:List UInt8} {b:Bool} (h:Lib.hasPrefix l [91]=true):parseV l b=bracketV (l.drop 1):=by rw [parseV,if_pos h]

theorem parseV_name {l:List UInt8} (h:Lib.hasPrefix l [91]=false):parseV l true=nameV (low (unpct l)):=by rw [parseV,h];rfl

theorem parseV_other {l:List UInt8} (h:Lib.hasPrefix l [91]=false):parseV l false=otherV l:=by rw [parseV,h];rfl

theorem unpct_le (l:List UInt8):(unpct l).length≤l.length:=by
 have key: ∀ (f:Nat) (l:List UInt8),(unpctN f l).length≤l.length:=by
  intro f
  induction f with
  | zero=>intro l;simp [unpctN]
  | succ f ih=>
    intro l
    cases l with
    | nil=>simp [unpctN]
    | cons c l=>
      rw [unpctN,List.length_cons,List.length_cons]
      have:=ih (if (pcd (c::l)).2 then l.drop 2 else l);split at this
      ·rename_i h;rw [if_pos h];simp at this;omega
      ·rename_i h;rw [if_neg h];omega
 exact key _ _

theorem low_length (l:List UInt8):(low l).length=l.length:=by simp [low]

end Go.Proofs.YtolioccofbhliaaGreatDoor

namespace Go.Proofs.YtolioccofbhliaaGreatDoor
def digs (base n:Nat):List UInt8:=digsN base 40 n []

theorem digsN_all (p:UInt8→Bool) (base:Nat) (hb:1≤base) (hp: ∀ n<base,p (digC n)=true): ∀ (f u:Nat) (T:List UInt8),T.all p=true→(digsN base f u T).all p=true
 | 0,_,T,h=>by rw [digsN];exact h
 | f+1,u,T,h=>by
   rw [digsN];split
   ·rename_i hu
    rw [List.all_cons,hp u hu,h];rfl
   ·refine digsN_all p base hb hp f _ _ ?_
    rw [List.all_cons,hp _ (Nat.mod_lt _ (by omega)),h];rfl

theorem digsN_ne (base:Nat): ∀ (f u:Nat) (T:List UInt8),T≠[]∨f≠0→digsN base f u T≠[]
 | 0,_,T,h=>by rw [digsN];exact h.resolve_right (by simp)
 | f+1,u,T,_=>by
   rw [digsN];split
   ·simp
   ·exact digsN_ne base f _ _ (.inl (by simp))

theorem digs_ne (base n:Nat):digs base n≠[]:=digsN_ne _ _ _ _ (.inr (by decide))

theorem index_one_none (l:List UInt8) (c:UInt8) (h:c ∉ l):Lib.index l [c] = -1:=by
 induction l with
 | nil=>rfl
 | cons a l ih=>
   have ha:a≠c:=fun e=>h (by simp [e])
   have hl:c ∉ l:=fun e=>h (by simp [e])
   unfold Lib.index;rw [ih hl];have:[c].isPrefixOf (a::l)=false:=by simp [List.isPrefixOf];exact fun e=>ha e.symm
   rw [this];rfl

theorem index_one_some (a r:List UInt8) (c:UInt8) (h:c ∉ a):Lib.index (a++c::r) [c]=a.length:=by
 induction a with
 | nil=>unfold Lib.index;simp [List.isPrefixOf]
 | cons x a ih=>
   have hx:x≠c:=fun e=>h (by simp [e])
   have ha:c ∉ a:=fun e=>h (by simp [e])
   rw [List.cons_append];unfold Lib.index;rw [ih ha];have:[c].isPrefixOf (x::(a++c::r))=false:=by simp [List.isPrefixOf];exact fun e=>hx e.symm
   rw [this];have h1:((a.length:Int) == -1)=false:=by rw [beq_eq_false_iff_ne];omega
   simp [h1]

theorem cut_none (l:List UInt8) (c:UInt8) (h:c ∉ l):Lib.cut l [c]=(l,[],false):=by
 unfold Lib.cut;rw [index_one_none l c h];rfl

theorem cut_some (a r:List UInt8) (c:UInt8) (h:c ∉ a):Lib.cut (a++c::r) [c]=(a,r,true):=by
 unfold Lib.cut;rw [index_one_some a r c h];simp

theorem noDot_dot (l:List UInt8):noDot (l++[46])=l:=by
 unfold noDot Lib.trimSuffix;rw [if_pos]
 ·simp
 ·unfold Lib.hasSuffix
  rw [List.isSuffixOf_iff_suffix];exact ⟨l,rfl⟩

theorem noDot_of (l:List UInt8) (h: ∀ t,l≠t++[46]):noDot l=l:=by
 unfold noDot Lib.trimSuffix;rw [if_neg];unfold Lib.hasSuffix;rw [List.isSuffixOf_iff_suffix];rintro ⟨t,ht⟩
 exact h t ht.symm

end Go.Proofs.YtolioccofbhliaaGreatDoor

namespace Go.Proofs.YtolioccofbhliaaGreatDoor
theorem unpct_plain: ∀ (l:List UInt8),37 ∉ l→unpct l=l
 | [],_=>rfl
 | c::l,h=>by
   have hc:c≠37:=fun e=>h (by simp [e])
   rw [unpct_cons,pcd_other l c hc]
   simp only [Bool.false_eq_true,if_false]
   rw [unpct_plain l (fun e=>h (by simp [e]))]

theorem low_plain (l:List UInt8) (h: ∀ c ∈ l,lowC c=c):low l=l:=by
 unfold low;rw [List.map_congr_left h];simp

theorem dec8_digs: ∀ n<256,dec8 n=digs 10 n:=by decide +kernel

end Go.Proofs.YtolioccofbhliaaGreatDoor

namespace Go.Proofs.YtolioccofbhliaaGreatDoor
theorem dec8_ne (n:Nat) (h:n<256):dec8 n≠[]:=by rw [dec8_digs n h];exact digs_ne 10 n

end Go.Proofs.YtolioccofbhliaaGreatDoor

namespace Go.Proofs.YtolioccofbhliaaGreatDoor
open Go.RowKit

theorem hexs_at (d:Nat) (h:d<16):((⟨#[48,49,50,51,52,53,54,55,56,57,97,98,99,100,101,102]⟩:ByteArray).extract d (d+1)).data.toList=[digC d]:=by
 rcases (show d=0∨d=1∨d=2∨d=3∨d=4∨d=5∨d=6∨d=7∨d=8∨d=9∨d=10∨d=11∨d=12∨d=13∨d=14∨d=15 from by omega) with
  rfl | rfl | rfl | rfl | rfl | rfl | rfl | rfl | rfl | rfl | rfl | rfl | rfl | rfl | rfl | rfl<;>(rw [Lib.extract_data];rfl)

theorem hexs_app (d:Nat) (h:d<16) (T:List UInt8):(⟨#[48,49,50,51,52,53,54,55,56,57,97,98,99,100,101,102]⟩:ByteArray).extract d (d+1)++⟨T.toArray⟩=⟨(digC d::T).toArray⟩:=by
 refine ba_ext ?_;rw [ByteArray.data_append,Array.toList_append,hexs_at d h];simp

def DigInv (base n f u:Nat) (T:List UInt8):Prop:=
 u<base ^ f∧f≤40∧T.length+f=40∧((digsN base f u T=digs base n∧(0<u∨T=[]))∨(u=0∧T=digs base n∧T≠[]))

theorem DigInv.step {base n f u:Nat} {T:List UInt8} (h2:2≤base) (h:DigInv base n f u T) (hp:0<u∨T=[]): ∃ g,f=g+1∧DigInv base n g (u / base) (digC (u % base)::T):=by
 obtain ⟨h1,hf,hT,hc⟩:=h
 have hd:digsN base f u T=digs base n:=by
  rcases hc with ⟨h,_⟩ | ⟨h0,_,hne⟩
  ·exact h
  ·rcases hp with hp | hp
   ·omega
   ·exact absurd hp hne
 cases f with
 | zero=>
   simp at h1;rcases hp with hp | hp
   ·omega
   ·subst hp;simp at hT
 | succ g=>
   refine ⟨g,rfl,?_,by omega,by simp;omega,?_⟩
   ·rw [Nat.div_lt_iff_lt_mul (by omega)];rw [Nat.pow_succ] at h1;exact h1
   ·by_cases hu:u<base
    ·right
     rw [digsN_last _ _ _ _ hu] at hd;refine ⟨Nat.div_eq_of_lt hu,by rw [Nat.mod_eq_of_lt hu];exact hd,by simp⟩
    ·left
     rw [digsN_more _ _ _ _ hu] at hd;exact ⟨hd,.inl (Nat.div_pos (by omega) (by omega))⟩

theorem DigInv.done {base n f u:Nat} {T:List UInt8} (h:DigInv base n f u T) (h0:u=0) (hT:T≠[]):T=digs base n:=by
 obtain ⟨_,_,_,hc⟩:=h
 rcases hc with ⟨_,hp | hp⟩ | ⟨_,h,_⟩
 ·omega
 ·exact absurd hp hT
 ·exact h

end Go.Proofs.YtolioccofbhliaaGreatDoor

namespace Go.Proofs.YtolioccofbhliaaGreatDoor
open Go.RowKit

theorem tens_at (d:Nat) (h:d<10):((⟨#[48,49,50,51,52,53,54,55,56,57]⟩:ByteArray).extract d (d+1)).data.toList=[digC d]:=by
 rcases (show d=0∨d=1∨d=2∨d=3∨d=4∨d=5∨d=6∨d=7∨d=8∨d=9 from by omega) with
  rfl | rfl | rfl | rfl | rfl | rfl | rfl | rfl | rfl | rfl<;>(rw [Lib.extract_data];rfl)

theorem tens_app (d:Nat) (h:d<10) (T:List UInt8):(⟨#[48,49,50,51,52,53,54,55,56,57]⟩:ByteArray).extract d (d+1)++⟨T.toArray⟩=⟨(digC d::T).toArray⟩:=by
 refine ba_ext ?_;rw [ByteArray.data_append,Array.toList_append,tens_at d h];simp

theorem digsN_fuel (base:Nat) (h2:2≤base): ∀ (f g n:Nat) (T:List UInt8),f≠0→g≠0→n<base ^ f→n<base ^ g→digsN base f n T=digsN base g n T
 | 0,_,_,_,h,_,_,_=>absurd rfl h
 | _,0,_,_,_,h,_,_=>absurd rfl h
 | f+1,g+1,n,T,_,_,hf,hg=>by
   by_cases hn:n<base
   ·rw [digsN_last _ _ _ _ hn,digsN_last _ _ _ _ hn]
   ·rw [digsN_more _ _ _ _ hn,digsN_more _ _ _ _ hn]
    have hd:0<base:=by omega
    have h1:n / base<base ^ f:=by rw [Nat.div_lt_iff_lt_mul hd];rw [Nat.pow_succ] at hf;exact hf
    have h3:n / base<base ^ g:=by rw [Nat.div_lt_iff_lt_mul hd];rw [Nat.pow_succ] at hg;exact hg
    have h0:n / base≠0:=Nat.pos_iff_ne_zero.1 (Nat.div_pos (by omega) hd);refine digsN_fuel base h2 f g _ _ ?_ ?_ h1 h3
    ·rintro rfl;simp at h1;omega
    ·rintro rfl;simp at h3;omega

theorem hex16_digs (n:Nat) (h:n<65536):hex16 n=digs 16 n:=by
 unfold hex16 digs;refine digsN_fuel 16 (by omega) 4 40 n [] (by omega) (by omega) (by omega) ?_
 have h1:16 ^ 4≤16 ^ 40:=Nat.pow_le_pow_right (by omega) (by omega)
 omega

set_option maxHeartbeats 2000000 in
theorem rdigits_any (n:Nat) (w:World) (hn:n<65536):
 Calls Tryz.prog 270 #[.int .u16 n] w fun e w'=>e = .returned (.string ⟨(hex16 n).toArray⟩)∧w=w':=by
 rw [hex16_digs n hn];have h40:n<16 ^ 40:=by
  have h1:16 ^ 4≤16 ^ 40:=Nat.pow_le_pow_right (by omega) (by omega)
  omega
 have H0:=hid (show DigInv 16 n 40 n [] from ⟨h40,by omega,rfl,.inl ⟨rfl,.inr rfl⟩⟩);clear h40
 go_enter Tryz.func270,Tryz.ntmps270
 go_wp2
 go_loopg [0,3] 40 (fun f nv sv wr=> ∃ (u:Nat) (T:List UInt8),nv = .int .u16 u∧sv = .string ⟨T.toArray⟩∧u<65536∧DigInv 16 n f u T∧wr=w)
 case atStart=>exact ⟨n,[],rfl,rfl,hn,H0.out,rfl⟩
 case round=>
  obtain ⟨u,T,rfl,rfl,hu,hinv,rfl⟩:=hrel
  have hTl:T.length≤40:=by have:=hinv.2.2.1;omega
  have HI:=hid hinv;clear hinv;have hm:u % 16<16:=by omega
  by_cases hp:0<u∨T=[]
  ·obtain ⟨g,rfl,hnext⟩:=HI.out.step (by omega) hp
   have HN:=hid hnext;have HX:=hid (hexs_app (u % 16) hm T);have hul:u / 16<65536:=by omega
   clear hnext;by_cases h0:0<u
   ·have h0':(0:Int)<(u:Int):=by omega
    clear hp
    go_wp2
    go_roundg g
    case measure=>omega
    case rel=>exact ⟨_,_,by go_num,by rw [HX.out],hul,HN.out,rfl⟩
   ·have hT0:T=[]:=hp.resolve_left h0
    have hu0:u=0:=by omega
    subst hT0;subst hu0;clear hp h0
    go_wp2
    go_roundg g
    case measure=>omega
    case rel=>exact ⟨_,_,by go_num,by rw [HX.out],hul,HN.out,rfl⟩
  ·have hu0:u=0:=by omega
   have hT:T≠[]:=fun h=>hp (.inr h)
   have HD:=hid (HI.out.done hu0 hT);have he:T.isEmpty=false:=by simpa using hT
   subst hu0;clear hp hT
   go_wp2
   go_ret
   rw [HD.out];exact ⟨rfl,rfl⟩

set_option maxHeartbeats 2000000 in
theorem numeral_nat (n:Nat) (w:World) (hn:n≤9223372036854775807):
 Calls Tryz.prog 68 #[.int .i64 n] w fun e w'=>e = .returned (.string ⟨(digs 10 n).toArray⟩)∧w=w':=by
 have h40:n<10 ^ 40:=by
  have h3:(9223372036854775807:Nat)<10 ^ 40:=by decide
  omega
 have H0:=hid (show DigInv 10 n 40 n [] from ⟨h40,by omega,rfl,.inl ⟨rfl,.inr rfl⟩⟩);clear h40;have hq1:((n:Int) == -9223372036854775808)=false:=by rw [beq_eq_false_iff_ne];omega
 have hq2:decide ((n:Int)<0)=false:=decide_eq_false (by omega)
 go_enter Tryz.func68,Tryz.ntmps68
 go_wp2
 go_loopg [0,3] 40 (fun f nv sv wr=> ∃ (u:Nat) (T:List UInt8),nv = .int .i64 u∧sv = .string ⟨T.toArray⟩∧u≤9223372036854775807∧DigInv 10 n f u T∧wr=w)
 case atStart=>exact ⟨n,[],rfl,rfl,hn,H0.out,rfl⟩
 case round=>
  obtain ⟨u,T,rfl,rfl,hu,hinv,rfl⟩:=hrel
  have hTl:T.length≤40:=by have:=hinv.2.2.1;omega
  have HI:=hid hinv;clear hinv;have hm:u % 10<10:=by omega
  have ht1:(u:Int).tmod 10=((u % 10:Nat):Int):=by rw [Int.tmod_eq_emod_of_nonneg (by omega)];omega
  have ht2:(u:Int).tdiv 10=((u / 10:Nat):Int):=by rw [Int.tdiv_eq_ediv_of_nonneg (by omega)];omega
  by_cases hp:0<u∨T=[]
  ·obtain ⟨g,rfl,hnext⟩:=HI.out.step (by omega) hp
   have HN:=hid hnext;have HX:=hid (tens_app (u % 10) hm T);have hul:u / 10≤9223372036854775807:=by omega
   clear hnext;by_cases h0:0<u
   ·have h0':(0:Int)<(u:Int):=by omega
    clear hp
    go_wp2
    go_roundg g
    case measure=>omega
    case rel=>exact ⟨_,_,by go_num,by rw [HX.out],hul,HN.out,rfl⟩
   ·have hT0:T=[]:=hp.resolve_left h0
    have hu0:u=0:=by omega
    subst hT0;subst hu0;clear hp h0
    go_wp2
    go_roundg g
    case measure=>omega
    case rel=>exact ⟨_,_,by go_num,by rw [HX.out],hul,HN.out,rfl⟩
  ·have hu0:u=0:=by omega
   have hT:T≠[]:=fun h=>hp (.inr h)
   have HD:=hid (HI.out.done hu0 hT);have he:T.isEmpty=false:=by simpa using hT
   subst hu0;clear hp hT
   go_wp2
   go_ret
   rw [HD.out];exact ⟨rfl,rfl⟩

end Go.Proofs.YtolioccofbhliaaGreatDoor

namespace Go.Proofs.YtolioccofbhliaaGreatDoor
theorem joined_nil:joined []=[]:=by simp [joined,Lib.join,List.intercalate]

theorem joined_one (n:Nat):joined [n]=hex16 n:=by simp [joined,Lib.join,List.intercalate]

theorem joined_cons (a b:Nat) (l:List Nat):joined (a::b::l)=hex16 a++([58]++joined (b::l)):=by simp [joined,Lib.join,List.intercalate]

theorem joined_snoc: ∀ (l:List Nat) (n:Nat),l≠[]→joined (l++[n])=joined l++([58]++hex16 n)
 | [],_,h=>absurd rfl h
 | [a],n,_=>by
   show joined (a::n::[])=_;rw [joined_cons,joined_one,joined_one]
 | a::b::l,n,_=>by
   show joined (a::b::(l++[n]))=_;have:=joined_snoc (b::l) n (by simp)
   rw [joined_cons,joined_cons]
   rw [show b::(l++[n])=(b::l)++[n] from rfl,this];simp

theorem hex16_no58 (n:Nat):58 ∉ hex16 n:=by
 intro h;have hall:=digsN_all (fun c=>c != 58) 16 (by omega) (by decide) 4 n [] rfl
 have:=List.all_eq_true.1 hall 58 h;simp at this

theorem hex16_ne (n:Nat):hex16 n≠[]:=digsN_ne 16 4 n [] (.inr (by decide))

theorem last_of (l:List UInt8) (h:l≠[]): ∃ A c,l=A++[c]:=⟨l.dropLast,l.getLast h,(List.dropLast_concat_getLast h).symm⟩

def EndsWell (T:List UInt8):Prop:= ∃ A c,T=A++[c]∧c≠58

theorem EndsWell.app (P:List UInt8) {T:List UInt8} (h:EndsWell T):EndsWell (P++T):=by
 obtain ⟨A,c,e,hc⟩:=h
 exact ⟨P++A,c,by rw [e,List.append_assoc],hc⟩

theorem hex16_ends (n:Nat):EndsWell (hex16 n):=by
 obtain ⟨A,c,e⟩:=last_of _ (hex16_ne n)
 refine ⟨A,c,e,fun hc=>hex16_no58 n ?_⟩
 rw [e,hc];simp

theorem joined_ends (l:List Nat) (h:l≠[]):EndsWell (joined l):=by
 have e:l=l.dropLast++[l.getLast h]:=(List.dropLast_concat_getLast h).symm;rw [e];by_cases h0:l.dropLast=[]
 ·rw [h0,List.nil_append,joined_one];exact hex16_ends _
 ·rw [joined_snoc _ _ h0]
  exact ((hex16_ends _).app [58]).app _

def t6 (x:List Nat) (fr tu i:Nat):List UInt8:=
 if fr=tu∨i≤fr then joined (x.take i) else joined (x.take fr)++([58,58]++joined ((x.take i).drop tu))

theorem t6_step (x:List Nat) (fr tu i:Nat) (hi:i<x.length) (hft:fr≤tu) (hc:fr=tu∨i<fr∨tu≤i):
 (t6 x fr tu i=[]∧t6 x fr tu (i+1)=hex16 x[i])∨((∃ A,t6 x fr tu i=A++[58])∧t6 x fr tu (i+1)=t6 x fr tu i++hex16 x[i])∨(EndsWell (t6 x fr tu i)∧t6 x fr tu (i+1)=t6 x fr tu i++([58]++hex16 x[i])):=by
 have htk:x.take (i+1)=x.take i++[x[i]]:=(List.take_append_getElem hi).symm;by_cases hA:fr=tu∨i<fr
 ·have h1:t6 x fr tu i=joined (x.take i):=by rw [t6,if_pos (by omega)]
  have h2:t6 x fr tu (i+1)=joined (x.take i++[x[i]]):=by rw [t6,if_pos (by omega),htk]
  rw [h1,h2]
  by_cases h0:i=0
  ·left
   subst h0;rw [List.take_zero];exact ⟨joined_nil,by rw [List.nil_append,joined_one]⟩
  ·right;right
   have hne:x.take i≠[]:=by
    intro h;have:=congrArg List.length h;rw [List.length_take,List.length_nil] at this;omega
   exact ⟨joined_ends _ hne,joined_snoc _ _ hne⟩
 ·have hti:tu≤i:=by omega
  have h1:t6 x fr tu i=joined (x.take fr)++([58,58]++joined ((x.take i).drop tu)):=by rw [t6,if_neg (by omega)]
  have h2:t6 x fr tu (i+1)=joined (x.take fr)++([58,58]++joined ((x.take i).drop tu++[x[i]])):=by
   rw [t6,if_neg (by omega),htk,List.drop_append_of_le_length (by simp;omega)]
  rw [h1,h2]
  by_cases h0:i=tu
  ·right;left
   have hd:(x.take i).drop tu=[]:=List.drop_eq_nil_of_le (by simp;omega)
   rw [hd,joined_nil,List.nil_append,joined_one]
   exact ⟨⟨joined (x.take fr)++[58],by simp⟩,by simp⟩
  ·right;right
   have hne:(x.take i).drop tu≠[]:=by
    intro h;have:=congrArg List.length h;simp at this;omega
   refine ⟨((joined_ends _ hne).app _).app _,?_⟩;rw [joined_snoc _ _ hne];simp

theorem t6_mark (x:List Nat) (fr tu:Nat) (h:fr<tu) (hx:tu≤x.length):t6 x fr tu tu=t6 x fr tu fr++[58,58]:=by
 have hd:(x.take tu).drop tu=[]:=List.drop_eq_nil_of_le (by simp;omega)
 rw [t6,if_neg (by omega),t6,if_pos (by omega),hd,joined_nil];simp

theorem t6_end (x:List Nat) (hx:x.length=8) (hl:(lrun x).1=(lrun x).2∨(lrun x).1<(lrun x).2) (h2:(lrun x).2≤8):t6 x (lrun x).1 (lrun x).2 8=text6 x:=by
 have h8:x.take 8=x:=List.take_of_length_le (by omega)
 unfold text6;by_cases h:(lrun x).1=(lrun x).2
 ·rw [if_pos h,t6,if_pos (.inl h),h8]
 ·rw [if_neg h,t6,if_neg (by omega),h8]

theorem t6_le (x:List Nat) (fr tu i:Nat) (hx:x.length=8):(t6 x fr tu i).length≤200:=by
 unfold t6;split
 ·have:=joined_le (x.take i)
  have h2:(x.take i).length≤8:=by simp;omega
  omega
 ·have h1:=joined_le (x.take fr)
  have h3:=joined_le ((x.take i).drop tu);have h2:(x.take fr).length≤8:=by simp;omega
  have h4:((x.take i).drop tu).length≤8:=by simp;omega
  simp only [List.length_append,List.length_cons,List.length_nil]
  omega

end Go.Proofs.YtolioccofbhliaaGreatDoor

namespace Go.Proofs.YtolioccofbhliaaGreatDoor
def noPair:List UInt8→Bool
 | a::b::l=> !(a==58&&b==58)&&noPair (b::l)
 | _=>true

theorem index2_none: ∀ (l:List UInt8),noPair l=true→Lib.index l [58,58] = -1
 | [],_=>rfl
 | [a],_=>by
   unfold Lib.index;rw [index2_none [] rfl];simp [List.isPrefixOf]
 | a::b::l,h=>by
   simp only [noPair,Bool.and_eq_true] at h
   unfold Lib.index;rw [index2_none (b::l) h.2];have:[58,58].isPrefixOf (a::b::l)=false:=by
    simp [List.isPrefixOf];have:=h.1;simp at this;intro e e2;rcases this with h | h
    ·exact h e.symm
    ·exact h e2.symm
   rw [this];rfl

theorem index2_some: ∀ (a r:List UInt8),noPair (a++[58])=true→Lib.index (a++58::58::r) [58,58]=a.length
 | [],r,_=>by unfold Lib.index;simp [List.isPrefixOf]
 | x::a,r,h=>by
   have hx:[58,58].isPrefixOf (x::(a++58::58::r))=false:=by
    cases a with
    | nil=>
      simp [noPair] at h;simp [List.isPrefixOf];exact fun e=>h e.symm
    | cons y a=>
      have h':noPair (x::y::(a++[58]))=true:=h;simp only [noPair,Bool.and_eq_true] at h'
      have:=h'.1;simp at this;simp [List.isPrefixOf];intro e e2;rcases this with h | h
      ·exact h e.symm
      ·exact h e2.symm
   have h2:noPair (a++[58])=true:=by
    cases a with
    | nil=>rfl
    | cons y a=>
      have h':noPair (x::y::(a++[58]))=true:=h;simp only [noPair,Bool.and_eq_true] at h'
      exact h'.2
   rw [List.cons_append];unfold Lib.index;rw [index2_some a r h2,hx];have h1:((a.length:Int) == -1)=false:=by rw [beq_eq_false_iff_ne];omega
   simp [h1]

theorem cut2_none (l:List UInt8) (h:noPair l=true):Lib.cut l [58,58]=(l,[],false):=by
 unfold Lib.cut;rw [index2_none l h];rfl

theorem cut2_some (a r:List UInt8) (h:noPair (a++[58])=true):Lib.cut (a++([58,58]++r)) [58,58]=(a,r,true):=by
 unfold Lib.cut;rw [show a++([58,58]++r)=a++58::58::r from rfl,index2_some a r h];simp

def fold16 (n:Nat) (l:List UInt8):Nat:=l.foldl (fun a c=>a*16+dig16 c) n

end Go.Proofs.YtolioccofbhliaaGreatDoor

namespace Go.Proofs.YtolioccofbhliaaGreatDoor
def cutL (c:UInt8):List UInt8→List (List UInt8)
 | []=>[[]]
 | x::l=>if x=c then []::cutL c l else match cutL c l with
   | []=>[[x]]
   | h::t=>(x::h)::t

theorem cutL_ne (c:UInt8) (l:List UInt8):cutL c l≠[]:=by
 cases l with
 | nil=>simp [cutL]
 | cons x l=>
   rw [cutL];split
   ·simp
   ·split<;>simp

theorem cutL_none (c:UInt8): ∀ l:List UInt8,c ∉ l→cutL c l=[l]
 | [],_=>rfl
 | x::l,h=>by
   rw [cutL,if_neg (fun e=>h (by simp [e])),cutL_none c l (fun e=>h (by simp [e]))]

theorem cutL_some (c:UInt8): ∀ (a r:List UInt8),c ∉ a→cutL c (a++c::r)=a::cutL c r
 | [],r,_=>by rw [List.nil_append,cutL,if_pos rfl]
 | x::a,r,h=>by
   rw [List.cons_append,cutL,if_neg (fun e=>h (by simp [e])),cutL_some c a r (fun e=>h (by simp [e]))]

theorem first_split (c:UInt8): ∀ l:List UInt8,c ∉ l ∨ ∃ a r,c ∉ a∧l=a++c::r
 | []=> .inl (by simp)
 | x::l=>by
   by_cases hx:x=c
   ·exact .inr ⟨[],l,by simp,by simp [hx]⟩
   ·rcases first_split c l with h | ⟨a,r,ha,rfl⟩
    ·exact .inl (by simp [h];exact fun e=>hx e.symm)
    ·exact .inr ⟨x::a,r,by simp [ha];exact fun e=>hx e.symm,rfl⟩

theorem cutL_ind (c:UInt8) {P:List UInt8→Prop} (h1: ∀ l,c ∉ l→P l) (h2: ∀ a r,c ∉ a→P r→P (a++c::r)): ∀ l,P l:=by
 intro l;generalize hn:l.length=n
 induction n using Nat.strongRecOn generalizing l with
 | _ n ih=>
   rcases first_split c l with h | ⟨a,r,ha,rfl⟩
   ·exact h1 l h
   ·exact h2 a r ha (ih r.length (by rw [← hn];simp;omega) r rfl)

theorem cutL_snoc (c:UInt8): ∀ l:List UInt8,cutL c (l++[c])=cutL c l++[[]]:=
 cutL_ind c (fun l h=>by rw [cutL_some c l [] h,cutL_none c l h];rfl)
  (fun a r h ih=>by rw [List.append_assoc,List.cons_append,cutL_some c a _ h,ih,cutL_some c a r h];rfl)

theorem takeWhile_stop {α:Type} (p:α→Bool) (y:α) (hy:p y=false): ∀ (xs ys:List α),(xs++y::ys).takeWhile p=xs.takeWhile p
 | [],ys=>by simp [List.takeWhile,hy]
 | x::xs,ys=>by
   simp only [List.cons_append,List.takeWhile]
   split
   ·rw [takeWhile_stop p y hy xs ys]
   ·rfl

theorem lastLab_app (a r:List UInt8):lastLab (a++46::r)=lastLab r:=by
 unfold lastLab;rw [List.reverse_append,List.reverse_cons,List.append_assoc,List.singleton_append,takeWhile_stop _ 46 (by decide)]

theorem cutL_last: ∀ l:List UInt8,(cutL 46 l).getLast? = some (lastLab l):=
 cutL_ind 46 (fun l h=>by rw [cutL_none 46 l h,lastLab_none l (fun c hc e=>h (e ▸ hc))];rfl)
  (fun a r h ih=>by
    rw [cutL_some 46 a r h,lastLab_app,List.getLast?_cons,ih];rfl)

theorem lastLab_nil: ∀ l:List UInt8,lastLab l=[]→l=[] ∨ ∃ t,l=t++[46]:=by
 intro l h;rcases List.eq_nil_or_concat l with rfl | ⟨t,c,rfl⟩
 ·exact .inl rfl
 ·right
  refine ⟨t,?_⟩
  by_cases hc:c=46
  ·rw [hc];simp
  ·exfalso
   unfold lastLab at h;simp [hc] at h

def labL (l:List UInt8):List (List UInt8):=if 1<(cutL 46 l).length∧(cutL 46 l).getLast? = some [] then (cutL 46 l).dropLast else cutL 46 l

theorem labL_eq (l:List UInt8):labL l=cutL 46 (noDot l):=by
 unfold labL;by_cases h: ∃ t,l=t++[46]
 ·obtain ⟨t,rfl⟩:=h
  rw [noDot_dot,cutL_snoc]
  rw [if_pos]
  ·simp
  ·refine ⟨?_,by simp⟩
   have:=cutL_ne 46 t;have:0<(cutL 46 t).length:=List.length_pos_iff.2 this
   simp;omega
 ·rw [noDot_of l (fun t e=>h ⟨t,e⟩),if_neg]
  rintro ⟨h1,h2⟩
  rw [cutL_last] at h2;rcases lastLab_nil l (Option.some.inj h2) with rfl | h3
  ·simp [cutL] at h1
  ·exact h h3

def valC (cap base:Nat):Nat→List UInt8→Option Nat
 | n,[]=>some n
 | n,c::l=>if dig16 c<base then valC cap base (min (n*base+dig16 c) cap) l else none

theorem valN_isSome (base:Nat): ∀ (l:List UInt8) (n:Nat),(valN base n l).isSome=l.all fun c=>decide (dig16 c<base)
 | [],n=>rfl
 | c::l,n=>by
   rw [valN];by_cases h:dig16 c<base
   ·rw [if_pos h,valN_isSome base l];simp [h]
   ·rw [if_neg h];simp [h]

theorem valC_le (cap base:Nat): ∀ (l:List UInt8) (n m:Nat),n≤cap→valC cap base n l=some m→m≤cap
 | [],n,m,h,e=>by rw [valC] at e;injection e with e;omega
 | c::l,n,m,h,e=>by
   rw [valC] at e;split at e
   ·exact valC_le cap base l _ m (by omega) e
   ·cases e

theorem valC_N (cap base:Nat) (hb:1≤base) (hc:4294967296≤cap): ∀ (l:List UInt8) (n m:Nat),n=min m 4294967296→valN base n l=(valC cap base m l).map fun k=>min k 4294967296
 | [],n,m,h=>by rw [valN,valC,h];rfl
 | c::l,n,m,h=>by
   rw [valN,valC]
   by_cases hd:dig16 c<base
   ·rw [if_pos hd,if_pos hd]
    refine valC_N cap base hb hc l _ _ ?_;by_cases hm:m<4294967296
    ·have:n=m:=by omega
     subst this;omega
    ·have e:n=4294967296:=by omega
     subst e;have h1:4294967296*1≤4294967296*base:=Nat.mul_le_mul_left _ hb;have h2:4294967296*base≤m*base:=Nat.mul_le_mul_right _ (by omega)
     omega
   ·rw [if_neg hd,if_neg hd];rfl

def lid:Nat:=1099511627776

def rnumV (x:List UInt8):Option Nat:=
 if marked x then valC lid 16 0 (x.drop 2)
 else if 1<x.length∧x.head? = some 48 then valC lid 8 0 (x.drop 1)
 else if x=[] then none else valC lid 10 0 x

theorem rnumV_eq (x:List UInt8):numV x=(rnumV x).map fun k=>min k 4294967296:=by
 unfold numV rnumV;by_cases hm:marked x=true
 ·rw [if_pos hm,if_pos hm]
  exact valC_N lid 16 (by omega) (by decide) _ 0 0 rfl
 ·rw [if_neg hm,if_neg hm]
  match x with
  | []=>simp
  | [c]=>
    rw [if_neg (by simp)];simp only [List.cons_ne_nil,if_false]
    by_cases hc:c=48
    ·subst hc
     rw [if_pos rfl];rfl
    ·rw [if_neg hc]
     exact valC_N lid 10 (by omega) (by decide) _ 0 0 rfl
  | c::d::r=>
    simp only;by_cases hc:c=48
    ·subst hc
     rw [if_pos rfl,if_pos ⟨by simp,rfl⟩];exact valC_N lid 8 (by omega) (by decide) _ 0 0 rfl
    ·rw [if_neg hc,if_neg (by simp [hc])]
     simp only [reduceCtorEq,if_false]
     exact valC_N lid 10 (by omega) (by decide) _ 0 0 rfl

theorem rnumV_le (x:List UInt8) (n:Nat) (h:rnumV x=some n):n≤lid:=by
 unfold rnumV at h;split at h
 ·exact valC_le _ _ _ _ _ (by decide) h
 ·split at h
  ·exact valC_le _ _ _ _ _ (by decide) h
  ·split at h
   ·cases h
   ·exact valC_le _ _ _ _ _ (by decide) h

def rnumbered (x:List UInt8):Bool:=(decide (x≠[])&&x.all fun c=>decide (dig16 c<10))||(marked x&&(x.drop 2).all fun c=>decide (dig16 c<16))

theorem marked_form (x:List UInt8) (h:marked x=true): ∃ c r,x=48::c::r∧dig16 c=16:=by
 unfold marked Lib.hasPrefix at h;rw [Bool.or_eq_true,List.isPrefixOf_iff_prefix,List.isPrefixOf_iff_prefix] at h
 rcases h with ⟨t,rfl⟩ | ⟨t,rfl⟩
 ·exact ⟨120,t,rfl,by decide⟩
 ·exact ⟨88,t,rfl,by decide⟩

theorem rnumbered_eq (l:List UInt8):numberedV l=rnumbered (lastLab (noDot l)):=by
 unfold numberedV rnumbered;generalize lastLab (noDot l)=x;unfold valV;rw [valN_isSome,valN_isSome]
 cases hm:marked x with
 | true=>
   obtain ⟨c,r,rfl,hc⟩:=marked_form x hm
   simp [hc]
 | false=>simp

def fourL:Nat→Nat→List (List UInt8)→Option Nat
 | 0,_,_=>none
 | _+1,_,[]=>none
 | r+1,h,[x]=>match numV x with
   | none=>none
   | some n=>if n<2 ^ (8*(r+1)) then some (h*2 ^ (8*(r+1))+n) else none
 | r+1,h,x::y::L=>match numV x with
   | none=>none
   | some n=>if 255<n then none else fourL r (h*256+n) (y::L)

theorem fourN_L: ∀ (r h:Nat) (l:List UInt8),fourN r h l=fourL r h (cutL 46 l)
 | 0,h,l=>by cases cutL 46 l<;>rfl
 | r+1,h,l=>by
   rcases first_split 46 l with h1 | ⟨a,t,ha,rfl⟩
   ·rw [fourN,cut_none l 46 h1,cutL_none 46 l h1,fourL]
    cases numV l<;>rfl
   ·rw [fourN,cut_some a t 46 ha,cutL_some 46 a t ha]
    obtain ⟨y,L,hy⟩: ∃ y L,cutL 46 t=y::L:=by
     cases e:cutL 46 t with
     | nil=>exact absurd e (cutL_ne 46 t)
     | cons y L=>exact ⟨y,L,rfl⟩
    rw [hy,fourL]
    cases numV a with
    | none=>rfl
    | some n=>simp only [if_true];rw [fourN_L r (h*256+n) t,hy]

theorem fourV_L (l:List UInt8):fourV l=fourL 4 0 (labL l):=by
 rw [labL_eq,← fourN_L];rfl

theorem fourL_many: ∀ (r h:Nat) (L:List (List UInt8)),r<L.length→fourL r h L=none
 | 0,h,L,_=>by cases L<;>rfl
 | r+1,h,[],hl=>by simp at hl
 | r+1,h,[x],hl=>by simp at hl
 | r+1,h,x::y::L,hl=>by
   rw [fourL]
   cases numV x with
   | none=>rfl
   | some n=>
     simp only;rw [fourL_many r _ (y::L) (by simpa using hl)];simp

theorem fourL_bad: ∀ (r h:Nat) (L:List (List UInt8)) (x:List UInt8),x ∈ L→numV x=none→fourL r h L=none
 | 0,h,L,x,_,_=>by cases L<;>rfl
 | r+1,h,[],x,hx,_=>by simp at hx
 | r+1,h,[y],x,hx,hn=>by
   simp at hx;subst hx;rw [fourL,hn]
 | r+1,h,y::z::L,x,hx,hn=>by
   rw [fourL]
   cases hy:numV y with
   | none=>rfl
   | some n=>
     simp only;have hx':x ∈ z::L:=by
      rcases List.mem_cons.1 hx with rfl | h
      ·rw [hn] at hy;cases hy
      ·exact h
     rw [fourL_bad r _ (z::L) x hx' hn];simp

end Go.Proofs.YtolioccofbhliaaGreatDoor

namespace Go.Proofs.YtolioccofbhliaaGreatDoor
def ten (n d:Int):Int:=if (9223372036854775807 - d) / 10<n then 9223372036854775807 else n*10+d

def numI (l:List UInt8):Int:=l.foldl (fun n c=>ten n ((c.toNat:Int) - 48)) 0

def digP (c:UInt8):Bool:=digitI c.toNat

def intV (l:List UInt8):Int:=if l.all digP && !l.isEmpty then numI l else 0

def intOk (l:List UInt8):Bool:=l.all digP && !l.isEmpty

theorem numI_snoc (l:List UInt8) (c:UInt8):numI (l++[c])=ten (numI l) ((c.toNat:Int) - 48):=by simp [numI]

theorem ten_range (n d:Int) (h:0≤n∧n≤9223372036854775807) (hd:0≤d∧d≤9):0≤ten n d∧ten n d≤9223372036854775807:=by
 unfold ten;split<;>omega

theorem numI_range (l:List UInt8) (h:l.all digP=true):0≤numI l∧numI l≤9223372036854775807:=by
 suffices H: ∀ (l:List UInt8) (n:Int),0≤n∧n≤9223372036854775807→l.all digP=true→0≤l.foldl (fun n c=>ten n ((c.toNat:Int) - 48)) n∧l.foldl (fun n c=>ten n ((c.toNat:Int) - 48)) n≤9223372036854775807 from H l 0 (by omega) h
 intro l
 induction l with
 | nil=>intro n h _;exact h
 | cons c l ih=>
   intro n hn hall;simp only [List.all_cons,Bool.and_eq_true] at hall
   refine ih _ (ten_range n _ hn ?_) hall.2;have:=hall.1;simp [digP,digitI] at this
   omega

end Go.Proofs.YtolioccofbhliaaGreatDoor
