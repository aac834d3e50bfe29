/-
  Walks and plain facts that this claim leans on, put together out of 4 texts: Ybu, Ehi, Ejh, Ejf.
-/
import Derived.Test.YtolioccofbhliaaGreatDoorProg
import Derived.Test.YtolioccofbhliaaGreatDoorQp1
import Derived.Test.YtolioccofbhliaaGreatDoorQp2
import Derived.Test.YtolioccofbhliaaGreatDoorQp3
import Derived.Test.YtolioccofbhliaaGreatDoorQp4
import Derived.Test.YtolioccofbhliaaGreatDoorQp8
import Derived.Test.YtolioccofbhliaaGreatDoorQp11
import Derived.Test.YtolioccofbhliaaGreatDoorQp13
import Derived.Test.YtolioccofbhliaaGreatDoorQp14
import Derived.Test.YtolioccofbhliaaGreatDoorQp16
import Derived.Test.YtolioccofbhliaaGreatDoorQp17
import Derived.Test.YtolioccofbhliaaGreatDoorQp18
import Derived.Test.YtolioccofbhliaaGreatDoorQp19
import Derived.Test.YtolioccofbhliaaGreatDoorQp20
import Derived.WalkKit
import Derived.Deep.RegionHeld
import Derived.BigRegion
import Derived.Deep.RegionHeldLaw
import Derived.Lib.IndexAny
import Derived.Lib.UnsafeStr
import Derived.Lib.BufferRead
import Derived.Lib.RuneBytes
import Derived.Laws.RangeAny
import Derived.Deep.LoopGhost
import Derived.Maps.OwnSet
import Derived.Maps.OwnOps
import Derived.Maps.AppendAt
import Derived.StringKeys
import Derived.BigQuiet
import Derived.Deep.QuietTactic
import Derived.LoopN
import Derived.RegionTactic
import Derived.Deep.RegionLaw
import Derived.Deep.RegionWith
import Derived.WalkSpells
import Derived.WalkLawsBesides
import Derived.Lib.FieldsP
import Derived.Lib.DecodeN
import Derived.Lib.IndexMore
import Derived.Lib.Join
import Derived.Lib.SmallJoins
import Derived.Laws.CopyOwn
import Derived.Laws.ResultCell
import Derived.Deep.MidRow
import Derived.Laws.OwnMore
import Derived.Below
import Derived.WalkSmall
import Derived.Lib.LaidTab
import Derived.Lib.AppendIntMem
import Derived.Laws.AppendOwn
import Derived.Laws.Runes
import Derived.Lib.OthersKept
import Derived.Lib.FrozenHead2
import Derived.Lib.Builder
import Derived.Lib.AppendStr
import Derived.Lib.Replace
import Derived.Shelf.GgClosure.GivesRunes
import Derived.Laws.BitsAll
import Derived.Laws.Shifts
import Derived.Deep.DeepAppendRoom
import Derived.Laws.IdiomStrings
import Derived.Laws.BytesString
import Derived.Laws.CopyRow
import Derived.Sort.OwnSorted
import Derived.Lib.SlicesCompact
import Derived.Shelf.Slices.In.SortNone
import Derived.Shelf.Slices.CompactS
import Derived.Lib.SliceRun
import Derived.Lib.Strings
import Derived.Laws.BitsAllLaws
import Derived.Lib.Bytealg
import Derived.Lib.BufferMore
import Derived.Shelf.Strings.Builder1
import Derived.Shelf.Strings.Builder2
import Derived.Shelf.Strings.OnBuilder
import Derived.Shelf.Strings.Trim
import Derived.Shelf.Small.Utf8
import Derived.Shelf.Small.Bits
import Derived.Shelf.Small.Strs
import Derived.Shelf.Small.Wraps
import Derived.Shelf.Strings.BuilderF
import Derived.Shelf.Strings.BuilderK
import Derived.Shelf.Strings.Builder2Cap
import Derived.Shelf.Strconv.Itoa0
import Derived.Shelf.Strconv.Itoa1
import Derived.Shelf.LaysM
import Derived.Shelf.Strconv.Itoa2
import Derived.Shelf.Strconv.Itoa3
import Derived.Shelf.Strings.Search1
import Derived.Shelf.Strings.Search2
import Derived.Shelf.Strings.Cut
import Derived.Shelf.Strings.Shaped
import Derived.Shelf.Sort.Plain
import Derived.Shelf.Strings.Prefix
import Derived.Shelf.Strings.Runes
import Derived.Shelf.Strings.IndexAny
import Derived.Shelf.Strings.AsciiSet
import Derived.Shelf.Strings.IndexAnyAll
import Derived.Shelf.Unicode.DecodeSlow
import Derived.Shelf.Unicode.DecodeAny
import Derived.Shelf.Unicode.DecodeLast
import Derived.Ground.SlgnProg
import Derived.Shelf.SlicesE.Compact
import Derived.Ground.SlgfProg
import Derived.Shelf.SlicesE.IndexFunc
import Derived.Shelf.SlicesE.DeleteFunc
import Derived.Lib.SlTrimSet
import Derived.Shelf.Strings.SlTrimAscii
import Derived.Deep.CutRange
import Derived.Laws.Rows
import Derived.Laws.MakeOwn
import Derived.Deep.WholeRow
import Derived.Laws.AppendOwnNone
import Derived.Sort.KeysCollected
import Derived.Lib.Case
import Derived.Deep.Cut
import Derived.Lib.LastIndexByte
import Derived.OwnWalk
import Derived.Scope
import Derived.ScopeJumps
import Derived.WalkMore
import Derived.Lib.TrimByte
import Derived.Lib.ItoaNum
set_option linter.unusedSimpArgs false
set_option linter.unusedVariables false

namespace Go.Proofs.YtolioccofbhliaaGreatDoor
open Go.RowKit

section

variable {P : Program} {ops : Array Oper} {Q : Exit → Act → World → Prop} {md : Region.Mode} {S : World → Prop}

def AnyBut (P:Program) (md:Region.Mode) (ops:Array Oper) (Q:Exit→Act→World→Prop) (S:World→Prop) (n:Nat):Nat→Array Bool→Act→World→Prop
 | 0,listed,a,w=>Region.ready md ops listed=[]∧Q .normal a w
 | m+1,listed,a,w=>(Region.ready md ops listed=[]→Q .normal a w) ∧
   ∀ j ∈ Region.ready md ops listed,wpOp P ops Q j (fun a' w'=>(j≠n→S w')∧AnyBut P md ops Q S n m (listed.setIfInBounds j true) a' w') a w

theorem AnyBut.any {n:Nat}: ∀ (m:Nat) (listed:Array Bool) (a:Act) (w:World),AnyBut P md ops Q S n m listed a w→wpAny P md ops Q m listed a w:=by
 intro m
 induction m with
 | zero=>intro listed a w h;exact h
 | succ m ih=>intro listed a w h;exact ⟨h.1,fun j hj=>wpOp_mono (fun a' w' h'=>ih _ a' w' h'.2) (h.2 j hj)⟩

def waitsFor (md:Region.Mode) (ops:Array Oper) (n i:Nat):Bool:=match ops[n]? with
 | some o=>o.after.any fun e=>Region.binds md e&&e.on==i
 | none=>false

theorem not_ready {n i:Nat} (hw:waitsFor md ops n i=true) {listed:Array Bool} (hi:i ∈ Region.ready md ops listed):n ∉ Region.ready md ops listed:=by
 intro hn;obtain ⟨_,o,ho,hall⟩:=mem_ready.1 hn
 unfold waitsFor at hw;rw [ho] at hw;obtain ⟨k,hk,he⟩:=Array.any_eq_true.1 hw
 rw [Bool.and_eq_true] at he;have h1:=hall _ (Array.getElem_mem hk) he.1;have h2:o.after[k].on=i:=by simpa using he.2
 rw [h2] at h1;have h0:=(mem_ready.1 hi).1;rcases Nat.lt_or_ge i listed.size with h' | h'
 ·simp [h'] at h0 h1;rw [h0] at h1;cases h1
 ·simp [Array.getElem?_eq_none h'] at h1

theorem AnyBut.take {n i:Nat} {oi:Oper} {v:Value} (hi:ops[i]? = some oi) (hs:Region.noSelect ops=true) (hw:waitsFor md ops n i=true)
 (hQ: ∀ c a w,Q (.panic c) (a.put oi.dst v) w→Q (.panic c) a w):
 ∀ (m:Nat) (listed:Array Bool) (a:Act) (w:World),Region.free md ops listed i=true→(Region.ready md ops listed).contains i=true→YieldsIf P ops S oi v a→S w →
   AnyBut P md ops Q S n m (listed.setIfInBounds i true) (a.put oi.dst v) w→AnyBut P md ops Q S n (m+1) listed a w:=by
 have hsel:=Region.noSelect_spec hs
 suffices H: ∀ (m:Nat) (listed:Array Bool) (a:Act) (w:World),
  (∀ j oj,ops[j]? = some oj→j≠i→listed.getD j true=false→(∀ e ∈ oj.after,Region.binds md e=true→e.on≠i)→oi.apart ops oj=true)→i ∈ Region.ready md ops listed→YieldsIf P ops S oi v a→S w →
  AnyBut P md ops Q S n m (listed.setIfInBounds i true) (a.put oi.dst v) w→AnyBut P md ops Q S n (m+1) listed a w from
  fun m listed a w hf hr=>H m listed a w (Region.free_spec hi hf) (by simpa using hr)
 intro m
 induction m with
 | zero=>
   intro listed a w _ hr hy hS h;refine ⟨fun h0=>absurd hr (by rw [h0];simp),fun j hj=> ?_⟩;by_cases hji:j=i
   ·subst hji;exact hy.wpOp hi hS ⟨fun _=>hS,h⟩
   ·exact absurd (ready_mono hj hji) (by rw [h.1];simp)
 | succ m ih=>
   intro listed a w hf hr hy hS h;refine ⟨fun h0=>absurd hr (by rw [h0];simp),fun j hj=> ?_⟩;by_cases hji:j=i
   ·subst hji;exact hy.wpOp hi hS ⟨fun _=>hS,h⟩
   have hjn:j≠n:=fun e=>not_ready hw hr (e ▸ hj)
   obtain ⟨hun,oj,hoj,hall⟩:=mem_ready.1 hj
   have hno: ∀ e ∈ oj.after,Region.binds md e=true→e.on≠i:=by
    intro e he hb heq;have h1:=hall e he hb;have h0:=(mem_ready.1 hr).1;rw [heq] at h1;rcases Nat.lt_or_ge i listed.size with h' | h'
    ·simp [h'] at h0 h1;rw [h0] at h1;cases h1
    ·simp [Array.getElem?_eq_none h'] at h1
   have h2:=wpOp_putIf hoj (hf j oj hoj hji hun hno) (fun cs b=>hsel i oi cs b hi) (fun cs b=>hsel j oj cs b hoj) hQ hy (h.2 j (ready_mono hj hji));refine wpOp_mono (fun a' w' h3=> ?_) h2;have hS':=h3.2.1 hjn;refine ⟨fun _=>hS',ih _ a' w' ?_ (ready_mono hr (Ne.symm hji)) h3.1 hS' ?_⟩
   ·intro k ok hk hki hun' hno'
    refine hf k ok hk hki ?_ hno';by_cases hjk:j=k
    ·subst hjk;exact hun
    ·rw [getD_set_ne true hjk] at hun';exact hun'
   ·rw [Array.setIfInBounds_comm _ _ hji];exact h3.2.2

theorem AnyBut.one {n i m:Nat} {o:Oper} {listed:Array Bool} {a:Act} {w:World} (hr:Region.ready md ops listed=[i]) (ho:ops[i]? = some o)
 (h: ∀ K':Act→World→Prop,Shut (∀ a w,S w→AnyBut P md ops Q S n m (listed.setIfInBounds i true) a w→K' a w)→if Region.wanted o (yielded ops a.tmps)=true then Oper.wp P o a w K' Q else K' (a.put o.dst undef) w):
 AnyBut P md ops Q S n (m+1) listed a w:=by
 refine ⟨fun h0=>by rw [hr] at h0;simp at h0,fun j hj=> ?_⟩;rw [hr,List.mem_singleton] at hj
 subst hj;exact wpOp_step ho (fun K' hK=>h K' (fun a w hS hW=>hK a w ⟨fun _=>hS,hW⟩))

theorem AnyBut.last {n m:Nat} {o:Oper} {listed:Array Bool} {a:Act} {w:World} (hr:Region.ready md ops listed=[n]) (hr2:Region.ready md ops (listed.setIfInBounds n true)=[]) (ho:ops[n]? = some o)
 (h: ∀ K':Act→World→Prop,Shut (∀ a w,Q .normal a w→K' a w)→if Region.wanted o (yielded ops a.tmps)=true then Oper.wp P o a w K' Q else K' (a.put o.dst undef) w):
 AnyBut P md ops Q S n (m+1) listed a w:=by
 refine ⟨fun h0=>by rw [hr] at h0;simp at h0,fun j hj=> ?_⟩;rw [hr,List.mem_singleton] at hj
 subst hj;refine wpOp_step ho (fun K' hK=>h K' (fun a w hW=>hK a w ⟨fun h=>absurd rfl h,?_⟩))
 cases m with
 | zero=>exact ⟨hr2,hW⟩
 | succ m=>exact ⟨fun _=>hW,by rw [hr2];simp⟩

theorem AnyBut.start {id n:Nat} {a:Act} {w:World} (hm:P.follows .mixedOrders=true) (h:AnyBut P .any ops Q S n ops.size (Array.replicate ops.size false) a w.drew):(Code.region id ops true).wp P Q a w:=
 wp_region_any hm (AnyBut.any _ _ _ _ h)
end

end Go.Proofs.YtolioccofbhliaaGreatDoor

namespace Go.Proofs.YtolioccofbhliaaGreatDoor
open Go.RowKit

variable {G : Nat → Prop}

theorem step_append_own17 {P:Program} {ops:Array Oper} {o:Oper} {a:Act} {w:World} {K:Act→World→Prop} {Q:Exit→Act→World→Prop} {E:Prop} (hgd:o.guard=none) (s x:Operand) (t:TypeId)
 (ho:o.op = .call { callee:= .builtin .append,args:= #[s,x],argTypes:= #[t,t] })
 (base:Nat) (e:TypeId) (i:TypeInfo) (z:Value) (size bytes:Nat) (ht:P.underlying t=some (.slice e)) (hi:P.info? e=some i) (hz:i.zero=some z)
 (hsize:i.size=size) (hby:i.bytes=bytes) (hzs:z.cells.size=size) (hsz:0<size)
 (v:Value) (n:Nat) (xs:List Value) (hs:a.eval s=v) (hown:w.ownsRow base e size v n xs)
 (ad:Addr) (m c:Nat) (news:List Value) (hx:a.eval x = .slice (some ad) m c) (hl:news.length=m*size) (hnews: ∀ j u,news[j]? = some u→w.cell? (ad.add j)=some u) (h1: ∀ u ∈ news,u.oneCell'=true)
 (h63:n+m≤maxLen) (hbytes:(n+m)*bytes≤140737488355328) (hbase:base≤w.heap.size)
 (h: ∀ v' w',w'.ownsRow base e size v' (n+m) (xs++news)→w.grownBy w' v.ownBlock→(v' = .slice none 0 0 ↔ v = .slice none 0 0∧m=0)→K (a.put o.dst v') w'):
 if Region.wanted o (yielded ops a.tmps)=true then Oper.wp P o a w K Q else E:=by
 rw [if_pos (by simp [Region.wanted,hgd])];exact wp_append_own w s x t ho base e i z size bytes ht hi hz hsize hby hzs hsz v n xs hs hown ad m c news hx hl hnews h1 h63 hbytes hbase h

end Go.Proofs.YtolioccofbhliaaGreatDoor

namespace Go.Proofs.YtolioccofbhliaaGreatDoor
open Go.RowKit

theorem enters_putc: ∀ args w,(callFunc 142 args).run Tryz.prog w = .ok (.enter 142 args) w:=enters_of Tryz.func142 (by kernel_rfl) rfl

theorem TbI.store {w:World} {p n c:Nat} {a:Option Addr} {v:Value} {T:List RwP} (hrow:w.heap[p]? = some (.cells #[v] 145 (0,0))) (hown:w.ownsRow (p+1) 154 6 (.slice a n c) n (cellsR T)) (hn:n=T.length):TbI (w.setCell ⟨p,0,none⟩ (.slice a n c)) p T∧TqP p w (w.setCell ⟨p,0,none⟩ (.slice a n c)):=by
 subst hn;refine ⟨⟨a,c,Lib.heap_setCell_same hrow (i:=0) _,ownsRow_same hown fun g hg=>heap_setCell_other _ _ _ _ (fun e=> ?_)⟩,Tq.set hrow (.inr rfl) (Nat.le_refl _) 0 _⟩
 have:=(hown.lt g hg).1;have e:g=p:=e;omega

theorem tqp_grown {w w':World} {p n c:Nat} {a:Option Addr} {T:List RwP} (hown:w.ownsRow (p+1) 154 6 (.slice a n c) n (cellsR T)) (hg:w.grownBy w' (Value.slice a n c).ownBlock) (hp:p≤w.heap.size):TqP p w w':=Tq.grown hg (fun g hg'=>by
 obtain ⟨cur,hc⟩:=ownsRow_kind hown g hg'
 have:=(hown.lt g hg').1;exact ⟨by omega,cur,_,hc⟩) hp

theorem cutT_def (x:Rt) (T:List RwP):(T.filter fun z=> !(fun r:RwP=>decide (r.what=x)) z)=cutT x T:=rfl

theorem putT_a {x:Rt} {now age:Int} {T:List RwP} (h:age=0):putT x age now T=cutT x T:=by unfold putT;rw [if_pos h]

theorem putT_b {x:Rt} {now age E:Int} {T Z:List RwP} (h: ¬ age=0) (hE:E=now+age) (hZ:cutT x T=Z) (hl:Z.length+1≤32):putT x age now T=Z++[(⟨x,E⟩:RwP)]:=by
 unfold putT;rw [if_neg h,hZ,if_neg (by rw [List.length_append];simp;omega),hE]

theorem putT_c {x:Rt} {now age E:Int} {T Z:List RwP} (h: ¬ age=0) (hE:E=now+age) (hZ:cutT x T=Z) (hl:32<Z.length+1):putT x age now T=(Z++[(⟨x,E⟩:RwP)]).eraseIdx 0:=by
 unfold putT;rw [if_neg h,hZ,if_pos (by rw [List.length_append];simp;omega),hE]

set_option maxHeartbeats 8000000 in
set_option maxRecDepth 100000 in
theorem put19_any (p:Nat) (T:List RwP) (x:Rt) (age now:Int) (w:World) (hI:TbI w p T) (hl:T.length≤32) (h1:0≤now∧now≤4611686018427387904) (h2:0≤age∧age≤4611686018427387903):
 Calls Tryz.prog 89 #[.pointer (some ⟨p,0,none⟩),rtVal x,.int .i64 age,.int .i64 now] w fun e w'=>e = .returned (.tuple #[])∧TbI w' p (putT x age now T)∧TqP p w w':=by
 obtain ⟨i0,hi,hz0,hz1,hz2⟩:=info3 infoR19
 have HE:=hid (fun w=>end19_any now age w h1 h2);obtain ⟨E,hE⟩: ∃ E,E=now+age:=⟨_,rfl⟩
 rw [← hE] at HE;have HEq:=hid hE;obtain ⟨a0,c0,hrow0,hown0⟩:=hI
 have hp0:=(Array.getElem?_eq_some_iff.1 hrow0).1;obtain ⟨W1,hW1⟩: ∃ Y,w.alloc (.cells (rtCells x).toArray 150)=Y:=⟨_,rfl⟩
 have hb1:Below w.heap.size w W1:=by rw [← hW1];exact (Below.refl _ w).alloc (Nat.le_refl _) _
 have hr1:RtIn W1 w.heap.size x:=by rw [← hW1];exact heap_alloc_new w _
 have hrow1:=(hb1.block p hp0).trans hrow0;have hown1:=own_same hown0 hb1;have hne:(Value.slice a0 T.length c0).ownBlock≠some w.heap.size:=fun e=>by have:=(hown0.lt _ e).2;omega
 have hnp:some p≠(Value.slice a0 T.length c0).ownBlock:=fun e=>by have:=(hown0.lt _ e.symm).1;omega
 have HD:=hid (deleteF19_any 142 #[.pointer (some ⟨w.heap.size,0,none⟩)] enters_putc (fun r=>decide (r.what=x)) (.slice a0 T.length c0) T W1 (p+1) hown1 (by omega) (fun X z _ hX=>putc19_any w.heap.size x z X (hr1.grown hX hne)));rw [cutT_def] at HD;obtain ⟨Z,hZ⟩: ∃ Z,Z=cutT x T:=⟨_,rfl⟩
 have hzl:Z.length≤32:=by have:=cutT_len x T;rw [← hZ] at this;omega
 rw [← hZ] at HD;have HZ:=hid hZ.symm;obtain ⟨n,hn⟩: ∃ n,n=Z.length:=⟨_,rfl⟩
 rw [← hn] at HD hzl;have HN:=hid hn;have d0:W1.cell? ⟨p,0,none⟩=some (.slice a0 T.length c0):=by rw [Lib.cell_of_heap hrow1];rfl
 obtain ⟨n0,hn0⟩: ∃ n,n=T.length:=⟨_,rfl⟩
 rw [← hn0] at HD d0 hown1 hne hnp hrow1;have HA1:=hid (show TqP p w W1 from Tq.below hb1 (by omega));have HR1:=hid (And.intro hrow1 hown1);have HNe:=hid (And.intro hne hnp);have HX1:=hid hr1;have HPs:=hid (show p<W1.heap.size by have:=hb1.size;omega);have HAg:=hid h2;have HPl:=hid (show p<w.heap.size from hp0);obtain ⟨S2,U2,X2,c2,n2,hx⟩:=rt_five x
 have HXe:=hid hx;rw [hx] at hW1;rw [hx,rtVal_eq]
 rw [rtCells_eq] at hW1;clear hb1 hr1 hrow1 hown1 hne hnp hrow0 hown0 hp0 hZ hn hn0 hx hl h1 h2 hE
 go_enter Tryz.func89,Tryz.ntmps89
 go_wp2_with fail
 refine HD.out.mono ?_;rintro e w2 ⟨a,c,rfl,hown2,hg2,hsame2⟩
 have hrow2:=(hg2.block p HPs.out HNe.out.2).trans HR1.out.1;have hr2:=HX1.out.grown hg2 HNe.out.1;have hq2:TqP p w w2:=HA1.out.trans (tqp_grown HR1.out.2 hg2 (by have:=HPs.out;omega));obtain ⟨hI3,hq3⟩:=TbI.store hrow2 hown2 HN.out
 have e0:w2.cell? ⟨p,0,none⟩=some (.slice a0 n0 c0):=by rw [Lib.cell_of_heap hrow2];rfl
 have e1:w2.frozen? ⟨p,0,none⟩=false:=Lib.frozen_of_heap hrow2 0
 have hgb: ∀ g,(Value.slice a n c).ownBlock=some g→g<w.heap.size∧p<g:=fun g hg=>by
  have h:=hsame2 g hg;have h3:=HR1.out.2.lt g h;have h4:=HNe.out.1;have h5:g≠w.heap.size:=fun e=>h4 (by rw [h,e])
  have h6:W1.heap.size=w.heap.size+1:=by rw [← hW1];simp
  omega
 have HGb:=hid hgb;obtain ⟨W3,hW3⟩: ∃ Y,w2.setCell ⟨p,0,none⟩ (.slice a n c)=Y:=⟨_,rfl⟩
 rw [hW3] at hI3 hq3;have HI3:=hid hI3;have HQ3:=hid (hq2.trans hq3);have hrow3:W3.heap[p]? = some (.cells #[.slice a n c] 145 (0,0)):=by rw [← hW3];exact Lib.heap_setCell_same hrow2 (i:=0) _
 have hbox3:W3.heap[w.heap.size]? = some (.cells #[.string S2,.string U2,.bool c2,.bool n2,.string X2] 150 (0,0)):=by
  rw [← hW3,heap_setCell_other _ _ _ _ (by show w.heap.size≠p;have:=HPl.out;omega)];have h:=hr2;rw [HXe.out] at h;exact h
 have hown3:W3.ownsRow (p+1) 154 6 (.slice a n c) n (cellsR Z):=by
  rw [← hW3];exact ownsRow_same hown2 fun g hg=>heap_setCell_other _ _ _ _ (fun e=>by have:=(hown2.lt g hg).1;have e:g=p:=e;omega)
 have HRow:=hid hrow3;have HBox:=hid hbox3;have HOwn:=hid hown3;clear hI3 hq3 hrow2 hr2 hq2 hown2 hg2 hsame2 hrow3 hbox3 hown3 HD HR1 HX1 HNe hgb;by_cases hag:age=0
 ·have HP:=hid (putT_a (x:=x) (now:=now) (T:=T) hag)
  have HFin:=hid (show TbI W3 p (putT x age now T) by rw [HP.out,HZ.out];exact HI3.out);rw [HXe.out] at HFin;clear HP;subst hag
  go_wp2_with fail
  exact bodyPost_ret (results_none rfl _ _ _) rfl ⟨rfl,HFin.out,HQ3.out⟩
 ·have hag':(age==0)=false:=by simp [hag]
  have HAn:=hid hag;clear hag
  go_wp2_with fail
  have HS:=hid (show (fun wx:World=>wx.cell? ⟨p,0,none⟩=some (.slice a n c)∧wx.rangeAt (w.heap.size) 0 [.string S2,.string U2,.bool c2,.bool n2,.string X2]) W3.drew from ⟨by show W3.cell? _=_;rw [Lib.cell_of_heap HRow.out];rfl,range_row_Cb (cs:=[.string S2,.string U2,.bool c2,.bool n2,.string X2]) (show W3.drew.heap[w.heap.size]? = some (.cells ([.string S2,.string U2,.bool c2,.bool n2,.string X2]:List Value).toArray 150 (0,0)) from HBox.out)⟩)
  refine AnyBut.start (n:=14) (S:=(fun wx:World=>wx.cell? ⟨p,0,none⟩=some (.slice a n c)∧wx.rangeAt (w.heap.size) 0 [.string S2,.string U2,.bool c2,.bool n2,.string X2])) (by kernel_rfl) ?_
  refine' AnyBut.take (i:=0) (oi:=⟨some 19,_,_,_,_,_⟩) (v:=_) rfl (by kernel_rfl) (by kernel_rfl) (fun _ _ _ h=>h) _ _ _ _ (by kernel_rfl) (by kernel_rfl) (Or.inl ⟨by kernel_rfl,?hypt1⟩) HS.out ?restpt1
  case hypt1=>(intro wx hSw;(try dsimp only at hSw);obtain ⟨s0,_⟩:=hSw;go_simp;first | done | with_reducible rfl)
  (try simp only [Act.put,List.setIfInBounds_toArray,List.set_cons_zero,List.set_cons_succ])
  refine' AnyBut.take (i:=1) (oi:=⟨some 20,_,_,_,_,_⟩) (v:=_) rfl (by kernel_rfl) (by kernel_rfl) (fun _ _ _ h=>h) _ _ _ _ (by kernel_rfl) (by kernel_rfl) (Or.inl ⟨by kernel_rfl,?hypt2⟩) HS.out ?restpt2
  case hypt2=>(intro wx hSw;(try dsimp only at hSw);obtain ⟨s0,_⟩:=hSw;go_simp;first | done | with_reducible rfl)
  (try simp only [Act.put,List.setIfInBounds_toArray,List.set_cons_zero,List.set_cons_succ])
  refine' AnyBut.take (i:=2) (oi:=⟨some 21,_,_,_,_,_⟩) (v:=_) rfl (by kernel_rfl) (by kernel_rfl) (fun _ _ _ h=>h) _ _ _ _ (by kernel_rfl) (by kernel_rfl) (Or.inl ⟨by kernel_rfl,?hypt3⟩) HS.out ?restpt3
  case hypt3=>(intro wx hSw;(try dsimp only at hSw);obtain ⟨s0,_⟩:=hSw;go_simp;first | done | with_reducible rfl)
  (try simp only [Act.put,List.setIfInBounds_toArray,List.set_cons_zero,List.set_cons_succ])
  refine' AnyBut.take (i:=3) (oi:=⟨some 22,_,_,_,_,_⟩) (v:=_) rfl (by kernel_rfl) (by kernel_rfl) (fun _ _ _ h=>h) _ _ _ _ (by kernel_rfl) (by kernel_rfl) (Or.inl ⟨by kernel_rfl,?hypt4⟩) HS.out ?restpt4
  case hypt4=>(intro wx hSw;(try dsimp only at hSw);obtain ⟨s0,_⟩:=hSw;go_simp;first | done | with_reducible rfl)
  (try simp only [Act.put,List.setIfInBounds_toArray,List.set_cons_zero,List.set_cons_succ])
  refine' AnyBut.take (i:=4) (oi:=⟨some 23,_,_,_,_,_⟩) (v:=_) rfl (by kernel_rfl) (by kernel_rfl) (fun _ _ _ h=>h) _ _ _ _ (by kernel_rfl) (by kernel_rfl) (Or.inl ⟨by kernel_rfl,?hypt5⟩) HS.out ?restpt5
  case hypt5=>(intro wx hSw;(try dsimp only at hSw);obtain ⟨s0,_⟩:=hSw;go_simp;first | done | with_reducible rfl)
  (try simp only [Act.put,List.setIfInBounds_toArray,List.set_cons_zero,List.set_cons_succ])
  refine AnyBut.take (i:=5) (oi:=⟨some 24,_,_,_,_,_⟩) rfl (by kernel_rfl) (by kernel_rfl) (fun _ _ _ h=>h) _ _ _ _ (by kernel_rfl) (by kernel_rfl) (yieldsIf_load_mid (by kernel_rfl) 150 (.tmp 5) rfl (w.heap.size) 0 rfl [.string S2,.string U2,.bool c2,.bool n2,.string X2] _ (fun _ h=>h.2) Tryz.underlying150 rfl sizeRt19) HS.out ?_
  (try simp only [Act.put,List.setIfInBounds_toArray,List.set_cons_zero,List.set_cons_succ])
  refine' AnyBut.take (i:=6) (oi:=⟨some 25,_,_,_,_,_⟩) (v:=_) rfl (by kernel_rfl) (by kernel_rfl) (fun _ _ _ h=>h) _ _ _ _ (by kernel_rfl) (by kernel_rfl) (Or.inl ⟨by kernel_rfl,?hypt6⟩) HS.out ?restpt6
  case hypt6=>(intro wx hSw;(try dsimp only at hSw);obtain ⟨s0,_⟩:=hSw;go_simp;first | done | with_reducible rfl)
  (try simp only [Act.put,List.setIfInBounds_toArray,List.set_cons_zero,List.set_cons_succ])
  refine' AnyBut.take (i:=7) (oi:=⟨some 26,_,_,_,_,_⟩) (v:=_) rfl (by kernel_rfl) (by kernel_rfl) (fun _ _ _ h=>h) _ _ _ _ (by kernel_rfl) (by kernel_rfl) (Or.inl ⟨by kernel_rfl,?hypt7⟩) HS.out ?restpt7
  case hypt7=>(intro wx hSw;(try dsimp only at hSw);obtain ⟨s0,_⟩:=hSw;go_simp;first | done | with_reducible rfl)
  (try simp only [Act.put,List.setIfInBounds_toArray,List.set_cons_zero,List.set_cons_succ])
  refine AnyBut.one (i:=8) (by kernel_rfl) rfl (fun K' hK=> ?_)
  rw [if_pos (by kernel_rfl)]
  go_simp
  go_wp2_with (go_at_call 143;refine (HE.out _).mono ?_;rintro e w9 ⟨rfl,hw9⟩;rw [hw9];clear hw9)
  refine hK.out _ _ HS.out ?_;clear hK K';refine AnyBut.one (i:=9) (by kernel_rfl) rfl (fun K' hK=> ?_)
  rw [if_pos (by kernel_rfl)]
  go_simp
  refine hK.out _ _ HS.out ?_;clear hK K';refine AnyBut.one (i:=10) (by kernel_rfl) rfl (fun K' hK=> ?_)
  rw [if_pos (by kernel_rfl)]
  go_simp
  have hb0:Below W3.heap.size W3 (W3.alloc (.cells #[.string S2,.string U2,.bool c2,.bool n2,.string X2,.int .i64 E] 154)).drew:=((Below.refl _ W3).alloc (Nat.le_refl _) _).drew;have HQ2:=hid hb0;have HRow2:=hid (show (W3.alloc (.cells #[.string S2,.string U2,.bool c2,.bool n2,.string X2,.int .i64 E] 154)).drew.heap[p]? = some (.cells #[.slice a n c] 145 (0,0)) from (hb0.block p (Array.getElem?_eq_some_iff.1 HRow.out).1).trans HRow.out)
  have HBox2:=hid (show (W3.alloc (.cells #[.string S2,.string U2,.bool c2,.bool n2,.string X2,.int .i64 E] 154)).drew.heap[w.heap.size]? = some (.cells #[.string S2,.string U2,.bool c2,.bool n2,.string X2] 150 (0,0)) from (hb0.block _ (Array.getElem?_eq_some_iff.1 HBox.out).1).trans HBox.out);have HOwn2:=hid (show (W3.alloc (.cells #[.string S2,.string U2,.bool c2,.bool n2,.string X2,.int .i64 E] 154)).drew.ownsRow (p+1) 154 6 (.slice a n c) n (cellsR Z) from own_same HOwn.out hb0)
  have HSz2:=hid (show (W3.alloc (.cells #[.string S2,.string U2,.bool c2,.bool n2,.string X2,.int .i64 E] 154)).drew.heap.size=W3.heap.size+1 by show (W3.alloc _).heap.size=_;simp);clear HS hb0;have HS:=hid (show (fun wx:World=>wx.cell? ⟨p,0,none⟩=some (.slice a n c)∧wx.rangeAt (w.heap.size) 0 [.string S2,.string U2,.bool c2,.bool n2,.string X2]) (W3.alloc (.cells #[.string S2,.string U2,.bool c2,.bool n2,.string X2,.int .i64 E] 154)).drew from ⟨by rw [Lib.cell_of_heap HRow2.out];rfl,range_row_Cb (cs:=[.string S2,.string U2,.bool c2,.bool n2,.string X2]) HBox2.out⟩)
  refine hK.out _ _ HS.out ?_;clear hK K';refine AnyBut.one (i:=11) (by kernel_rfl) rfl (fun K' hK=> ?_)
  refine step_append_own17 rfl (.tmp 23) (.tmp 29) 143 rfl (p+1) 154 i0 _ 6 72 Tryz.underlying143 hi hz0 hz1 hz2 rfl (by decide) (.slice a n c) n (cellsR Z) rfl HOwn2.out ⟨W3.heap.size,0,none⟩ 1 1 [.string S2,.string U2,.bool c2,.bool n2,.string X2,.int .i64 E] rfl rfl ?cap ?cbp (by unfold maxLen;omega) (by omega) (by have:=HSz2.out;have:=(Array.getElem?_eq_some_iff.1 HRow.out).1;omega) ?_
  case cap=>
   intro q u hq;rw [Addr.add_mid];exact range_row_Cb (cs:=[.string S2,.string U2,.bool c2,.bool n2,.string X2,.int .i64 E]) (heap_alloc_new W3 _) q u hq
  case cbp=>intro u hu;simp at hu;rcases hu with rfl | rfl | rfl | rfl | rfl | rfl<;>rfl
  intro v4 w4 hown4 hgrow4 hnil4;obtain ⟨g4,c4,rfl⟩: ∃ g4 c4,v4 = .slice (some ⟨g4,0,none⟩) (n+1) c4:=by
   rcases hown4.2 with ⟨_,h0⟩ | ⟨g,cap,cur,hv,_⟩
   ·omega
   ·exact ⟨g,cap,hv⟩
  have hown4':w4.ownsRow (p+1) 154 6 (.slice (some ⟨g4,0,none⟩) (n+1) c4) (n+1) (cellsR (Z++[⟨x,E⟩])):=by
   rw [cellsR_app,cellsR_one,HXe.out]
   exact hown4
  have HOw4:=hid hown4';have HGr4:=hid (show TqP p w w4 from (HQ3.out.trans (Tq.below HQ2.out (by have:=(Array.getElem?_eq_some_iff.1 HRow.out).1;omega))).trans (tqp_grown HOwn2.out hgrow4 (by have:=HSz2.out;have:=(Array.getElem?_eq_some_iff.1 HRow.out).1;omega)));have hblk:w4.heap[p]? = some (.cells #[.slice a n c] 145 (0,0)):=by
   rw [hgrow4.block p (Array.getElem?_eq_some_iff.1 HRow2.out).1 (fun e=>by have:=(HOwn2.out.lt p e.symm).1;omega)];exact HRow2.out
  have hbox4:w4.heap[w.heap.size]? = some (.cells #[.string S2,.string U2,.bool c2,.bool n2,.string X2] 150 (0,0)):=by
   rw [hgrow4.block _ (Array.getElem?_eq_some_iff.1 HBox2.out).1 (fun e=>by have:=HGb.out _ e.symm;omega)];exact HBox2.out
  have HRow4:=hid hblk;have HSa:=hid (show (fun wx:World=>wx.cell? ⟨p,0,none⟩=some (.slice a n c)∧wx.rangeAt (w.heap.size) 0 [.string S2,.string U2,.bool c2,.bool n2,.string X2]) w4 from ⟨by rw [Lib.cell_of_heap hblk];rfl,range_row_Cb (cs:=[.string S2,.string U2,.bool c2,.bool n2,.string X2]) hbox4⟩);clear hown4 hown4' hgrow4 hnil4 hblk hbox4;refine hK.out _ _ HSa.out ?_;clear hK K' HS;have HS:=hid HSa.out;refine AnyBut.one (i:=12) (by kernel_rfl) rfl (fun K' hK=> ?_)
  rw [if_pos (by kernel_rfl)]
  go_simp
  refine hK.out _ _ HS.out ?_;clear hK K';refine AnyBut.one (i:=13) (by kernel_rfl) rfl (fun K' hK=> ?_)
  rw [if_pos (by kernel_rfl)]
  go_simp
  refine hK.out _ _ HS.out ?_;clear hK K';have f0:=HSa.out.1;have z0:w4.frozen? ⟨p,0,none⟩=false:=Lib.frozen_of_heap HRow4.out 0
  refine AnyBut.last (by kernel_rfl) (by kernel_rfl) rfl (fun K' hK=> ?_)
  rw [if_pos (by kernel_rfl)]
  go_simp
  go_wp2_with fail
  refine hK.out _ _ ?_;clear hK K';have hst:=TbI.store HRow4.out HOw4.out (by rw [List.length_append,← HN.out];rfl)
  obtain ⟨W5,hW5⟩: ∃ Y,w4.setCell ⟨p,0,none⟩ (.slice (some ⟨g4,0,none⟩) (n+1) c4)=Y:=⟨_,rfl⟩
  rw [hW5] at hst ⊢;have hrow5:W5.heap[p]? = some (.cells #[.slice (some ⟨g4,0,none⟩) (n+1) c4] 145 (0,0)):=by rw [← hW5];exact Lib.heap_setCell_same HRow4.out (i:=0) _
  have hown5:W5.ownsRow (p+1) 154 6 (.slice (some ⟨g4,0,none⟩) (n+1) c4) (n+1) (cellsR (Z++[⟨x,E⟩])):=by
   rw [← hW5];exact ownsRow_same HOw4.out fun g hg=>heap_setCell_other _ _ _ _ (fun e=>by have:=(HOw4.out.lt g hg).1;have e:g=p:=e;omega)
  have HSt:=hid hst.1;have HQ5:=hid (HGr4.out.trans hst.2);have HRw5:=hid hrow5;have HOn5:=hid hown5;have d5:W5.cell? ⟨p,0,none⟩=some (.slice (some ⟨g4,0,none⟩) (n+1) c4):=by rw [Lib.cell_of_heap hrow5];rfl
  clear f0 z0 HS HSa hst hrow5 hown5 e0 e1 d0 hW5 hW3 hW1;by_cases h32:n+1≤32
  ·have h32': ¬ 32<((n:Int)+1):=by omega
   have HP:=hid (putT_b (x:=x) (T:=T) HAn.out HEq.out HZ.out (by have:=HN.out;omega))
   go_wp2_with fail
   go_end0
   refine ⟨rfl,?_,HQ5.out⟩
   rw [← HXe.out,HP.out];exact HSt.out
  ·have h32':32<((n:Int)+1):=by omega
   have HP:=hid (putT_c (x:=x) (T:=T) HAn.out HEq.out HZ.out (by have:=HN.out;omega));have hlz:(Z++[(⟨x,E⟩:RwP)]).length=n+1:=by rw [List.length_append,← HN.out];rfl
   have HDl:=delete19_any g4 c4 0 1 rfl (Z++[(⟨x,E⟩:RwP)]) W5 (p+1) (by rw [hlz];exact HOn5.out) (by omega) (by omega)
   rw [hlz] at HDl;have HDe:=hid (show Calls Tryz.prog 144 #[.slice (some ⟨g4,0,none⟩) (n+1) c4,.int .i64 0,.int .i64 1] W5 _ from HDl);clear HDl
   go_wp2_with fail
   refine HDe.out.mono ?_;rintro e w6 ⟨rfl,hown6,hg6⟩
   have hq6:TqP p w w6:=HQ5.out.trans (tqp_grown HOn5.out hg6 (by have:=(Array.getElem?_eq_some_iff.1 HRw5.out).1;omega));have hrow6:=(hg6.block p (Array.getElem?_eq_some_iff.1 HRw5.out).1 (fun e=>by have:=(HOn5.out.lt p e.symm).1;omega)).trans HRw5.out;have hst:=TbI.store hrow6 hown6 (by rw [List.length_eraseIdx,hlz];rw [if_pos (by omega)])
   have HF:=hid (show TbI (w6.setCell ⟨p,0,none⟩ (.slice (some ⟨g4,0,none⟩) (n+1 - 1) c4)) p (putT x age now T)∧TqP p w (w6.setCell ⟨p,0,none⟩ (.slice (some ⟨g4,0,none⟩) (n+1 - 1) c4)) by rw [HP.out];exact ⟨hst.1,hq6.trans hst.2⟩);have f0:w6.cell? ⟨p,0,none⟩=some (.slice (some ⟨g4,0,none⟩) (n+1) c4):=by rw [Lib.cell_of_heap hrow6];rfl
   have z0:w6.frozen? ⟨p,0,none⟩=false:=Lib.frozen_of_heap hrow6 0
   obtain ⟨m6,hm6⟩: ∃ m,m=n+1 - 1:=⟨_,rfl⟩
   rw [← hm6] at HF ⊢;clear hown6 hg6 hq6 hrow6 hst hlz hm6
   go_wp2_with fail
   go_end0
   rw [← HXe.out];exact ⟨rfl,HF.out.1,HF.out.2⟩

end Go.Proofs.YtolioccofbhliaaGreatDoor

namespace Go.Proofs.YtolioccofbhliaaGreatDoor
open Go.RowKit

def nAM:List UInt8:=[97,99,99,101,115,115,45,99,111,110,116,114,111,108,45,97,108,108,111,119,45,109,101,116,104,111,100,115]

def nAH:List UInt8:=[97,99,99,101,115,115,45,99,111,110,116,114,111,108,45,97,108,108,111,119,45,104,101,97,100,101,114,115]

def nMA:List UInt8:=[97,99,99,101,115,115,45,99,111,110,116,114,111,108,45,109,97,120,45,97,103,101]

def tksV (L:List Hd) (n:List UInt8):List (List UInt8):=(pcsV L n).filter tokL

def grM (L:List Hd):List (List UInt8):=srtN (tksV L nAM)

def grN (L:List Hd):List (List UInt8):=srtN ((tksV L nAH).map low)

def ageI (t:List UInt8):Int:=if intOk t=true then min (intV t) 7200 else 5

def grA (L:List Hd):Int:=ageI (getT L nMA)

structure Grn where
 M:List (List UInt8)
 N:List (List UInt8)
 all:Bool
 age:Int

def Grn.nil:Grn:=⟨[],[],false,0⟩

def rdB (t:List UInt8) (c:Bool) (m:List UInt8) (Q:List (List UInt8)) (st:Int) (L:List Hd):Bool:=
 decide (200≤st)&&(decide (st≤299)&&(chkC t c L&&okV c m Q (fun x=>(grM L).contains x) (fun x=>(grN L).contains x)))

def allG (c:Bool) (L:List Hd):Bool:= !c&&(grN L).contains [42]

def rdG (t:List UInt8) (c:Bool) (m:List UInt8) (Q:List (List UInt8)) (st:Int) (L:List Hd):Grn:=
 if rdB t c m Q st L=true then ⟨grM L,grN L,allG c L,grA L⟩ else Grn.nil

theorem mem_srt19 (X:List (List UInt8)) (n:List UInt8):n ∈ srtN X ↔ n ∈ X:=(srtN_facts X).2.1 n

theorem grN_low (L:List Hd): ∀ n ∈ grN L,low n=n:=by
 intro n hn;unfold grN at hn;rw [mem_srt19] at hn;obtain ⟨a,_,rfl⟩:=List.mem_map.1 hn
 exact low_low18 a

theorem ageI_range (t:List UInt8):0≤ageI t∧ageI t≤7200:=by
 unfold ageI;split
 ·have:=(intV_range_Efa t).1
  omega
 ·omega

theorem grA_range (L:List Hd):0≤grA L∧grA L≤7200:=ageI_range _

theorem allG_mem (c:Bool) (L:List Hd) (h:allG c L=true):[42] ∈ grN L:=by
 unfold allG at h;simp only [Bool.and_eq_true,List.contains_iff_mem] at h
 exact h.2

theorem rdB_ok {t:List UInt8} {c:Bool} {m:List UInt8} {Q:List (List UInt8)} {st:Int} {L:List Hd} (h:rdB t c m Q st L=true):okV c m Q (fun x=>(grM L).contains x) (fun x=>(grN L).contains x)=true:=by
 unfold rdB at h;simp only [Bool.and_eq_true] at h;exact h.2.2.2

theorem tks_len (L:List Hd) (n:List UInt8):(tksV L n).length≤(pcsV L n).length:=List.length_filter_le _ _

theorem tks_szd {L:List Hd} {n:List UInt8} {k:Nat} (h: ∀ p ∈ pcsV L n,p.length≤k): ∀ p ∈ tksV L n,p.length≤k:=fun p hp=>h p (List.mem_filter.1 hp).1

end Go.Proofs.YtolioccofbhliaaGreatDoor
