/-
  Walks and plain facts that this claim leans on, put together out of 2 texts: Ybu, Ehi.
-/
import Derived.Test.YtpopljcmkbchcaaGreatDoorProg
import Derived.Test.YtpopljcmkbchcaaGreatDoorQt1
import Derived.Test.YtpopljcmkbchcaaGreatDoorQt2
import Derived.Test.YtpopljcmkbchcaaGreatDoorQt3
import Derived.Test.YtpopljcmkbchcaaGreatDoorQt4
import Derived.Test.YtpopljcmkbchcaaGreatDoorQt5
import Derived.Test.YtpopljcmkbchcaaGreatDoorQt6
import Derived.Test.YtpopljcmkbchcaaGreatDoorQt7
import Derived.Test.YtpopljcmkbchcaaGreatDoorQt8
import Derived.Test.YtpopljcmkbchcaaGreatDoorQt9
import Derived.WalkKit
import Derived.Deep.RegionHeld
import Derived.BigRegion
import Derived.Deep.RegionHeldLaw
import Derived.Lib.IndexAny
import Derived.Lib.UnsafeStr
import Derived.Lib.BufferRead
import Derived.Lib.RuneBytes
import Derived.Laws.RangeAny
import Derived.Deep.LoopGhost
import Derived.Maps.OwnSet
import Derived.Maps.OwnOps
import Derived.Maps.AppendAt
import Derived.StringKeys
import Derived.BigQuiet
import Derived.Deep.QuietTactic
import Derived.LoopN
import Derived.RegionTactic
import Derived.Deep.RegionLaw
import Derived.Deep.RegionWith
import Derived.WalkSpells
import Derived.WalkLawsBesides
import Derived.Lib.FieldsP
import Derived.Lib.DecodeN
import Derived.Lib.IndexMore
import Derived.Lib.Join
import Derived.Lib.SmallJoins
import Derived.Laws.CopyOwn
import Derived.Laws.ResultCell
import Derived.Deep.MidRow
import Derived.Laws.OwnMore
import Derived.Below
import Derived.WalkSmall
import Derived.Lib.LaidTab
import Derived.Lib.AppendIntMem
import Derived.Laws.AppendOwn
import Derived.Laws.Runes
import Derived.Lib.OthersKept
import Derived.Lib.FrozenHead2
import Derived.Lib.Builder
import Derived.Lib.AppendStr
import Derived.Lib.Replace
import Derived.Shelf.GgClosure.GivesRunes
import Derived.Laws.BitsAll
import Derived.Laws.Shifts
import Derived.Deep.DeepAppendRoom
import Derived.Laws.IdiomStrings
import Derived.Laws.BytesString
import Derived.Laws.CopyRow
import Derived.Sort.OwnSorted
import Derived.Lib.SlicesCompact
import Derived.Shelf.Slices.In.SortNone
import Derived.Shelf.Slices.CompactS
import Derived.Lib.SliceRun
import Derived.Lib.Strings
import Derived.Laws.BitsAllLaws
import Derived.Lib.Bytealg
import Derived.Lib.BufferMore
import Derived.Shelf.Strings.Builder1
import Derived.Shelf.Strings.Builder2
import Derived.Shelf.Strings.OnBuilder
import Derived.Shelf.Strings.Trim
import Derived.Shelf.Small.Utf8
import Derived.Shelf.Small.Bits
import Derived.Shelf.Small.Strs
import Derived.Shelf.Small.Wraps
import Derived.Shelf.Strings.BuilderF
import Derived.Shelf.Strings.BuilderK
import Derived.Shelf.Strings.BuilderRune
import Derived.Shelf.Utf8.AppendRune
import Derived.Shelf.Utf8.AppendRunePlain
import Derived.Shelf.Strings.Builder2Cap
import Derived.Shelf.Strconv.Itoa0
import Derived.Shelf.Strconv.Itoa1
import Derived.Shelf.LaysM
import Derived.Shelf.Strconv.Itoa2
import Derived.Shelf.Strconv.Itoa3
import Derived.Shelf.Strings.Search1
import Derived.Shelf.Strings.Search2
import Derived.Shelf.Strings.Cut
import Derived.Shelf.Strings.Shaped
import Derived.Shelf.Sort.Plain
import Derived.Shelf.Strings.Prefix
import Derived.Shelf.Unicode.Latin
import Derived.Shelf.Strings.Runes
import Derived.Shelf.Strings.IndexAny
import Derived.Shelf.Strings.AsciiSet
import Derived.Shelf.Strings.IndexAnyAll
import Derived.Shelf.Unicode.DecodeSlow
import Derived.Shelf.Unicode.DecodeAny
import Derived.Shelf.Unicode.DecodeLast
import Derived.Shelf.Unicode.CaseLookup
import Derived.Shelf.Unicode.CaseConvert
import Derived.Shelf.Unicode.CaseTo
import Derived.Shelf.Unicode.CaseLaid
import Derived.Lib.SlTrimSet
import Derived.Shelf.Strings.SlTrimAscii
import Derived.Deep.CutRange
import Derived.Laws.Rows
import Derived.Laws.MakeOwn
import Derived.Deep.WholeRow
import Derived.Laws.AppendOwnNone
set_option linter.unusedSimpArgs false
set_option linter.unusedVariables false

namespace Go.Proofs.YtpopljcmkbchcaaGreatDoor
open Go.RowKit

section

variable {P : Program} {ops : Array Oper} {Q : Exit → Act → World → Prop} {md : Region.Mode} {S : World → Prop}

def AnyBut (P:Program) (md:Region.Mode) (ops:Array Oper) (Q:Exit→Act→World→Prop) (S:World→Prop) (n:Nat):Nat→Array Bool→Act→World→Prop
 | 0,listed,a,w=>Region.ready md ops listed=[]∧Q .normal a w
 | m+1,listed,a,w=>(Region.ready md ops listed=[]→Q .normal a w) ∧
   ∀ j ∈ Region.ready md ops listed,wpOp P ops Q j (fun a' w'=>(j≠n→S w')∧AnyBut P md ops Q S n m (listed.setIfInBounds j true) a' w') a w

theorem AnyBut.any {n:Nat}: ∀ (m:Nat) (listed:Array Bool) (a:Act) (w:World),AnyBut P md ops Q S n m listed a w→wpAny P md ops Q m listed a w:=by
 intro m
 induction m with
 | zero=>intro listed a w h;exact h
 | succ m ih=>intro listed a w h;exact ⟨h.1,fun j hj=>wpOp_mono (fun a' w' h'=>ih _ a' w' h'.2) (h.2 j hj)⟩

def waitsFor (md:Region.Mode) (ops:Array Oper) (n i:Nat):Bool:=match ops[n]? with
 | some o=>o.after.any fun e=>Region.binds md e&&e.on==i
 | none=>false

theorem not_ready {n i:Nat} (hw:waitsFor md ops n i=true) {listed:Array Bool} (hi:i ∈ Region.ready md ops listed):n ∉ Region.ready md ops listed:=by
 intro hn;obtain ⟨_,o,ho,hall⟩:=mem_ready.1 hn
 unfold waitsFor at hw;rw [ho] at hw;obtain ⟨k,hk,he⟩:=Array.any_eq_true.1 hw
 rw [Bool.and_eq_true] at he;have h1:=hall _ (Array.getElem_mem hk) he.1;have h2:o.after[k].on=i:=by simpa using he.2
 rw [h2] at h1;have h0:=(mem_ready.1 hi).1;rcases Nat.lt_or_ge i listed.size with h' | h'
 ·simp [h'] at h0 h1;rw [h0] at h1;cases h1
 ·simp [Array.getElem?_eq_none h'] at h1

theorem AnyBut.take {n i:Nat} {oi:Oper} {v:Value} (hi:ops[i]? = some oi) (hs:Region.noSelect ops=true) (hw:waitsFor md ops n i=true)
 (hQ: ∀ c a w,Q (.panic c) (a.put oi.dst v) w→Q (.panic c) a w):
 ∀ (m:Nat) (listed:Array Bool) (a:Act) (w:World),Region.free md ops listed i=true→(Region.ready md ops listed).contains i=true→YieldsIf P ops S oi v a→S w →
   AnyBut P md ops Q S n m (listed.setIfInBounds i true) (a.put oi.dst v) w→AnyBut P md ops Q S n (m+1) listed a w:=by
 have hsel:=Region.noSelect_spec hs
 suffices H: ∀ (m:Nat) (listed:Array Bool) (a:Act) (w:World),
  (∀ j oj,ops[j]? = some oj→j≠i→listed.getD j true=false→(∀ e ∈ oj.after,Region.binds md e=true→e.on≠i)→oi.apart ops oj=true)→i ∈ Region.ready md ops listed→YieldsIf P ops S oi v a→S w →
  AnyBut P md ops Q S n m (listed.setIfInBounds i true) (a.put oi.dst v) w→AnyBut P md ops Q S n (m+1) listed a w from
  fun m listed a w hf hr=>H m listed a w (Region.free_spec hi hf) (by simpa using hr)
 intro m
 induction m with
 | zero=>
   intro listed a w _ hr hy hS h;refine ⟨fun h0=>absurd hr (by rw [h0];simp),fun j hj=> ?_⟩;by_cases hji:j=i
   ·subst hji;exact hy.wpOp hi hS ⟨fun _=>hS,h⟩
   ·exact absurd (ready_mono hj hji) (by rw [h.1];simp)
 | succ m ih=>
   intro listed a w hf hr hy hS h;refine ⟨fun h0=>absurd hr (by rw [h0];simp),fun j hj=> ?_⟩;by_cases hji:j=i
   ·subst hji;exact hy.wpOp hi hS ⟨fun _=>hS,h⟩
   have hjn:j≠n:=fun e=>not_ready hw hr (e ▸ hj)
   obtain ⟨hun,oj,hoj,hall⟩:=mem_ready.1 hj
   have hno: ∀ e ∈ oj.after,Region.binds md e=true→e.on≠i:=by
    intro e he hb heq;have h1:=hall e he hb;have h0:=(mem_ready.1 hr).1;rw [heq] at h1;rcases Nat.lt_or_ge i listed.size with h' | h'
    ·simp [h'] at h0 h1;rw [h0] at h1;cases h1
    ·simp [Array.getElem?_eq_none h'] at h1
   have h2:=wpOp_putIf hoj (hf j oj hoj hji hun hno) (fun cs b=>hsel i oi cs b hi) (fun cs b=>hsel j oj cs b hoj) hQ hy (h.2 j (ready_mono hj hji));refine wpOp_mono (fun a' w' h3=> ?_) h2;have hS':=h3.2.1 hjn;refine ⟨fun _=>hS',ih _ a' w' ?_ (ready_mono hr (Ne.symm hji)) h3.1 hS' ?_⟩
   ·intro k ok hk hki hun' hno'
    refine hf k ok hk hki ?_ hno';by_cases hjk:j=k
    ·subst hjk;exact hun
    ·rw [getD_set_ne true hjk] at hun';exact hun'
   ·rw [Array.setIfInBounds_comm _ _ hji];exact h3.2.2

theorem AnyBut.one {n i m:Nat} {o:Oper} {listed:Array Bool} {a:Act} {w:World} (hr:Region.ready md ops listed=[i]) (ho:ops[i]? = some o)
 (h: ∀ K':Act→World→Prop,Shut (∀ a w,S w→AnyBut P md ops Q S n m (listed.setIfInBounds i true) a w→K' a w)→if Region.wanted o (yielded ops a.tmps)=true then Oper.wp P o a w K' Q else K' (a.put o.dst undef) w):
 AnyBut P md ops Q S n (m+1) listed a w:=by
 refine ⟨fun h0=>by rw [hr] at h0;simp at h0,fun j hj=> ?_⟩;rw [hr,List.mem_singleton] at hj
 subst hj;exact wpOp_step ho (fun K' hK=>h K' (fun a w hS hW=>hK a w ⟨fun _=>hS,hW⟩))

theorem AnyBut.last {n m:Nat} {o:Oper} {listed:Array Bool} {a:Act} {w:World} (hr:Region.ready md ops listed=[n]) (hr2:Region.ready md ops (listed.setIfInBounds n true)=[]) (ho:ops[n]? = some o)
 (h: ∀ K':Act→World→Prop,Shut (∀ a w,Q .normal a w→K' a w)→if Region.wanted o (yielded ops a.tmps)=true then Oper.wp P o a w K' Q else K' (a.put o.dst undef) w):
 AnyBut P md ops Q S n (m+1) listed a w:=by
 refine ⟨fun h0=>by rw [hr] at h0;simp at h0,fun j hj=> ?_⟩;rw [hr,List.mem_singleton] at hj
 subst hj;refine wpOp_step ho (fun K' hK=>h K' (fun a w hW=>hK a w ⟨fun h=>absurd rfl h,?_⟩))
 cases m with
 | zero=>exact ⟨hr2,hW⟩
 | succ m=>exact ⟨fun _=>hW,by rw [hr2];simp⟩

theorem AnyBut.start {id n:Nat} {a:Act} {w:World} (hm:P.follows .mixedOrders=true) (h:AnyBut P .any ops Q S n ops.size (Array.replicate ops.size false) a w.drew):(Code.region id ops true).wp P Q a w:=
 wp_region_any hm (AnyBut.any _ _ _ _ h)
end

end Go.Proofs.YtpopljcmkbchcaaGreatDoor

namespace Go.Proofs.YtpopljcmkbchcaaGreatDoor
open Go.RowKit

variable {G : Nat → Prop}

theorem step_append_own17 {P:Program} {ops:Array Oper} {o:Oper} {a:Act} {w:World} {K:Act→World→Prop} {Q:Exit→Act→World→Prop} {E:Prop} (hgd:o.guard=none) (s x:Operand) (t:TypeId)
 (ho:o.op = .call { callee:= .builtin .append,args:= #[s,x],argTypes:= #[t,t] })
 (base:Nat) (e:TypeId) (i:TypeInfo) (z:Value) (size bytes:Nat) (ht:P.underlying t=some (.slice e)) (hi:P.info? e=some i) (hz:i.zero=some z)
 (hsize:i.size=size) (hby:i.bytes=bytes) (hzs:z.cells.size=size) (hsz:0<size)
 (v:Value) (n:Nat) (xs:List Value) (hs:a.eval s=v) (hown:w.ownsRow base e size v n xs)
 (ad:Addr) (m c:Nat) (news:List Value) (hx:a.eval x = .slice (some ad) m c) (hl:news.length=m*size) (hnews: ∀ j u,news[j]? = some u→w.cell? (ad.add j)=some u) (h1: ∀ u ∈ news,u.oneCell'=true)
 (h63:n+m≤maxLen) (hbytes:(n+m)*bytes≤140737488355328) (hbase:base≤w.heap.size)
 (h: ∀ v' w',w'.ownsRow base e size v' (n+m) (xs++news)→w.grownBy w' v.ownBlock→(v' = .slice none 0 0 ↔ v = .slice none 0 0∧m=0)→K (a.put o.dst v') w'):
 if Region.wanted o (yielded ops a.tmps)=true then Oper.wp P o a w K Q else E:=by
 rw [if_pos (by simp [Region.wanted,hgd])];exact wp_append_own w s x t ho base e i z size bytes ht hi hz hsize hby hzs hsz v n xs hs hown ad m c news hx hl hnews h1 h63 hbytes hbase h

theorem CaI.mk17 {w:World} {p:Nat} {C:CaS} (hg:gMax<p) (h5:G5 w) (a:Option Addr) (n cap:Nat) (Z:List Zr) (hn:n=C.rows.length) (hrow:w.heap[p]? = some (.cells #[.slice a n cap,.int .i64 C.tn] 81 (0,0))) (hown:w.ownsRow (p+1) 92 7 (.slice a n cap) n (cellsZ Z)) (hz:Z.map (·.r)=C.rows) (hd: ∀ z ∈ Z,DenZ G w (p+1) w.heap.size z):CaI G w p w.heap.size C:=by
 subst hn;have:=(Array.getElem?_eq_some_iff.1 hrow).1;exact ⟨⟨by omega,Nat.le_refl _,hg,h5⟩,a,cap,Z,hrow,OwM.of hown,hz,hd⟩

theorem app17 {w W w4:World} {p g4 c4 n c:Nat} {a:Option Addr} {tn:Int} {Z:List Zr} {z:Zr} {C:CaS} (hg:gMax<p) (h5:G5 w) (hq:TqC p w W) (hp:p<W.heap.size)
 (hgr:W.grownBy w4 (Value.slice a n c).ownBlock) (hoW:W.ownsRow (p+1) 92 7 (.slice a n c) n (cellsZ Z))
 (hrow:w4.heap[p]? = some (.cells #[.slice a n c,.int .i64 tn] 81 (0,0))) (hown:w4.ownsRow (p+1) 92 7 (.slice (some ⟨g4,0,none⟩) (n+1) c4) (n+1) (cellsZ Z++zCells z))
 (hC:C.rows=Z.map (·.r)++[z.r]) (ht:C.tn=tn) (hn:n=Z.length) (hdZ: ∀ x ∈ Z,DenZ G w (p+1) w.heap.size x) (hdz:DenZ G w (p+1) w.heap.size z):
 CaI G (w4.setCell ⟨p,0,none⟩ (.slice (some ⟨g4,0,none⟩) (n+1) c4)) p (w4.setCell ⟨p,0,none⟩ (.slice (some ⟨g4,0,none⟩) (n+1) c4)).heap.size C∧TqC p w (w4.setCell ⟨p,0,none⟩ (.slice (some ⟨g4,0,none⟩) (n+1) c4)):=by
 have h1:TqC p W w4:=Tq.grown hgr (fun g hg'=>by
  obtain ⟨cur,hc⟩:=ownsRow_kind hoW g hg'
  have:=(hoW.lt g hg').1;exact ⟨by omega,cur,_,hc⟩) (by omega)
 have h2:TqC p w4 (w4.setCell ⟨p,0,none⟩ (.slice (some ⟨g4,0,none⟩) (n+1) c4)):=Tq.set hrow (.inr rfl) (Nat.le_refl _) 0 _;have hT:=(hq.trans h1).trans h2;refine ⟨?_,hT⟩
 have hsz:w.heap.size≤(w4.setCell ⟨p,0,none⟩ (.slice (some ⟨g4,0,none⟩) (n+1) c4)).heap.size:=hT.1.size;refine CaI.mk17 hg (h5.low17 hg hT.1) (some ⟨g4,0,none⟩) (n+1) c4 (Z++[z]) (by rw [hC,hn];simp) ?_ ?_ (by rw [hC];simp) fun x hx=> ?_
 ·rw [ht];exact Lib.heap_setCell_same hrow (i:=0) _
 ·rw [cellsZ_app,cellsZ_one]
  refine ownsRow_same hown fun g hg'=>heap_setCell_other _ _ _ _ (fun e=> ?_)
  have:=(hown.lt g hg').1;have e:g=p:=e;omega
 ·rcases List.mem_append.1 hx with hx | hx
  ·exact ((hdZ x hx).tq hT).mono hsz
  ·rw [List.mem_singleton.1 hx];exact (hdz.tq hT).mono hsz

set_option maxHeartbeats 4000000 in
set_option maxRecDepth 100000 in
theorem store17k_any (p M:Nat) (C:CaS) (z:Zr) (now:Int) (w:World) (hI:CaI G w p M C) (hn:C.rows.length≤1000) (ht:0≤C.tn∧C.tn≤1000000) (hd:DenZ G w (p+1) w.heap.size z):
 Calls Tryz.prog 55 #[.pointer (some ⟨p,0,none⟩),zVal z,.int .i64 now] w fun e w'=>e = .returned (.tuple #[])∧CaI G w' p w'.heap.size ⟨C.rows++[⟨z.r.url,z.r.ch,z.r.rp,now,C.tn+1⟩],C.tn+1⟩∧TqC p w w' ∧ ∀ k,M≤k→k<w.heap.size→w'.heap[k]? = w.heap[k]? :=by
 obtain ⟨i0,hi,hz0,hz1,hz2⟩:=info3 infoRw
 obtain ⟨⟨h1,h2,h3,h5⟩,a,c,Z,hrow,hown,hZ,hden⟩:=hI
 obtain ⟨ca,cc,ha,hc,ba,bc,f1,f2,f3⟩:=hd.form
 obtain ⟨R,zc,zh,zb⟩:=z
 dsimp only at f1 f2 f3;subst f1 f2 f3;have HDz:=hid (show DenZ G w (p+1) w.heap.size ⟨⟨R.url,R.ch,R.rp,now,C.tn+1⟩,.slice ca R.ch.length cc,.slice ha R.rp.hd.length hc,.slice ba R.rp.bd.length bc⟩ from hd);have HDen:=hid (fun z hz=>(hden z hz).mono h2);obtain ⟨n,hnn⟩: ∃ n,n=C.rows.length:=⟨_,rfl⟩
 have HN:=hid (show n=Z.length by rw [hnn,← hZ];simp);rw [← hnn] at hrow hown hn;obtain ⟨tn,htn⟩: ∃ t,t=C.tn:=⟨_,rfl⟩
 rw [← htn] at hrow ht HDz;obtain ⟨U,hU⟩: ∃ U:ByteArray,(⟨R.url.toArray⟩:ByteArray)=U:=⟨_,rfl⟩
 obtain ⟨cn,hcn⟩: ∃ n,n=R.ch.length:=⟨_,rfl⟩
 obtain ⟨hn',hhn⟩: ∃ n,n=R.rp.hd.length:=⟨_,rfl⟩
 obtain ⟨bn,hbn⟩: ∃ n,n=R.rp.bd.length:=⟨_,rfl⟩
 obtain ⟨s1,hs1⟩: ∃ n,n=R.rp.st:=⟨_,rfl⟩
 obtain ⟨s2,hs2⟩: ∃ n,n=R.sto:=⟨_,rfl⟩
 obtain ⟨s3,hs3⟩: ∃ n,n=R.tn:=⟨_,rfl⟩
 rw [← hcn,← hhn,← hbn] at HDz ⊢;have HZc:=hid (show zCells ⟨⟨R.url,R.ch,R.rp,now,tn+1⟩,.slice ca cn cc,.slice ha hn' hc,.slice ba bn bc⟩=[.string U,.slice ca cn cc,.int .i64 s1,.slice ha hn' hc,.slice ba bn bc,.int .i64 now,.int .i64 (tn+1)] by unfold zCells;rw [← hU,← hs1]);have hv:zVal ⟨R,.slice ca cn cc,.slice ha hn' hc,.slice ba bn bc⟩ = .agg #[.string U,.slice ca cn cc,.int .i64 s1,.slice ha hn' hc,.slice ba bn bc,.int .i64 s2,.int .i64 s3]:=by unfold zVal zCells;rw [← hU,← hs1,← hs2,← hs3]
 rw [hv,← htn]
 dsimp only;have HC:=hid (show (⟨C.rows++[⟨R.url,R.ch,R.rp,now,tn+1⟩],tn+1⟩:CaS).rows=Z.map (·.r)++[(⟨⟨R.url,R.ch,R.rp,now,tn+1⟩,.slice ca cn cc,.slice ha hn' hc,.slice ba bn bc⟩:Zr).r] by rw [hZ]);have hpw:p<w.heap.size:=by omega
 obtain ⟨W1,hW1⟩: ∃ X,w.alloc (.cells #[.string U,.slice ca cn cc,.int .i64 s1,.slice ha hn' hc,.slice ba bn bc,.int .i64 s2,.int .i64 s3] 92)=X:=⟨_,rfl⟩
 have hb1:Below w.heap.size w W1:=by rw [← hW1];exact (Below.refl _ w).alloc (Nat.le_refl _) _
 have hs1':W1.heap.size=w.heap.size+1:=by rw [← hW1];simp
 have hbx1:W1.heap[w.heap.size]? = some (.cells #[.string U,.slice ca cn cc,.int .i64 s1,.slice ha hn' hc,.slice ba bn bc,.int .i64 s2,.int .i64 s3] 92 (0,0)):=by rw [← hW1];exact heap_alloc_new w _
 have hrow1:W1.heap[p]? = some (.cells #[.slice a n c,.int .i64 tn] 81 (0,0)):=by rw [hb1.block p hpw];exact hrow
 obtain ⟨W2,hW2⟩: ∃ X,W1.setCell ⟨p,1,none⟩ (.int .i64 (tn+1))=X:=⟨_,rfl⟩
 have hrow2:W2.heap[p]? = some (.cells #[.slice a n c,.int .i64 (tn+1)] 81 (0,0)):=by rw [← hW2];exact Lib.heap_setCell_same hrow1 (i:=1) _
 have hbx2:W2.heap[w.heap.size]? = some (.cells #[.string U,.slice ca cn cc,.int .i64 s1,.slice ha hn' hc,.slice ba bn bc,.int .i64 s2,.int .i64 s3] 92 (0,0)):=by rw [← hW2,heap_setCell_other _ _ _ _ (by show w.heap.size≠p;omega)];exact hbx1
 have hq2:TqC p w W2:=by rw [← hW2];exact (Tq.below hb1 (by omega)).trans (Tq.set hrow1 (.inr rfl) (Nat.le_refl _) 1 _)
 obtain ⟨W3,hW3⟩: ∃ X,X=((W2.setCell ⟨w.heap.size,5,none⟩ (.int .i64 now)).setCell ⟨w.heap.size,6,none⟩ (.int .i64 (tn+1))).drew:=⟨_,rfl⟩
 have hbx3:W3.heap[w.heap.size]? = some (.cells #[.string U,.slice ca cn cc,.int .i64 s1,.slice ha hn' hc,.slice ba bn bc,.int .i64 now,.int .i64 (tn+1)] 92 (0,0)):=by
  have e1:=Lib.heap_setCell_same hbx2 (i:=5) (.int .i64 now);rw [hW3];show ((W2.setCell ⟨w.heap.size,5,none⟩ (.int .i64 now)).setCell ⟨w.heap.size,6,none⟩ (.int .i64 (tn+1))).heap[w.heap.size]? = _;exact Lib.heap_setCell_same e1 (i:=6) _
 have hrow3:W3.heap[p]? = some (.cells #[.slice a n c,.int .i64 (tn+1)] 81 (0,0)):=by
  rw [hW3];show ((W2.setCell ⟨w.heap.size,5,none⟩ (.int .i64 now)).setCell ⟨w.heap.size,6,none⟩ (.int .i64 (tn+1))).heap[p]? = _;rw [heap_setCell_other _ _ _ _ (by show p≠w.heap.size;omega),heap_setCell_other _ _ _ _ (by show p≠w.heap.size;omega)];exact hrow2
 have hq3:TqC p w W3:=by
  refine hq2.trans ?_;rw [hW3];have e1:TqC p W2 ((W2.setCell ⟨w.heap.size,5,none⟩ (.int .i64 now)).setCell ⟨w.heap.size,6,none⟩ (.int .i64 (tn+1))):=(Tq.set hbx2 (.inl rfl) (by omega) 5 _).trans (Tq.set (Lib.heap_setCell_same hbx2 (i:=5) _) (.inl rfl) (by omega) 6 _);exact ⟨e1.1.drew,e1.2⟩
 have hgb: ∀ g,(Value.slice a n c).ownBlock=some g→g<w.heap.size:=fun g hg=>by have:=hown.2 g hg;omega
 have hown3:W3.ownsRow (p+1) 92 7 (.slice a n c) n (cellsZ Z):=by
  refine ownsRow_same hown.1 fun g hg=> ?_
  have h4:=hgb g hg;have h6:=(hown.1.lt g hg).1;rw [hW3];show ((W2.setCell ⟨w.heap.size,5,none⟩ (.int .i64 now)).setCell ⟨w.heap.size,6,none⟩ (.int .i64 (tn+1))).heap[g]? = _;rw [heap_setCell_other _ _ _ _ (by show g≠w.heap.size;omega),heap_setCell_other _ _ _ _ (by show g≠w.heap.size;omega)];show W2.heap[g]? = _;rw [← hW2,heap_setCell_other _ _ _ _ (by show g≠p;omega)];exact hb1.block g h4
 have HKp:=hid (fun k (hk1:M≤k) (hk2:k<w.heap.size)=>(show W3.heap[k]? = w.heap[k]? by
  rw [hW3];show ((W2.setCell ⟨w.heap.size,5,none⟩ (.int .i64 now)).setCell ⟨w.heap.size,6,none⟩ (.int .i64 (tn+1))).heap[k]? = _;rw [heap_setCell_other _ _ _ _ (by show k≠w.heap.size;omega),heap_setCell_other _ _ _ _ (by show k≠w.heap.size;omega),← hW2,heap_setCell_other _ _ _ _ (by show k≠p;omega)];exact hb1.block k hk2))
 have HGm:=hid (fun g (hg:(Value.slice a n c).ownBlock=some g)=>hown.2 g hg);have HPm:=hid h1;have HWs:=hid (show w.heap.size≤W3.heap.size from hq3.1.size);have HRow:=hid hrow3;have HOwn:=hid hown3;have HBox:=hid hbx3;have HGb:=hid hgb;have HNl:=hid hn;have HP5:=hid (show gMax<p∧G5 w∧TqC p w W3∧p<W3.heap.size from ⟨h3,h5,hq3,(Array.getElem?_eq_some_iff.1 hrow3).1⟩);have HW3:=hid hW3;have k1:W1.cell? ⟨p,1,none⟩=some (.int .i64 tn):=by rw [Lib.cell_of_heap hrow1];rfl
 have z1:W1.frozen? ⟨p,1,none⟩=false:=Lib.frozen_of_heap hrow1 1
 have HK2:=hid (show W2.cell? ⟨p,1,none⟩=some (.int .i64 (tn+1)) by rw [Lib.cell_of_heap hrow2];rfl);have HB5:=hid (show W2.cell? ⟨w.heap.size,5,none⟩=some (.int .i64 s2)∧W2.frozen? ⟨w.heap.size,5,none⟩=false from ⟨by rw [Lib.cell_of_heap hbx2];rfl,Lib.frozen_of_heap hbx2 5⟩);have HB6:=hid (show (W2.setCell ⟨w.heap.size,5,none⟩ (.int .i64 now)).cell? ⟨w.heap.size,6,none⟩=some (.int .i64 s3)∧(W2.setCell ⟨w.heap.size,5,none⟩ (.int .i64 now)).frozen? ⟨w.heap.size,6,none⟩=false from by
  have e1:=Lib.heap_setCell_same hbx2 (i:=5) (.int .i64 now);exact ⟨by rw [Lib.cell_of_heap e1];rfl,Lib.frozen_of_heap e1 6⟩)
 have HPw:=hid hpw;have ht1:tn+1≤9223372036854775807:=by omega
 have ht0: -9223372036854775808≤tn+1:=by omega
 clear hd hv hcn hhn hbn hs1 hs2 hs3 hU hden hZ hnn htn hown hrow hb1 hs1' hbx1 hrow1 hrow2 hbx2 hq2 hbx3 hrow3 hq3 hgb hown3 hW3 h1 h2 h3 h5 hpw
 go_enter Tryz.func55,Tryz.ntmps55
 have HQ0:=hid (show W2.drew.cell? ⟨p,1,none⟩=some (.int .i64 (tn+1)) from HK2.out)
 go_upto_region 2 with fail
 clear hW1 hW2 k1 z1;refine wp_region_held_drew (S:=(fun wx:World=>wx.cell? ⟨p,1,none⟩=some (.int .i64 (tn+1)))) (by kernel_rfl) HQ0.out (fun hHeld=> ?_)
 refine wpAnyH_to (fuel':=9) (listed':= #[false,false,false,false,false,false,false,false,false]) rfl rfl ?_
 refine' wpAnyH_take (i:=0) (oi:=⟨some 13,_,_,_,_,_⟩) (v:=_) rfl (by kernel_rfl) (by kernel_rfl) (by kernel_rfl) (fun _ _ _ h=>h) (Or.inl ⟨by kernel_rfl,?hyst1⟩) (by assumption) ?restst1
 case hyst1=>(intro wx hSw;(try dsimp only at hSw);go_simp;first | done | with_reducible rfl)
 (try simp only [Act.put,List.setIfInBounds_toArray,List.set_cons_zero,List.set_cons_succ])
 refine' wpAnyH_take (i:=1) (oi:=⟨some 14,_,_,_,_,_⟩) (v:=_) rfl (by kernel_rfl) (by kernel_rfl) (by kernel_rfl) (fun _ _ _ h=>h) (Or.inl ⟨by kernel_rfl,?hyst2⟩) (by assumption) ?restst2
 case hyst2=>(intro wx hSw;(try dsimp only at hSw);go_simp;first | done | with_reducible rfl)
 (try simp only [Act.put,List.setIfInBounds_toArray,List.set_cons_zero,List.set_cons_succ])
 refine' wpAnyH_take (i:=2) (oi:=⟨some 15,_,_,_,_,_⟩) (v:=_) rfl (by kernel_rfl) (by kernel_rfl) (by kernel_rfl) (fun _ _ _ h=>h) (Or.inl ⟨by kernel_rfl,?hyst3⟩) (by assumption) ?restst3
 case hyst3=>(intro wx hSw;(try dsimp only at hSw);go_simp;first | done | with_reducible rfl)
 (try simp only [Act.put,List.setIfInBounds_toArray,List.set_cons_zero,List.set_cons_succ])
 refine' wpAnyH_take (i:=3) (oi:=⟨some 16,_,_,_,_,_⟩) (v:=_) rfl (by kernel_rfl) (by kernel_rfl) (by kernel_rfl) (fun _ _ _ h=>h) (Or.inl ⟨by kernel_rfl,?hyst4⟩) (by assumption) ?restst4
 case hyst4=>(intro wx hSw;(try dsimp only at hSw);go_simp;first | done | with_reducible rfl)
 (try simp only [Act.put,List.setIfInBounds_toArray,List.set_cons_zero,List.set_cons_succ])
 refine' wpAnyH_take (i:=4) (oi:=⟨some 17,_,_,_,_,_⟩) (v:=_) rfl (by kernel_rfl) (by kernel_rfl) (by kernel_rfl) (fun _ _ _ h=>h) (Or.inl ⟨by kernel_rfl,?hyst5⟩) (by assumption) ?restst5
 case hyst5=>(intro wx hSw;(try dsimp only at hSw);go_simp;first | done | with_reducible rfl)
 (try simp only [Act.put,List.setIfInBounds_toArray,List.set_cons_zero,List.set_cons_succ])
 refine' wpAnyH_take (i:=5) (oi:=⟨some 18,_,_,_,_,_⟩) (v:=_) rfl (by kernel_rfl) (by kernel_rfl) (by kernel_rfl) (fun _ _ _ h=>h) (Or.inl ⟨by kernel_rfl,?hyst6⟩) (by assumption) ?restst6
 case hyst6=>(intro wx hSw;(try dsimp only at hSw);go_simp;first | done | with_reducible rfl)
 (try simp only [Act.put,List.setIfInBounds_toArray,List.set_cons_zero,List.set_cons_succ])
 obtain ⟨d5,z5⟩:=HB5.out
 refine wpAnyH_ready (rs:=[6]) (by kernel_rfl) (by simp) ?_
 refine AllReadyH.cons rfl (fun K9 hK=> ?_) AllReadyH.nil;rw [if_pos (by kernel_rfl)]
 go_simp
 have HQ1:=hid (show (W2.setCell ⟨w.heap.size,5,none⟩ (.int .i64 now)).cell? ⟨p,1,none⟩=some (.int .i64 (tn+1)) from by
  rw [World.cell?_setCell_other _ _ _ _ (by intro e;injection e with e _ _;have:=HPw.out;omega)];exact HQ0.out)
 refine hK.out _ _ HQ1.out (fun hHeld2=> ?_);clear hK K9 hHeld
 rename _=>hHeld
 clear d5 z5;obtain ⟨d6,z6⟩:=HB6.out
 refine' wpAnyH_take (i:=7) (oi:=⟨some 19,_,_,_,_,_⟩) (v:=_) rfl (by kernel_rfl) (by kernel_rfl) (by kernel_rfl) (fun _ _ _ h=>h) (Or.inl ⟨by kernel_rfl,?hyst7⟩) (by assumption) ?restst7
 case hyst7=>(intro wx hSw;(try dsimp only at hSw);go_simp;first | done | with_reducible rfl)
 (try simp only [Act.put,List.setIfInBounds_toArray,List.set_cons_zero,List.set_cons_succ])
 refine wpAnyH_ready (rs:=[8]) (by kernel_rfl) (by simp) ?_
 refine AllReadyH.cons rfl (fun K9 hK=> ?_) AllReadyH.nil;rw [if_pos (by kernel_rfl)]
 go_simp
 have HQ2:=hid (show ((W2.setCell ⟨w.heap.size,5,none⟩ (.int .i64 now)).setCell ⟨w.heap.size,6,none⟩ (.int .i64 (tn+1))).cell? ⟨p,1,none⟩=some (.int .i64 (tn+1)) from by
  rw [World.cell?_setCell_other _ _ _ _ (by intro e;injection e with e _ _;have:=HPw.out;omega)];exact HQ1.out)
 refine hK.out _ _ HQ2.out (fun hHeld2=> ?_);clear hK K9 hHeld
 rename _=>hHeld
 refine wpAnyH_done (by kernel_rfl) ?_ _
 clear d6 z6 hHeld HQ2 HQ1 HQ0;rw [← HW3.out]
 have HS:=hid (show (fun wx:World=>wx.cell? ⟨p,0,none⟩=some (.slice a n c)∧wx.rangeAt (w.heap.size) 0 [.string U,.slice ca cn cc,.int .i64 s1,.slice ha hn' hc,.slice ba bn bc,.int .i64 now,.int .i64 (tn+1)]) W3.drew from ⟨by show W3.cell? _=_;rw [Lib.cell_of_heap HRow.out];rfl,range_row_Cb (cs:=[.string U,.slice ca cn cc,.int .i64 s1,.slice ha hn' hc,.slice ba bn bc,.int .i64 now,.int .i64 (tn+1)]) (show W3.drew.heap[w.heap.size]? = some (.cells ([.string U,.slice ca cn cc,.int .i64 s1,.slice ha hn' hc,.slice ba bn bc,.int .i64 now,.int .i64 (tn+1)]:List Value).toArray 92 (0,0)) from HBox.out)⟩)
 go_upto_region 3 with fail
 refine AnyBut.start (n:=10) (S:=(fun wx:World=>wx.cell? ⟨p,0,none⟩=some (.slice a n c)∧wx.rangeAt (w.heap.size) 0 [.string U,.slice ca cn cc,.int .i64 s1,.slice ha hn' hc,.slice ba bn bc,.int .i64 now,.int .i64 (tn+1)])) (by kernel_rfl) ?_
 refine' AnyBut.take (i:=0) (oi:=⟨some 20,_,_,_,_,_⟩) (v:=_) rfl (by kernel_rfl) (by kernel_rfl) (fun _ _ _ h=>h) _ _ _ _ (by kernel_rfl) (by kernel_rfl) (Or.inl ⟨by kernel_rfl,?hyap1⟩) HS.out ?restap1
 case hyap1=>(intro wx hSw;(try dsimp only at hSw);obtain ⟨s0,_⟩:=hSw;go_simp;first | done | with_reducible rfl)
 (try simp only [Act.put,List.setIfInBounds_toArray,List.set_cons_zero,List.set_cons_succ])
 refine' AnyBut.take (i:=1) (oi:=⟨some 21,_,_,_,_,_⟩) (v:=_) rfl (by kernel_rfl) (by kernel_rfl) (fun _ _ _ h=>h) _ _ _ _ (by kernel_rfl) (by kernel_rfl) (Or.inl ⟨by kernel_rfl,?hyap2⟩) HS.out ?restap2
 case hyap2=>(intro wx hSw;(try dsimp only at hSw);obtain ⟨s0,_⟩:=hSw;go_simp;first | done | with_reducible rfl)
 (try simp only [Act.put,List.setIfInBounds_toArray,List.set_cons_zero,List.set_cons_succ])
 refine' AnyBut.take (i:=2) (oi:=⟨some 22,_,_,_,_,_⟩) (v:=_) rfl (by kernel_rfl) (by kernel_rfl) (fun _ _ _ h=>h) _ _ _ _ (by kernel_rfl) (by kernel_rfl) (Or.inl ⟨by kernel_rfl,?hyap3⟩) HS.out ?restap3
 case hyap3=>(intro wx hSw;(try dsimp only at hSw);obtain ⟨s0,_⟩:=hSw;go_simp;first | done | with_reducible rfl)
 (try simp only [Act.put,List.setIfInBounds_toArray,List.set_cons_zero,List.set_cons_succ])
 refine' AnyBut.take (i:=3) (oi:=⟨some 23,_,_,_,_,_⟩) (v:=_) rfl (by kernel_rfl) (by kernel_rfl) (fun _ _ _ h=>h) _ _ _ _ (by kernel_rfl) (by kernel_rfl) (Or.inl ⟨by kernel_rfl,?hyap4⟩) HS.out ?restap4
 case hyap4=>(intro wx hSw;(try dsimp only at hSw);obtain ⟨s0,_⟩:=hSw;go_simp;first | done | with_reducible rfl)
 (try simp only [Act.put,List.setIfInBounds_toArray,List.set_cons_zero,List.set_cons_succ])
 refine' AnyBut.take (i:=4) (oi:=⟨some 24,_,_,_,_,_⟩) (v:=_) rfl (by kernel_rfl) (by kernel_rfl) (fun _ _ _ h=>h) _ _ _ _ (by kernel_rfl) (by kernel_rfl) (Or.inl ⟨by kernel_rfl,?hyap5⟩) HS.out ?restap5
 case hyap5=>(intro wx hSw;(try dsimp only at hSw);obtain ⟨s0,_⟩:=hSw;go_simp;first | done | with_reducible rfl)
 (try simp only [Act.put,List.setIfInBounds_toArray,List.set_cons_zero,List.set_cons_succ])
 refine AnyBut.take (i:=5) (oi:=⟨some 25,_,_,_,_,_⟩) rfl (by kernel_rfl) (by kernel_rfl) (fun _ _ _ h=>h) _ _ _ _ (by kernel_rfl) (by kernel_rfl) (yieldsIf_load_mid (by kernel_rfl) 92 (.tmp 4) rfl (w.heap.size) 0 rfl [.string U,.slice ca cn cc,.int .i64 s1,.slice ha hn' hc,.slice ba bn bc,.int .i64 now,.int .i64 (tn+1)] _ (fun _ h=>h.2) Tryz.underlying92 rfl sizeRw) HS.out ?_
 (try simp only [Act.put,List.setIfInBounds_toArray,List.set_cons_zero,List.set_cons_succ])
 refine AnyBut.one (i:=6) (by kernel_rfl) rfl (fun K' hK=> ?_)
 rw [if_pos (by kernel_rfl)]
 go_simp
 have hb0:Below W3.heap.size W3 (W3.alloc (.cells #[.string U,.slice ca cn cc,.int .i64 s1,.slice ha hn' hc,.slice ba bn bc,.int .i64 now,.int .i64 (tn+1)] 92)).drew:=((Below.refl _ W3).alloc (Nat.le_refl _) _).drew;have HQ2:=hid hb0;have HRow2:=hid (show (W3.alloc (.cells #[.string U,.slice ca cn cc,.int .i64 s1,.slice ha hn' hc,.slice ba bn bc,.int .i64 now,.int .i64 (tn+1)] 92)).drew.heap[p]? = some (.cells #[.slice a n c,.int .i64 (tn+1)] 81 (0,0)) from (hb0.block p (Array.getElem?_eq_some_iff.1 HRow.out).1).trans HRow.out)
 have HBox2:=hid (show (W3.alloc (.cells #[.string U,.slice ca cn cc,.int .i64 s1,.slice ha hn' hc,.slice ba bn bc,.int .i64 now,.int .i64 (tn+1)] 92)).drew.heap[w.heap.size]? = some (.cells #[.string U,.slice ca cn cc,.int .i64 s1,.slice ha hn' hc,.slice ba bn bc,.int .i64 now,.int .i64 (tn+1)] 92 (0,0)) from (hb0.block _ (Array.getElem?_eq_some_iff.1 HBox.out).1).trans HBox.out)
 have HOwn2:=hid (show (W3.alloc (.cells #[.string U,.slice ca cn cc,.int .i64 s1,.slice ha hn' hc,.slice ba bn bc,.int .i64 now,.int .i64 (tn+1)] 92)).drew.ownsRow (p+1) 92 7 (.slice a n c) n (cellsZ Z) from own_same HOwn.out hb0);have HSz2:=hid (show (W3.alloc (.cells #[.string U,.slice ca cn cc,.int .i64 s1,.slice ha hn' hc,.slice ba bn bc,.int .i64 now,.int .i64 (tn+1)] 92)).drew.heap.size=W3.heap.size+1 by show (W3.alloc _).heap.size=_;simp);clear HS hb0
 have HS:=hid (show (fun wx:World=>wx.cell? ⟨p,0,none⟩=some (.slice a n c)∧wx.rangeAt (w.heap.size) 0 [.string U,.slice ca cn cc,.int .i64 s1,.slice ha hn' hc,.slice ba bn bc,.int .i64 now,.int .i64 (tn+1)]) (W3.alloc (.cells #[.string U,.slice ca cn cc,.int .i64 s1,.slice ha hn' hc,.slice ba bn bc,.int .i64 now,.int .i64 (tn+1)] 92)).drew from ⟨by rw [Lib.cell_of_heap HRow2.out];rfl,range_row_Cb (cs:=[.string U,.slice ca cn cc,.int .i64 s1,.slice ha hn' hc,.slice ba bn bc,.int .i64 now,.int .i64 (tn+1)]) HBox2.out⟩);refine hK.out _ _ HS.out ?_;clear hK K'
 refine AnyBut.one (i:=7) (by kernel_rfl) rfl (fun K' hK=> ?_)
 refine step_append_own17 rfl (.tmp 24) (.tmp 26) 79 rfl (p+1) 92 i0 _ 7 112 Tryz.underlying79 hi hz0 hz1 hz2 rfl (by decide) (.slice a n c) n (cellsZ Z) rfl HOwn2.out ⟨W3.heap.size,0,none⟩ 1 1 [.string U,.slice ca cn cc,.int .i64 s1,.slice ha hn' hc,.slice ba bn bc,.int .i64 now,.int .i64 (tn+1)] rfl rfl ?caap ?cbap (by unfold maxLen;have:=HNl.out;omega) (by have:=HNl.out;omega) (by have:=HSz2.out;have:=(Array.getElem?_eq_some_iff.1 HRow.out).1;omega) ?_
 case caap=>
  intro q u hq;rw [Addr.add_mid];exact range_row_Cb (cs:=[.string U,.slice ca cn cc,.int .i64 s1,.slice ha hn' hc,.slice ba bn bc,.int .i64 now,.int .i64 (tn+1)]) (heap_alloc_new W3 _) q u hq
 case cbap=>intro u hu;simp at hu;rcases hu with rfl | rfl | rfl | rfl | rfl | rfl | rfl<;>rfl
 intro v4 w4 hown4 hgrow4 hnil4;obtain ⟨g4,c4,rfl⟩: ∃ g4 c4,v4 = .slice (some ⟨g4,0,none⟩) (n+1) c4:=by
  rcases hown4.2 with ⟨_,h0⟩ | ⟨g,cap,cur,hv,_⟩
  ·omega
  ·exact ⟨g,cap,hv⟩
 have HOw4:=hid hown4;have HGr4:=hid (show W3.grownBy w4 (Value.slice a n c).ownBlock from grown_t17 (below_grown17 HQ2.out _) hgrow4);have hblk:w4.heap[p]? = some (.cells #[.slice a n c,.int .i64 (tn+1)] 81 (0,0)):=by
  rw [hgrow4.block p (Array.getElem?_eq_some_iff.1 HRow2.out).1 (fun e=>by have:=(HOwn2.out.lt p e.symm).1;omega)];exact HRow2.out
 have hbox4:w4.heap[w.heap.size]? = some (.cells #[.string U,.slice ca cn cc,.int .i64 s1,.slice ha hn' hc,.slice ba bn bc,.int .i64 now,.int .i64 (tn+1)] 92 (0,0)):=by
  rw [hgrow4.block _ (Array.getElem?_eq_some_iff.1 HBox2.out).1 (fun e=>by have:=HGb.out _ e.symm;omega)];exact HBox2.out
 have HRow4:=hid hblk;have HBox4:=hid hbox4;have HSa:=hid (show (fun wx:World=>wx.cell? ⟨p,0,none⟩=some (.slice a n c)∧wx.rangeAt (w.heap.size) 0 [.string U,.slice ca cn cc,.int .i64 s1,.slice ha hn' hc,.slice ba bn bc,.int .i64 now,.int .i64 (tn+1)]) w4 from ⟨by rw [Lib.cell_of_heap hblk];rfl,range_row_Cb (cs:=[.string U,.slice ca cn cc,.int .i64 s1,.slice ha hn' hc,.slice ba bn bc,.int .i64 now,.int .i64 (tn+1)]) hbox4⟩);clear hown4 hgrow4 hnil4 hblk hbox4;refine hK.out _ _ HSa.out ?_;clear hK K' HS;have HS:=hid HSa.out;refine AnyBut.one (i:=8) (by kernel_rfl) rfl (fun K' hK=> ?_)
 rw [if_pos (by kernel_rfl)]
 go_simp
 refine hK.out _ _ HS.out ?_;clear hK K';refine AnyBut.one (i:=9) (by kernel_rfl) rfl (fun K' hK=> ?_)
 rw [if_pos (by kernel_rfl)]
 go_simp
 refine hK.out _ _ HS.out ?_;clear hK K';have d0:=HSa.out.1;have z0:w4.frozen? ⟨p,0,none⟩=false:=Lib.frozen_of_heap HRow4.out 0
 refine AnyBut.last (by kernel_rfl) (by kernel_rfl) rfl (fun K' hK=> ?_)
 rw [if_pos (by kernel_rfl)]
 go_simp
 go_wp2_with fail
 refine hK.out _ _ ?_;clear hK K';clear d0 z0 HS HSa
 go_wp2_with fail
 go_end0
 rw [← HZc.out] at HOw4;have hfin:=app17 (w:=w) (W:=W3) (C:=⟨C.rows++[⟨R.url,R.ch,R.rp,now,tn+1⟩],tn+1⟩) (z:=⟨⟨R.url,R.ch,R.rp,now,tn+1⟩,.slice ca cn cc,.slice ha hn' hc,.slice ba bn bc⟩) HP5.out.1 HP5.out.2.1 HP5.out.2.2.1 HP5.out.2.2.2 HGr4.out HOwn.out HRow4.out HOw4.out HC.out rfl HN.out HDen.out HDz.out;refine ⟨rfl,hfin.1,hfin.2,fun k hk1 hk2=> ?_⟩
 rw [heap_setCell_other _ _ _ _ (by show k≠p;have:=HPm.out;omega),HGr4.out.block k (by have:=HWs.out;omega) (fun e=>by have:=HGm.out k e.symm;omega)];exact HKp.out k hk1 hk2

theorem store17_any (p M:Nat) (C:CaS) (z:Zr) (now:Int) (w:World) (hI:CaI G w p M C) (hn:C.rows.length≤1000) (ht:0≤C.tn∧C.tn≤1000000) (hd:DenZ G w (p+1) w.heap.size z):
 Calls Tryz.prog 55 #[.pointer (some ⟨p,0,none⟩),zVal z,.int .i64 now] w fun e w'=>e = .returned (.tuple #[])∧CaI G w' p w'.heap.size ⟨C.rows++[⟨z.r.url,z.r.ch,z.r.rp,now,C.tn+1⟩],C.tn+1⟩∧TqC p w w':=by
 refine (store17k_any p M C z now w hI hn ht hd).mono ?_;rintro e w' ⟨h1,h2,h3,_⟩
 exact ⟨h1,h2,h3⟩

end Go.Proofs.YtpopljcmkbchcaaGreatDoor
