/-
  Walks and plain facts that this claim leans on, put together out of 5 texts: Bkben, Bkbi, Ehx, Ehy, Ehz.
-/
import Derived.Test.YtpopljcmkbchcaaGreatDoorProg
import Derived.Test.YtpopljcmkbchcaaGreatDoorTie
import Derived.Test.YtpopljcmkbchcaaGreatDoorQt1
import Derived.Test.YtpopljcmkbchcaaGreatDoorQt2
import Derived.Test.YtpopljcmkbchcaaGreatDoorQt3
import Derived.Test.YtpopljcmkbchcaaGreatDoorQt4
import Derived.Test.YtpopljcmkbchcaaGreatDoorQt5
import Derived.Test.YtpopljcmkbchcaaGreatDoorQt6
import Derived.Test.YtpopljcmkbchcaaGreatDoorQt7
import Derived.Test.YtpopljcmkbchcaaGreatDoorQt8
import Derived.Test.YtpopljcmkbchcaaGreatDoorQt9
import Derived.Test.YtpopljcmkbchcaaGreatDoorQt10
import Derived.Test.YtpopljcmkbchcaaGreatDoorQt11
import Derived.Test.YtpopljcmkbchcaaGreatDoorQt13
import Derived.Test.YtpopljcmkbchcaaGreatDoorQt15
import Derived.Test.YtpopljcmkbchcaaGreatDoorQt16
import Derived.Test.YtpopljcmkbchcaaGreatDoorQt17
import Derived.Test.YtpopljcmkbchcaaGreatDoorQt18
import Derived.Deep.RegionLaw
import Derived.Deep.RegionHeld
import Derived.Deep.QuietTactic
import Derived.BigQuiet
import Derived.BigRegion
import Derived.WalkKit
import Derived.WalkSpells
import Derived.WalkLawsBesides
import Derived.Laws.CopyOwn
import Derived.Laws.ResultCell
import Derived.Deep.MidRow
import Derived.Lib.LaidTab
import Derived.Lib.SmallJoins
import Derived.Laws.BitsAll
import Derived.Lib.Strings
import Derived.Lib.UnsafeStr
import Derived.Laws.IdiomStrings
import Derived.Laws.AppendOwn
import Derived.Lib.BufferRead
import Derived.Lib.RuneBytes
import Derived.Laws.RangeAny
import Derived.Laws.OwnMore
import Derived.Below
import Derived.WalkSmall
import Derived.Lib.BufferMore
import Derived.Lib.FrozenHead2
import Derived.Lib.OthersKept
import Derived.Lib.Builder
import Derived.Deep.RegionHeldLaw
import Derived.Lib.IndexAny
import Derived.Deep.LoopGhost
import Derived.Maps.OwnSet
import Derived.Maps.OwnOps
import Derived.Maps.AppendAt
import Derived.StringKeys
import Derived.LoopN
import Derived.RegionTactic
import Derived.Deep.RegionWith
import Derived.Lib.FieldsP
import Derived.Lib.DecodeN
import Derived.Lib.IndexMore
import Derived.Lib.Join
import Derived.Lib.AppendIntMem
import Derived.Laws.Runes
import Derived.Lib.AppendStr
import Derived.Lib.Replace
import Derived.Shelf.GgClosure.GivesRunes
import Derived.Laws.Shifts
import Derived.Deep.DeepAppendRoom
import Derived.Laws.BytesString
import Derived.Laws.CopyRow
import Derived.Sort.OwnSorted
import Derived.Lib.SlicesCompact
import Derived.Deep.CutRange
import Derived.Shelf.Slices.In.SortNone
import Derived.Shelf.Slices.CompactS
import Derived.Lib.SliceRun
import Derived.Lib.ItoaLen
import Derived.Laws.BitsAllLaws
import Derived.Lib.Bytealg
import Derived.Shelf.Strings.Builder1
import Derived.Shelf.Strings.Builder2
import Derived.Shelf.Strings.OnBuilder
import Derived.Shelf.Strings.Trim
import Derived.Shelf.Small.Utf8
import Derived.Shelf.Small.Bits
import Derived.Shelf.Small.Strs
import Derived.Shelf.Small.Wraps
import Derived.Shelf.Strings.BuilderF
import Derived.Shelf.Strings.BuilderK
import Derived.Shelf.Strings.BuilderRune
import Derived.Shelf.Utf8.AppendRune
import Derived.Shelf.Utf8.AppendRunePlain
import Derived.Shelf.Strings.Builder2Cap
import Derived.Shelf.Strconv.Itoa0
import Derived.Shelf.Strconv.Itoa1
import Derived.Shelf.LaysM
import Derived.Shelf.Strconv.Itoa2
import Derived.Shelf.Strconv.Itoa3
import Derived.Shelf.Strings.Search1
import Derived.Shelf.Strings.Search2
import Derived.Shelf.Strings.Cut
import Derived.Shelf.Strings.Shaped
import Derived.Shelf.Sort.Plain
import Derived.Shelf.Strings.Prefix
import Derived.Shelf.Unicode.Latin
import Derived.Shelf.Strings.Runes
import Derived.Shelf.Strings.IndexAny
import Derived.Shelf.Strings.AsciiSet
import Derived.Shelf.Strings.IndexAnyAll
import Derived.Shelf.Unicode.DecodeSlow
import Derived.Shelf.Unicode.DecodeAny
import Derived.Shelf.Unicode.DecodeLast
import Derived.Shelf.Unicode.CaseLookup
import Derived.Shelf.Unicode.CaseConvert
import Derived.Shelf.Unicode.CaseTo
import Derived.Shelf.Unicode.CaseLaid
import Derived.Lib.SlTrimSet
import Derived.Shelf.Strings.SlTrimAscii
import Derived.Laws.Rows
import Derived.Laws.MakeOwn
import Derived.Deep.WholeRow
import Derived.Laws.AppendOwnNone
import Derived.Stop.LaidErr
import Derived.LaidMore
set_option linter.unusedSimpArgs false
set_option linter.unusedVariables false

namespace Go.Proofs.YtpopljcmkbchcaaGreatDoor
open Go.RowKit

set_option maxHeartbeats 4000000 in
set_option maxRecDepth 100000 in
theorem keepbn (B p:Nat) (h:Int) (A Y:Value) (xs ys:List Value) (w:World) (hbk:Bkb w B p h A Y xs ys) (hn:xs.length≤200) (hBw:B≤w.heap.size):
 Calls Tryz.prog 32 #[.pointer (some ⟨p,0,none⟩),Value.slice none 0 0] w fun e w'=>e = .returned (.tuple #[])∧KPb w' B p (xs++[Value.slice none 0 0])∧Bt 28 p B w w':=by
 obtain ⟨i0,hi,hz0,hz1,hz2⟩:=info_parts infoLsb
 obtain ⟨j0,ji,jz0,jz1,jz2⟩:=info_parts infoEb
 have HBK:=hid hbk;have HBP:=hid hbk.1;have hlt:=hbk.lt;have c0:w.cell? ⟨p,0,none⟩=some A:=cell_of_heapE hbk.2.2.1 0 _ rfl
 have HA:=hid hbk.2.2.2.1;clear hbk
 go_enter Tryz.func32,Tryz.ntmps32
 go_wp2_with (at_builtin;refine wpList_append_slw _ rfl _ _ 57 rfl B 28 i0 (.slice none 0 0) Tryz.underlying57 hi hz0 hz1 hz2 rfl A xs rfl (HA.out.alloc0 _) ⟨w.heap.size,0,none⟩ 1 (Value.slice none 0 0) rfl (by simp [Addr.add]) rfl (by omega) (by simp;omega) ?_)
 intro AA w2 hAA hgrow hwh;obtain ⟨a1,k1,hAe,hk1⟩:=hAA.form
 subst hAe;obtain ⟨N,hN⟩: ∃ N,N=(xs++[Value.slice none 0 0]).length:=⟨_,rfl⟩
 have HN:=hid hN;rw [← hN] at hAA hwh hk1 ⊢;obtain ⟨q1,q2,q3,q4,q5,q6,q7⟩:=add1b HBK.out hBw hAA hgrow (hwh.imp id fun ⟨k,e,hk⟩=>⟨k,e,by first | omega | (simp at hk;omega)⟩)
 have d0:w2.cell? ⟨p,0,none⟩=some A:=cell_of_heapE q1 0 _ rfl
 have f0:w2.frozen? ⟨p,0,none⟩=false:=Lib.frozen_of_heap q1 0
 clear hAA hgrow hwh c0 q1 hN
 go_wp2_with fail
 obtain ⟨w3,hw3⟩: ∃ w3,w3=w2.setCell ⟨p,0,none⟩ (.slice a1 N k1):=⟨_,rfl⟩
 rw [← hw3] at q2 q3 q4 q6 q7 ⊢;clear hw3 d0 f0;have c1:w3.cell? ⟨p,1,none⟩=some Y:=cell_of_heapE q2 1 _ rfl
 have HQ2:=hid q2;have HQ3:=hid q3;have HQ4:=hid q4;have HQ5:=hid q5;have HQ6:=hid q6;have HQ7:=hid q7;have hBw3:B≤w3.heap.size:=Nat.le_trans hBw q7.1.size;have hlt3:p<w3.heap.size:=(Array.getElem?_eq_some_iff.1 q2).1;have HYL:=hid (show ys.length=xs.length from HBK.out.2.1);have hyn:ys.length≤200:=by have:=HYL.out;omega
 clear q2 q3 q4 q5 q6 q7
 go_region_law (first | (refine step_append_slw rfl (.tmp 18) (.tmp 21) 57 rfl B 28 i0 (.slice none 0 0) Tryz.underlying57 hi hz0 hz1 hz2 rfl Y ys rfl (by exact HQ4.out.alloc0 _) ⟨w3.heap.size,0,none⟩ 1 (.slice none 0 0) rfl (by simp [Addr.add]) rfl (by omega) (by simp;omega) ?_;intro YY w5 hY5 hgrow5 hwh5;obtain ⟨a2,k2,hYe,hk2⟩:=hY5.form;rw [show (ys++[Value.slice none 0 0]).length=ys.length+1 by simp] at hYe;subst hYe;obtain ⟨r1,r2,r3,r4,r5,r6,r7,r8⟩:=add2b (w3:=w3) (w4:=w3) HBP.out HQ2.out HQ3.out HQ4.out HQ5.out hBw3 (World.grownBy.refl w3 none) (KpU.nil 1 5 w3 B) hY5 ⟨hgrow5.os,hgrow5.tape,hgrow5.output,hgrow5.size,hgrow5.block⟩ (hwh5.imp id fun ⟨k,e,hk⟩=>⟨k,e,by first | omega | (simp at hk;omega)⟩);have e1:=cell_of_heapE r1 1 Y rfl;have f1:=Lib.frozen_of_heap r1 1))
 all_goals
  have HBK6:=hid (add3b (n:=0) (L:=[]) HBK.out (KpU.nil 1 5 w B) (by decide) (fun a _=>by unfold AptV;cases a.ownBlock with | none=>exact .inl rfl | some k=>exact .inr (by simp [Value.ownBlock])) HQ6.out r6 r7 r2 r3 r4 r5);have HB6:=hid (HQ7.out.trans r8);obtain ⟨w6,hw6⟩: ∃ w6,w6=w5.setCell ⟨p,1,none⟩ (.slice a2 (ys.length+1) k2):=⟨_,rfl⟩
  rw [← hw6] at HBK6 HB6 ⊢;have c2:w6.cell? ⟨p,2,none⟩=some (.int .i64 h):=cell_of_heapE HBK6.out.2.2.1 2 _ rfl
  have f2:w6.frozen? ⟨p,2,none⟩=false:=Lib.frozen_of_heap HBK6.out.2.2.1 2
  clear hw6 r1 r2 r3 r4 r5 r6 r7 r8 e1 f1 hY5 hgrow5 hwh5 hk2 c1 HQ2 HQ3 HQ4 HQ5 HQ6 HQ7
  go_wp2_with fail
  obtain ⟨H,hH⟩: ∃ H,wrap64 (wrap64 h+1)=H:=⟨_,rfl⟩
  rw [hH];clear hH;have HBK7:=hid (HBK6.out.turn (heap_setCell_same w6 p 2 _ _ (.int .i64 H) HBK6.out.2.2.1) fun k _ hne=>heap_setCell_other w6 ⟨p,2,none⟩ k (.int .i64 H) hne);have HB7:=hid (HB6.out.set HBP.out 2 (.int .i64 H));obtain ⟨w7,hw7⟩: ∃ w7,w7=w6.setCell ⟨p,2,none⟩ (.int .i64 H):=⟨_,rfl⟩
  rw [← hw7] at HBK7 HB7 ⊢;clear hw7 c2 f2 HBK6 HB6;have HKP:=hid (show KPb w7 B p (xs++[Value.slice none 0 0]) from ⟨H,_,_,_,_,0,⟨by simp,rfl⟩,HBK7.out⟩);clear HBK7;refine wp_cut0 (kloopb B p (xs++[Value.slice none 0 0]) w w7 _ _ _ _ _ _ _ _ _ _ _ _ _ _ _ _ _ _ _ _ _ _ _ _ _ _ _ _ _ _ _ _ _ _ _ _ _ _ _ _ _ _ _ _ _ _ _ _ _ _ _ _ _ _ _ _ _ _ _ _ _ _ _ _ _ _ _ _ _ _ _ _ _ _ _ _ _ _ _ _ _ _ _ _ _ _ _ _ _ _ _ _ _ _ _ _ _ _ _ _ _ _ _ _ _ _ _ _ _ _ _ _ (by simp;omega) HKP HBP HB7 ?_)
  intro u36 u37 u38 u39 u40 u41 u42 u43 u44 u45 u46 u47 u48 u49 u50 u51 u52 u53 u54 u55 u56 u57 u58 u59 u60 u61 u62 u63 u64 u65 u66 u67 u68 u69 u70 u71 u72 u73 u74 u75 u76 u77 u78 u79 u80 u81 u82 u83 u84 u85 u86 u87 u88 u89 u90 u91 u92 u93 u94 u95 u96 u97 u98 u99 u100 u101 u102 u103 u104 u105 u106 u107 u108 u109 u110 u111 w8 hkp hbw;have HKP8:=hid hkp;have HBW8:=hid hbw;clear hkp hbw
  go_wp2_with fail
  go_end0
  exact ⟨rfl,HKP8.out,HBW8.out⟩

end Go.Proofs.YtpopljcmkbchcaaGreatDoor

namespace Go.Proofs.YtpopljcmkbchcaaGreatDoor
open Go.RowKit

def KBb (w:World) (B p n:Nat) (S:Nat→Prop):Prop:= ∃ (h:Int) (A Y:Value) (xs ys:List Value),xs.length≤n∧(∀ a ∈ xs,∀ g,a.ownBlock=some g→S g)∧Bkb w B p h A Y xs ys

theorem KBb.below {w w':World} {B p n:Nat} {S:Nat→Prop} (h:KBb w B p n S) (hb:Below w.heap.size w w'):KBb w' B p n S:=by
 obtain ⟨h1,A,Y,xs,ys,hl,hs,hbk⟩:=h
 exact ⟨h1,A,Y,xs,ys,hl,hs,hbk.below hb⟩

theorem KBb.more {w:World} {B p n m:Nat} {S S':Nat→Prop} (h:KBb w B p n S) (hm:n≤m) (hs: ∀ g,S g→S' g):KBb w B p m S':=by
 obtain ⟨h1,A,Y,xs,ys,hl,hS,hbk⟩:=h
 exact ⟨h1,A,Y,xs,ys,by omega,fun a ha g hg=>hs g (hS a ha g hg),hbk⟩

theorem KBb.apart {w w':World} {B p n:Nat} {S:Nat→Prop} (h:KBb w B p n S) (hk: ∀ k cur U fz,w.heap[k]? = some (Obj.cells cur U fz)→(U=5∨U=28∨k=p)→w'.heap[k]? = w.heap[k]?):KBb w' B p n S:=by
 obtain ⟨h1,A,Y,xs,ys,hl,hS,hbk⟩:=h
 exact ⟨h1,A,Y,xs,ys,hl,hS,hbk.apart hk⟩

theorem keepb (B p n m:Nat) (S:Nat→Prop) (v:Value) (X:List Int) (w:World) (hkb:KBb w B p n S) (hv:KpU 1 5 w B v m X) (hf: ∀ g,v.ownBlock=some g → ¬ S g) (hm:m≤1000) (hn:n≤200) (hBw:B≤w.heap.size):
 Calls Tryz.prog 32 #[.pointer (some ⟨p,0,none⟩),v] w fun e w'=>e = .returned (.tuple #[])∧KBb w' B p (n+1) (fun g=>S g∨v.ownBlock=some g)∧Bt 28 p B w w':=by
 obtain ⟨h,A,Y,xs,ys,hl,hS,hbk⟩:=hkb
 have hup: ∀ {w':World},KPb w' B p (xs++[v])→KBb w' B p (n+1) (fun g=>S g∨v.ownBlock=some g):=by
  rintro w' ⟨h1,A',Y',zs,ys',k,⟨hk,rfl⟩,hb⟩
  refine ⟨h1,A',Y',_,ys',by simp;omega,fun a ha g hg=> ?_,hb⟩
  rcases List.mem_append.1 (List.mem_of_mem_drop ha) with ha | ha
  ·exact .inl (hS a ha g hg)
  ·rw [List.mem_singleton.1 ha] at hg
   exact .inr hg
 rcases hv.2 with ⟨rfl,hz⟩ | ⟨g,o,cap,cur,rfl,hg,_⟩
 ·refine (keepbn B p h A Y xs ys w hbk (by omega) hBw).mono ?_
  rintro e w' ⟨rfl,hkp,hb'⟩
  exact ⟨rfl,hup hkp,hb'⟩
 ·refine (keepbs B p h A Y xs ys g o cap m X w hbk hv hm (fun a ha=> ?_) (by omega) hBw).mono ?_
  ·by_cases hna:a.ownBlock=none
   ·exact .inl hna
   ·right
    intro e;exact hf g rfl (hS a ha g e)
  ·rintro e w' ⟨rfl,hkp,hb'⟩
   exact ⟨rfl,hup hkp,hb'⟩

theorem bookb (w:World) (S:Nat→Prop):KBb (w.alloc (.cells #[.slice none 0 0,.slice none 0 0,.int .i64 0,.bool false] 59)) w.heap.size w.heap.size 0 S:=
 ⟨0,.slice none 0 0,.slice none 0 0,[],[],Nat.le_refl _,fun a ha=>by simp at ha,Nat.le_refl _,rfl,by (show (w.heap.push _)[w.heap.size]? = _;exact Array.getElem?_push_size),.inl ⟨rfl,rfl⟩,.inl ⟨rfl,rfl⟩,.inl rfl,fun i x y hx _=>by simp at hx,List.Pairwise.nil⟩

end Go.Proofs.YtpopljcmkbchcaaGreatDoor

namespace Go.Proofs.YtpopljcmkbchcaaGreatDoor
open Go.RowKit

variable {G G' : Nat → Prop}

theorem cellsB_cU (l:List UInt8):cellsB l=cU (l.map fun b=>(b.toNat:Int)):=by simp [cellsB,cU,Function.comp_def]

theorem OwM.hole {w:World} {B M:Nat} {T:TypeId} {k:Nat} {v:Value} {n:Nat} {xs:List Value} (h:OwM G w B M T k v n xs) (hG:T=45 → ∀ g,g<M→G g→G' g):OwM G' w B M T k v n xs:=⟨h.1,fun g hg=>⟨(h.2 g hg).1,fun e=>hG e g (h.2 g hg).1 ((h.2 g hg).2 e)⟩⟩

theorem CaI.hole {w:World} {p M:Nat} {C:CaS} (h:CaI G w p M C) (hG: ∀ g,g<M→G g→G' g):CaI G' w p M C:=by
 obtain ⟨k,a,cap,Z,c1,c2,c3,c4⟩:=h
 exact ⟨k,a,cap,Z,c1,c2.hole fun _=>hG,c3,fun z hz=>⟨(c4 z hz).1.hole fun _=>hG,(c4 z hz).2.1.hole fun _=>hG,(c4 z hz).2.2.hole fun _=>hG⟩⟩

theorem CaI.tq2 {F U:TypeId} {q:Nat} {w w':World} {p M:Nat} {C:CaS} (h:CaI G w p M C) (hq:Tq F U q w w') (hpq:p≤q) (h1:92≠F∧92≠U) (h2:81≠F∧81≠U) (h3:145≠F∧145≠U) (h4:45≠F∧45≠U) (h5:5≠F∧5≠U):CaI G w' p M C:=by
 obtain ⟨⟨g1,g2,g3,g4⟩,a,cap,Z,c1,c2,c3,c4⟩:=h
 exact ⟨⟨g1,Nat.le_trans g2 hq.1.size,g3,g4.low17 g3 (hq.1.mono hpq)⟩,a,cap,Z,(hq.2 _ _ _ _ c1 h2.1 h2.2).trans c1,hq.owm c2 h1.1 h1.2,c3,fun z hz=>⟨hq.owm (c4 z hz).1 h3.1 h3.2,hq.owm (c4 z hz).2.1 h4.1 h4.2,hq.owm (c4 z hz).2.2 h5.1 h5.2⟩⟩

theorem CaI.spoil {g1:Nat} {w w':World} {p M:Nat} {C:CaS} {cur:Array Value} {fz:Nat×Nat} (h:CaI (· ≠ g1) w p M C) (hh:w.heap[g1]? = some (.cells cur 45 fz)) (hb:w.grownBy w' (some g1)) (hp:p≤g1):CaI Tr17 w' p M C:=by
 obtain ⟨⟨k1,k2,k3,k4⟩,a,cap,Z,c1,c2,c3,c4⟩:=h
 have hq:Tq 45 45 p w w':=Tq.grown hb (fun g hg=>by injection hg with hg;subst hg;exact ⟨hp,cur,fz,hh⟩) (by omega)
 refine ⟨⟨k1,Nat.le_trans k2 hb.size,k3,k4.low17 k3 hq.1⟩,a,cap,Z,(hq.2 _ _ _ _ c1 (by decide) (by decide)).trans c1,(hq.owm c2 (by decide) (by decide)).hole fun _ _ _ _=>trivial,c3,fun z hz=>⟨(hq.owm (c4 z hz).1 (by decide) (by decide)).hole fun _ _ _ _=>trivial,?_,(hq.owm (c4 z hz).2.2 (by decide) (by decide)).hole fun _ _ _ _=>trivial⟩⟩
 have h2:=(c4 z hz).2.1;exact (h2.same fun g hg=>hb.block g (by have:=(h2.2 g hg).1;omega) (fun e=>(h2.2 g hg).2 rfl (by injection e))).hole fun _ _ _ _=>trivial

theorem bt_tq {T BT:TypeId} {q B:Nat} {w w':World} {cur:Array Value} {fz:Nat×Nat} (h:Bt T q B w w') (hq:w.heap[q]? = some (.cells cur BT fz)):Tq T BT B w w':=
 ⟨h.1,fun k cur' S fz' hk h1 h2=>h.2 k (Array.getElem?_eq_some_iff.1 hk).1 (kind_nf hk hq h2) (fun c f e=>by
   rw [hk] at e;injection e with e
   injection e with _ e _
   exact h1 e)⟩

theorem KBb.row {w:World} {B q n:Nat} {S:Nat→Prop} (h:KBb w B q n S): ∃ cur,w.heap[q]? = some (.cells cur 59 (0,0)):=by
 obtain ⟨h1,A,Y,xs,ys,_,_,hb⟩:=h
 exact ⟨_,hb.2.2.1⟩

theorem KBb.tq {F U:TypeId} {r:Nat} {w w':World} {B q n:Nat} {S:Nat→Prop} (h:KBb w B q n S) (hq:Tq F U r w w') (h1:5≠F∧5≠U) (h2:28≠F∧28≠U) (h3:59≠F∧59≠U):KBb w' B q n S:=by
 obtain ⟨c0,hc0⟩:=h.row
 refine h.apart fun k cur V fz hk hV=> ?_
 rcases hV with rfl | rfl | rfl
 ·exact hq.2 _ _ _ _ hk h1.1 h1.2
 ·exact hq.2 _ _ _ _ hk h2.1 h2.2
 ·exact hq.2 _ _ _ _ hc0 h3.1 h3.2

def FAt18 (G:Nat→Prop) (p:Nat) (C':CaS) (st s:Int) (L:List Hd) (l:List UInt8) (K:List Hd) (w:World) (e:Ending) (w':World):Prop:=
 ∃ a1 c1 a2 c2 a3 c3 M',e = .returned (.agg #[.int .i64 st,.int .i64 s,.slice a1 L.length c1,.slice a2 l.length c2,.slice a3 K.length c3])∧CaI G w' p M' C'∧w'.ownsRow M' 45 2 (.slice a1 L.length c1) L.length (cellsH L)∧w'.ownsRow M' 5 1 (.slice a2 l.length c2) l.length (cellsB l)∧TqC p w w'∧w.heap.size≤M'

theorem find_at18 (p M:Nat) (C C':CaS) (u:ByteArray) (vA:Value) (A:List Hd) (now st s:Int) (L K:List Hd) (l:List UInt8) (w:World) (hI:CaI G w p M C) (hG:CaG C) (hA:HdT w vA A) (hz:Szo A) (hgp:Gp17 w) (hnow:0≤now∧now≤4611686018427387904)
 (hf:findV Lib.itoa C u.data.toList A now=⟨st,⟨s,L,l⟩,K⟩) (hu:useV C u.data.toList A=C'):
 Calls Tryz.prog 17 #[.pointer (some ⟨p,0,none⟩),.string u,vA,.int .i64 now] w (FAt18 G p C' st s L l K w):=by
 refine (find17_any p M C u vA A now w hI hG hA hz hgp hnow).mono ?_;rintro e w' ⟨vh,vb,va,M',he,h1,h2,h3,h4,h5,h6⟩
 rw [hf] at he h2 h3 h4;rw [hu] at h1;dsimp only at he h2 h3 h4;obtain ⟨a1,c1,rfl⟩:=own_sl16 h2
 obtain ⟨a2,c2,rfl⟩:=own_sl16 h3
 obtain ⟨a3,c3,rfl⟩:=own_sl16 h4
 exact ⟨a1,c1,a2,c2,a3,c3,M',he,h1,h2,h3,h5,h6⟩

def RAt18 (G:Nat→Prop) (p:Nat) (C':CaS) (s:Int) (L:List Hd) (l:List UInt8) (b:Bool) (w:World) (e:Ending) (w':World):Prop:=
 ∃ a1 c1 a2 c2 M',e = .returned (.tuple #[.agg #[.int .i64 s,.slice a1 L.length c1,.slice a2 l.length c2],.bool b])∧CaI G w' p M' C'∧w'.ownsRow M' 45 2 (.slice a1 L.length c1) L.length (cellsH L)∧w'.ownsRow M' 5 1 (.slice a2 l.length c2) l.length (cellsB l)∧TqC p w w'∧w.heap.size≤M'

theorem renew_at18 (p M:Nat) (C C':CaS) (u:ByteArray) (vA:Value) (A:List Hd) (st:Int) (vh:Value) (rb:Option Addr) (rn rc:Nat) (B:List Hd) (now s:Int) (L:List Hd) (l:List UInt8) (b:Bool) (w:World) (hI:CaI G w p M C) (hG:CaG C) (hA:HdT w vA A) (hz:Szo A) (hB:HdT w vh B) (hzB:Szo B) (hN: ∀ g,w.heap.size≤g→G g)
 (hr:reRep C u.data.toList A B=(⟨s,L,l⟩,b)) (hC:reV C u.data.toList A B now=C'):
 Calls Tryz.prog 21 #[.pointer (some ⟨p,0,none⟩),.string u,vA,.agg #[.int .i64 st,vh,.slice rb rn rc],.int .i64 now] w (RAt18 G p C' s L l b w):=by
 refine (renew17_any p M C u vA A st vh rb rn rc B now w hI hG hA hz hB hzB hN).mono ?_;rintro e w' ⟨vh',vb,M',he,h1,h2,h3,h4,h5⟩
 rw [hr] at he h2 h3;rw [hC] at h1;dsimp only at he h2 h3;obtain ⟨a1,c1,rfl⟩:=own_sl16 h2
 obtain ⟨a2,c2,rfl⟩:=own_sl16 h3
 exact ⟨a1,c1,a2,c2,M',he,h1,h2,h3,h4,h5⟩

def kH5:List Hd:=[⟨CC17,sMax++[53]⟩]

def kC (bd:List UInt8) (k:Nat):CaS:=⟨[⟨uU,[],⟨200,kH5,bd⟩,0,(k:Int)+1⟩],(k:Int)+1⟩

theorem kept_ok17 (bd:List UInt8):putOk [] ⟨200,kH5,bd⟩=true:=by
 exact (by decide +kernel:(vrOk (pcsV kH5 nVy)&&decide ((200:Int)=200) && !(ctlV kH5).ns && !(ctlV []).ns)=true)

theorem kept_put17 (bd:List UInt8):putV ⟨[],0⟩ uU [] ⟨200,kH5,bd⟩ 0=kC bd 0:=by
 unfold putV;rw [if_pos (kept_ok17 bd)];dsimp only;rw [show varV (pcsV kH5 nVy)=[] by decide +kernel];rfl

theorem kept_cag (bd:List UInt8) (k:Nat) (hk:k≤1000) (hb:bd.length≤1000000):CaG (kC bd k):=by
 refine ⟨by simp [kC],by simp [kC];omega,fun r hr=> ?_⟩
 rw [List.mem_singleton.1 hr];exact ⟨(hkB_ok (by decide +kernel):Hk kH5),by simp,fun c hc=>by simp at hc,hb,by simp⟩

theorem kept_rep17 (bd:List UInt8) (k:Nat):reRep (kC bd k) uU [] []=(⟨200,kH5,bd⟩,true)∧reV (kC bd k) uU [] [] 0=kC bd (k+1):=by
 unfold reRep reV kC;rw [take_one17 _ _ _ rfl rfl];dsimp only;unfold reRow;dsimp only;rw [show renV kH5 []=kH5 by decide +kernel];refine ⟨rfl,?_⟩
 rw [show ((k+1:Nat):Int)+1=(k:Int)+1+1 by omega];rfl

theorem kept_use17 (bd:List UInt8) (k:Nat):useV (kC bd k) uU []=kC bd k:=by
 unfold useV kC;rw [take_one17 _ _ _ rfl rfl];rfl

def kF:List Hd:=setH kH5 tAge (Lib.itoa 0)

theorem kF_len:kF.length=2:=by decide +kernel

theorem kH5_len:kH5.length=1:=rfl

theorem kept_find17 (bd:List UInt8) (k:Nat): ∃ K,findV Lib.itoa (kC bd k) uU [] 0=⟨2,⟨200,kF,bd⟩,K⟩:=by
 unfold findV kC;rw [take_one17 _ _ _ rfl rfl];dsimp only;unfold foundV;dsimp only;rw [show freV kH5 0 0=true by decide +kernel,show (ctlV []).nc=false by decide,show ageV kH5 0 0=0 by decide +kernel];exact ⟨_,rfl⟩

theorem own_blk17 {w:World} {B K n cap:Nat} {T:TypeId} {a:Option Addr} {xs:List Value} (h:w.ownsRow B T K (.slice a n cap) n xs) (hn:0<n): ∃ g cur,a=some ⟨g,0,none⟩∧B≤g∧w.heap[g]? = some (.cells cur T (0,0))∧n*K≤cur.size:=by
 rcases h.2 with ⟨_,h0⟩ | ⟨g,c',cur,hv,hg,hrow,hnc,hcm,hcs,_⟩
 ·omega
 ·injection hv with h1 h2 h3
  exact ⟨g,cur,h1,hg,hrow,by rw [hcs];exact Nat.mul_le_mul_right _ hnc⟩

def Sp (g m:Nat) (w w':World):Prop:=w.grownBy w' (some g) ∧ ∃ cur,w'.heap[g]? = some (.cells cur 45 (0,0))∧m≤cur.size

theorem Sp.refl {g m:Nat} {w:World} {cur:Array Value} (h:w.heap[g]? = some (.cells cur 45 (0,0))) (hm:m≤cur.size):Sp g m w w:=⟨⟨rfl,rfl,rfl,Nat.le_refl _,fun _ _ _=>rfl⟩,cur,h,hm⟩

theorem Sp.set {g m:Nat} {w w':World} (h:Sp g m w w') (i:Nat) (v:Value):Sp g m w (w'.setCell ⟨g,i,none⟩ v):=by
 obtain ⟨⟨h1,h2,h3,h4,h5⟩,cur,hc,hm⟩:=h
 exact ⟨⟨h1,h2,h3,by simp [World.setCell] at h4 ⊢;exact h4,fun k hk hne=>(heap_setCell_other w' ⟨g,i,none⟩ k v (fun e=>hne (by rw [e]))).trans (h5 k hk hne)⟩,_,Lib.heap_setCell_same hc (i:=i) v,by simpa using hm⟩

theorem Sp.tq {g m p:Nat} {w w':World} {cur:Array Value} {fz:Nat×Nat} (h:Sp g m w w') (hg:w.heap[g]? = some (.cells cur 45 fz)) (hp:p≤g):Tq 45 45 p w w':=
 Tq.grown h.1 (fun k hk=>by injection hk with hk;subst hk;exact ⟨hp,cur,fz,hg⟩) (by have:=(Array.getElem?_eq_some_iff.1 hg).1;omega)

theorem Sp.cell {g m:Nat} {w w':World} (h:Sp g m w w') (i:Nat) (hi:i<m):(∃ x,w'.cell? ⟨g,i,none⟩=some x)∧w'.frozen? ⟨g,i,none⟩=false:=by
 obtain ⟨_,cur,hc,hm⟩:=h
 exact ⟨⟨cur[i],by rw [Lib.cell_of_heap hc];simp⟩,Lib.frozen_of_heap hc i⟩

theorem Sp.drew {g m:Nat} {w w':World} (h:Sp g m w w'):Sp g m w w'.drew:=by
 obtain ⟨⟨h1,h2,h3,h4,h5⟩,cur,hc,hm⟩:=h
 have b:=(Below.refl 0 w').drew;exact ⟨⟨b.os.trans h1,b.tape.trans h2,b.output.trans h3,h4,h5⟩,cur,hc,hm⟩

theorem Sp.drewN {g m:Nat} {w w':World} (h:Sp g m w w') {w'':World} (hb:Below w'.heap.size w' w'') (hs: ∀ k:Nat,w''.heap[k]? = w'.heap[k]?):Sp g m w w'':=by
 obtain ⟨⟨h1,h2,h3,h4,h5⟩,cur,hc,hm⟩:=h
 exact ⟨⟨hb.os.trans h1,hb.tape.trans h2,hb.output.trans h3,Nat.le_trans h4 hb.size,fun k hk hn=>(hs k).trans (h5 k hk hn)⟩,cur,(hs g).trans hc,hm⟩

theorem StC.to {w0 w w':World} {C C':CaS} {M:Nat} (h:StC w0 w C) (hc:CaI Tr17 w' w0.heap.size M C') (hb:Below w0.heap.size w w'):StC w0 w' C':=
 ⟨hc.size,h.2.1.trans hb,h.2.2.low h.1.1.2.2.1 hb⟩

end Go.Proofs.YtpopljcmkbchcaaGreatDoor

namespace Go.Proofs.YtpopljcmkbchcaaGreatDoor
open Go.RowKit

def KcI (l:List UInt8) (w:World) (q i:Nat) (wr:World):Prop:=StC w wr (kC l i)∧KBb wr q q (2*i) (fun g=>g<wr.heap.size)∧w.heap.size≤q∧q<wr.heap.size

set_option maxHeartbeats 16000000 in
set_option maxRecDepth 100000 in
theorem cacheKept_walk (q0:Option Addr) (len0 cap0:Nat) (z0:List Int) (w:World) (w0:IsRow_Cb .u8 w q0 len0 cap0 z0) (h5:G5 w) (hgp:Gp17 w) (hg:gMax<w.heap.size):
 Calls Tryz.prog 4 #[.slice q0 len0 cap0] w fun e w'=>e = .returned (.bool true)∧Below w.heap.size w w':=by
 obtain ⟨l0,hl0,hS0,hc0,hm0⟩:=w0.bytes
 have hSl:=slB_take17 hS0 hl0 100;have hll:(l0.take 100).length≤100:=by simp;omega
 have hlc:(l0.take 100).length≤cap0:=by simp;omega
 have HFb:=hid (fun (Y:World) (hY:Below w.heap.size w Y)=>fewBytes_any_Ehw q0 len0 cap0 100 l0 Y hl0 (hS0.kept hY) hc0 hm0 (by decide));obtain ⟨l,hl⟩: ∃ l,l=l0.take 100:=⟨_,rfl⟩
 rw [← hl] at hSl hll hlc HFb;have HBd:=hid (slB_bdt (p:=w.heap.size) hSl rfl hlc hm0 (Nat.le_refl _));have HLL:=hid hll;have HN:=hid (new17_any (G:=Tr17) w h5 hg);have HGp:=hid hgp;have HGx:=hid hg;clear hSl hll hlc hl w0 h5 hgp hg hl0 hS0 hc0 hm0
 go_enter Tryz.func4,Tryz.ntmps4
 go_wp2_with fail
 refine HN.out.mono ?_;rintro e w1 ⟨rfl,hc1,hb1⟩
 have HS1:=hid (show StC w w1 ⟨[],0⟩ from ⟨hc1,hb1,HGp.out.low HGx.out hb1⟩);clear hc1 hb1
 go_wp2_with fail
 refine (HFb.out _ HS1.out.2.1).mono ?_;rintro e w2 ⟨len2,rfl,_,rfl,_,hw2⟩
 rw [← hw2];clear hw2
 go_wp2_with fail
 refine (cc17_any ⟨#[109,97,120,45,97,103,101,61,53]⟩ _).mono ?_;rintro e w2 ⟨rfl,ho2,hb2⟩
 have HS2:=hid (HS1.out.below hb2);have HP:=hid (put_at17 w.heap.size w2.heap.size ⟨[],0⟩ (kC l 0) ⟨#[117]⟩ (.slice none 0 0) [] 200 (.slice (some ⟨w1.heap.size,0,none⟩) 1 1) (.slice q0 l.length cap0) kH5 l 0 true w2 HS2.out.1 (cagB_ok (by decide +kernel)) (hdt_nil _) szo_nil (own_hdt ho2) (hkB_ok (by decide +kernel)) (HBd.out.kept HS2.out.2.1) (by have:=HLL.out;omega) (kept_ok17 l) (kept_put17 l));clear ho2 hb2
 go_wp2_with fail
 refine HP.out.mono ?_;rintro e w3 ⟨rfl,hc3,ht3⟩
 have HS3:=hid (HS2.out.turn hc3 ht3);clear hc3 ht3;obtain ⟨q,hq⟩: ∃ q,q=w3.heap.size:=⟨_,rfl⟩
 have HQ:=hid hq;have H0:=hid (show KcI l w q 0 (w3.alloc (.cells #[.slice none 0 0,.slice none 0 0,.int .i64 0,.bool false] 59)) by
  rw [hq];exact ⟨HS3.out.below ((Below.refl _ w3).alloc (Nat.le_refl _) _),bookb w3 _,HS3.out.2.1.size,by simp⟩)
 clear hq
 go_wp2_with fail
 rw [← HQ.out]
 go_loopw [5] (fun v5 wr=> ∃ i:Nat,i≤2∧v5 = .int .i64 i∧Hid (KcI l w q i wr)) (fun v5 _=>2 - (intOf v5).toNat)
 case atStart=>exact ⟨0,by omega,rfl,H0.out⟩
 case round=>
  clear H0;obtain ⟨i,hi,rfl,HR⟩:=hrel
  by_cases hlt:i<2
  ·have hin:(i:Int)<2:=by omega
   obtain ⟨WR,hWR⟩: ∃ W,W=wr:=⟨_,rfl⟩
   subst hWR;obtain ⟨Kf,hfd⟩:=kept_find17 l i
   have HF:=hid (find_at18 (G:=Tr17) w.heap.size WR.heap.size (kC l i) (kC l i) ⟨#[117]⟩ (.slice none 0 0) [] 0 2 200 kF Kf l WR HR.out.1.1 (kept_cag l i (by omega) (by have:=HLL.out;omega)) (hdt_nil _) szo_nil HR.out.1.2.2 (by omega) hfd (kept_use17 l i));unfold FAt18 at HF;rw [kF_len] at HF;clear hfd
   go_wp2_with fail
   refine HF.out.mono ?_;rintro e w4 ⟨a1,c1,a2,c2,a3,c3,M4,rfl,hc4,hh4,ho4,ht4,hm4⟩
   obtain ⟨g1,cur1,rfl,hg1,hr1,hz1⟩:=own_blk17 hh4 (by decide)
   have hC4:=hc4;have hM4:=hc4.1.2.1;have hP4:=hc4.1.1;have HK4:=hid (HR.out.2.1.tq ht4 (by decide) (by decide) (by decide));have hs4:=ht4.1.size;obtain ⟨W5,hW5⟩: ∃ X,w4.alloc (.cells #[.int .i64 2,.int .i64 200,.slice (some ⟨g1,0,none⟩) 2 c1,.slice a2 l.length c2,.slice a3 Kf.length c3] 38)=X:=⟨_,rfl⟩
   have hb5:Below w4.heap.size w4 W5:=by rw [← hW5];exact (Below.refl _ w4).alloc (Nat.le_refl _) _
   have hs5:W5.heap.size=w4.heap.size+1:=by rw [← hW5];simp
   have hX5:W5.heap[w4.heap.size]? = some (.cells #[.int .i64 2,.int .i64 200,.slice (some ⟨g1,0,none⟩) 2 c1,.slice a2 l.length c2,.slice a3 Kf.length c3] 38 (0,0)):=by rw [← hW5];exact heap_alloc_new w4 _
   have hl1:=(Array.getElem?_eq_some_iff.1 hr1).1;have hr5:=(hb5.block g1 hl1).trans hr1;have ho5:=own_same ho4 hb5;have hlo4:=fun g h=>(ho4.lt g h).2
   have hC5:=(hC4.kept (hb5.mono hM4)).hole (G':=(· ≠ g1)) (fun g h _=>by show g≠g1;omega);have HK5:=hid (HK4.out.below hb5);have HRn:=hid (renew_at18 (G:=(· ≠ g1)) w.heap.size M4 (kC l i) (kC l (i+1)) ⟨#[117]⟩ (.slice none 0 0) [] 0 (.slice none 0 0) none 0 0 [] 0 200 kH5 l true W5 hC5 (kept_cag l i (by omega) (by have:=HLL.out;omega)) (hdt_nil _) szo_nil (hdt_nil _) szo_nil (fun g h=>by show g≠g1;omega) (kept_rep17 l i).1 (kept_rep17 l i).2);unfold RAt18 at HRn;rw [kH5_len] at HRn;have HA5:=hid (And.intro hX5 (And.intro hr5 ho5))
   have HB5:=hid (show Below w.heap.size WR W5 from ht4.1.trans (hb5.mono (by omega)));have HL4:=hid hlo4;have HNm:=hid (show WR.heap.size≤M4∧M4≤g1∧g1<w4.heap.size∧W5.heap.size=w4.heap.size+1∧w.heap.size+1≤M4∧M4≤w4.heap.size∧4≤cur1.size from ⟨hm4,hg1,hl1,hs5,hP4,hM4,hz1⟩);have HO4:=hid ho4;clear hC4 hM4 hP4 hs4 hb5 hs5 hX5 hl1 hr5 ho5 hlo4 hC5 hc4 hh4 ho4 ht4 hm4 hg1 hr1 hz1
   go_wp2_with fail
   refine HRn.out.mono ?_;clear hW5;rintro e w6 ⟨b1,d1,b2,d2,M6,rfl,hc6,hh6,ho6,ht6,hm6⟩
   obtain ⟨g2,cur2,rfl,hg2,hr2,hz2⟩:=own_blk17 hh6 (by decide)
   have hM6:=hc6.1.2.1;have hs6:=ht6.1.size;obtain ⟨W7,hW7⟩: ∃ X,w6.alloc (.cells #[.int .i64 200,.slice (some ⟨g2,0,none⟩) 1 d1,.slice b2 l.length d2] 30)=X:=⟨_,rfl⟩
   have hb7:Below w6.heap.size w6 W7:=by rw [← hW7];exact (Below.refl _ w6).alloc (Nat.le_refl _) _
   have hs7:W7.heap.size=w6.heap.size+1:=by rw [← hW7];simp
   have hY7:W7.heap[w6.heap.size]? = some (.cells #[.int .i64 200,.slice (some ⟨g2,0,none⟩) 1 d1,.slice b2 l.length d2] 30 (0,0)):=by rw [← hW7];exact heap_alloc_new w6 _
   have hx6:=(ht6.2 _ _ _ _ HA5.out.1 (by decide) (by decide)).trans HA5.out.1;have hX7:=(hb7.block _ (Array.getElem?_eq_some_iff.1 hx6).1).trans hx6;have hq6:=(ht6.2 _ _ _ _ HA5.out.2.1 (by decide) (by decide)).trans HA5.out.2.1;have hr7:=(hb7.block _ (Array.getElem?_eq_some_iff.1 hq6).1).trans hq6;have ho7:=own_same (ht6.own HA5.out.2.2 (by decide) (by decide)) hb7;have hl2:=(Array.getElem?_eq_some_iff.1 hr2).1;have ht7:=(hb7.block _ hl2).trans hr2;have hp7:=own_same ho6 hb7;have hC7:=hc6.kept (hb7.mono hM6);have hlo6:=fun g h=>(ho6.lt g h).2
   have hk7:=(HK5.out.tq ht6 (by decide) (by decide) (by decide)).below hb7;have HB7:=hid (show Below w.heap.size WR W7 from HB5.out.trans (ht6.1.trans (hb7.mono (by have:=HNm.out;omega))));have hkp1:KpU 1 5 W7 q (.slice a2 l.length c2) l.length (l.map fun b=>(b.toNat:Int)):=(own_ku (by rw [← cellsB_cU];exact ho7)).lower (by have:=HNm.out;have:=HR.out.2.2.2;omega)
   have HKp1:=hid (keepb q q (2*i) l.length (fun g=>g<WR.heap.size) (.slice a2 l.length c2) _ W7 hk7 hkp1 (fun g h h2=>by have:=(HO4.out.lt g h).1;have:=HNm.out;have h3:g<WR.heap.size:=h2;omega) (by have:=HLL.out;omega) (by omega) (by have:=HNm.out;have:=HR.out.2.2.2;omega));have hf3:W7.cell? ⟨w4.heap.size,3,none⟩=some (.slice a2 l.length c2):=by rw [Lib.cell_of_heap hX7];rfl
   obtain ⟨cq,hcq⟩:=hk7.row
   have HA7:=hid (And.intro hX7 (And.intro hr7 (And.intro hY7 (And.intro ht7 (And.intro hp7 (And.intro hC7 hcq))))));have HL6:=hid hlo6;have HO6:=hid ho6;have HNn:=hid (show W5.heap.size≤M6∧M6≤g2∧g2<w6.heap.size∧W7.heap.size=w6.heap.size+1∧M6≤w6.heap.size∧2≤cur2.size from ⟨hm6,hg2,hl2,hs7,hM6,hz2⟩);clear hM6 hs6 hb7 hs7 hY7 hx6 hX7 hq6 hr7 ho7 hl2 ht7 hp7 hC7 hlo6 hk7 hkp1 hcq hc6 hh6 ho6 ht6 hm6 hg2 hr2 hz2 HRn HF
   go_wp2_with fail
   refine HKp1.out.mono ?_;clear hW7 hf3;rintro e w8 ⟨rfl,hk8,hbt8⟩
   have htq8:=bt_tq hbt8 HA7.out.2.2.2.2.2.2;obtain ⟨hX7,hr7,hY7,ht7,hp7,hC7,_⟩:=HA7.out
   have hX8:=(htq8.2 _ _ _ _ hX7 (by decide) (by decide)).trans hX7;have hr8:=(htq8.2 _ _ _ _ hr7 (by decide) (by decide)).trans hr7;have hY8:=(htq8.2 _ _ _ _ hY7 (by decide) (by decide)).trans hY7;have ht8:=(htq8.2 _ _ _ _ ht7 (by decide) (by decide)).trans ht7;have hp8:=htq8.own hp7 (by decide) (by decide)
   have hC8:=hC7.tq2 htq8 HR.out.2.2.1 (by decide) (by decide) (by decide) (by decide) (by decide)
   have HB8:=hid (HB7.out.trans (htq8.1.mono HR.out.2.2.1));have hs8:=htq8.1.size;have hkp2:KpU 1 5 w8 q (.slice b2 l.length d2) l.length (l.map fun b=>(b.toNat:Int)):=(own_ku (by rw [← cellsB_cU];exact hp8)).lower (by have:=HNm.out;have:=HNn.out;have:=HR.out.2.2.2;omega)
   have HKp2:=hid (keepb q q (2*i+1) l.length (fun g=>g<WR.heap.size∨(Value.slice a2 l.length c2).ownBlock=some g) (.slice b2 l.length d2) _ w8 hk8 hkp2 (fun g h h2=>by
    have h6:=(HO6.out.lt g h).1;have h7:=HNm.out;have h8:=HNn.out;rcases h2 with h2 | h2
    ·have h3:g<WR.heap.size:=h2
     omega
    ·have:=(HO4.out.lt g h2).2
     omega) (by have:=HLL.out;omega) (by omega) (by have:=HNm.out;have:=HNn.out;have:=HR.out.2.2.2;omega))
   have hf2:w8.cell? ⟨w6.heap.size,2,none⟩=some (.slice b2 l.length d2):=by rw [Lib.cell_of_heap hY8];rfl
   obtain ⟨cq,hcq⟩:=hk8.row
   have HA8:=hid (And.intro hX8 (And.intro hr8 (And.intro hY8 (And.intro ht8 (And.intro hC8 hcq)))));have HS8:=hid hs8;clear htq8 hX7 hr7 hY7 ht7 hp7 hC7 hX8 hr8 hY8 ht8 hp8 hC8 hs8 hkp2 hcq hk8 hbt8 HKp1 HA7
   go_wp2_with fail
   refine HKp2.out.mono ?_;clear hf2;rintro e w9 ⟨rfl,hk9,hbt9⟩
   have htq9:=bt_tq hbt9 HA8.out.2.2.2.2.2;obtain ⟨hX8,hr8,hY8,ht8,hC8,_⟩:=HA8.out
   have hX9:=(htq9.2 _ _ _ _ hX8 (by decide) (by decide)).trans hX8;have hr9:=(htq9.2 _ _ _ _ hr8 (by decide) (by decide)).trans hr8;have hY9:=(htq9.2 _ _ _ _ hY8 (by decide) (by decide)).trans hY8;have ht9:=(htq9.2 _ _ _ _ ht8 (by decide) (by decide)).trans ht8;have hC9:=hC8.tq2 htq9 HR.out.2.2.1 (by decide) (by decide) (by decide) (by decide) (by decide)
   have HB9:=hid (HB8.out.trans (htq9.1.mono HR.out.2.2.1));have hs9:=htq9.1.size;have HK9:=hid hk9;have HA9:=hid (And.intro hX9 (And.intro hr9 (And.intro hY9 (And.intro ht9 hC9))));have HS9:=hid (show w6.heap.size<w9.heap.size by have:=HNn.out;have:=HS8.out;omega);have HS0:=hid (Sp.refl hr9 HNm.out.2.2.2.2.2.2);clear htq9 hX8 hr8 hY8 ht8 hC8 hX9 hr9 hY9 ht9 hC9 hs9 hk9 hbt9 HKp2 HA8
   go_wp2_with fail
   go_loopw [9] (fun v9 wq=> ∃ k:Nat,k≤2∧v9 = .int .i64 k∧Hid (Sp g1 4 w9 wq)) (fun v9 _=>2 - (intOf v9).toNat)
   case atStart=>exact ⟨0,by omega,rfl,HS0.out⟩
   case round=>
    clear HS0;obtain ⟨k,hk,rfl,HP1⟩:=hrel
    have hXr:=(HP1.out.1.block _ (Array.getElem?_eq_some_iff.1 HA9.out.1).1 (fun e=>by injection e with e;have:=HNm.out;omega)).trans HA9.out.1;have f2:wr.cell? ⟨w4.heap.size,2,none⟩=some (.slice (some ⟨g1,0,none⟩) 2 c1):=by rw [Lib.cell_of_heap hXr];rfl
    clear hXr;by_cases h0:k=0
    ·subst h0
     obtain ⟨⟨x1,e1⟩,y1⟩:=HP1.out.cell 1 (by decide)
     go_wp2_with fail
     go_roundw
     case rel=>
      first
       | exact ⟨1,by omega,by go_num,HP1.out.set 1 _⟩
       | ((repeat apply Exists.intro);refine ⟨?_,rfl⟩;exact ⟨1,by omega,by go_num,HP1.out.set 1 _⟩)
       | ((repeat apply Exists.intro);exact ⟨⟨1,by omega,by go_num,HP1.out.set 1 _⟩,rfl⟩)
     case measure=>simp [intOf]
    ·by_cases h1:k=1
     ·subst h1
      obtain ⟨⟨x3,e3⟩,y3⟩:=HP1.out.cell 3 (by decide)
      go_wp2_with fail
      go_roundw
      case rel=>
       first
        | exact ⟨2,by omega,by go_num,HP1.out.set 3 _⟩
        | ((repeat apply Exists.intro);refine ⟨?_,rfl⟩;exact ⟨2,by omega,by go_num,HP1.out.set 3 _⟩)
        | ((repeat apply Exists.intro);exact ⟨⟨2,by omega,by go_num,HP1.out.set 3 _⟩,rfl⟩)
      case measure=>simp [intOf]
     ·obtain rfl:k=2:=by omega
      clear hk h0 h1;have htqA:=HP1.out.tq HA9.out.2.1 (p:=w.heap.size) (by have:=HNm.out;omega)
      have htqB:=HP1.out.tq HA9.out.2.1 (p:=q) (by have:=HNm.out;have:=HR.out.2.2.2;omega)
      have hY10:=(htqA.2 _ _ _ _ HA9.out.2.2.1 (by decide) (by decide)).trans HA9.out.2.2.1;have ht10:=(HP1.out.1.block g2 (Array.getElem?_eq_some_iff.1 HA9.out.2.2.2.1).1 (fun e=>by injection e with e;have:=HNm.out;have:=HNn.out;omega)).trans HA9.out.2.2.2.1;have hC10:=HA9.out.2.2.2.2.spoil HA9.out.2.1 HP1.out.1 (by have:=HNm.out;omega)
      have HK10:=hid (HK9.out.tq htqB (by decide) (by decide) (by decide));have HB10:=hid (HB9.out.trans htqA.1);have hs10:=htqA.1.size;have HA10:=hid (And.intro hY10 (And.intro ht10 hC10));have HS1:=hid (Sp.refl ht10 HNn.out.2.2.2.2.2);obtain ⟨WQ,hWQ⟩: ∃ W,W=wr:=⟨_,rfl⟩
      subst hWQ;have HS10:=hid (show w6.heap.size<WQ.heap.size by have:=HS9.out;omega);clear htqA htqB hY10 ht10 hC10 hs10 HA9 HB9 HK9
      go_wp2_with fail
      go_loopw [10] (fun v10 wq=> ∃ k:Nat,k≤1∧v10 = .int .i64 k∧Hid (Sp g2 2 WQ wq)) (fun v10 _=>1 - (intOf v10).toNat)
      case atStart=>exact ⟨0,by omega,rfl,HS1.out⟩
      case round=>
       clear HS1 f2;obtain ⟨k,hk,rfl,HP2⟩:=hrel
       have hYr:=(HP2.out.1.block _ (Array.getElem?_eq_some_iff.1 HA10.out.1).1 (fun e=>by injection e with e;have:=HNn.out;omega)).trans HA10.out.1;have f2:wr.cell? ⟨w6.heap.size,1,none⟩=some (.slice (some ⟨g2,0,none⟩) 1 d1):=by rw [Lib.cell_of_heap hYr];rfl
       clear hYr;by_cases h0:k=0
       ·subst h0
        obtain ⟨⟨x1,e1⟩,y1⟩:=HP2.out.cell 1 (by decide)
        go_wp2_with fail
        go_roundw
        case rel=>
         first
          | exact ⟨1,by omega,by go_num,HP2.out.set 1 _⟩
          | ((repeat apply Exists.intro);refine ⟨?_,rfl⟩;exact ⟨1,by omega,by go_num,HP2.out.set 1 _⟩)
          | ((repeat apply Exists.intro);exact ⟨⟨1,by omega,by go_num,HP2.out.set 1 _⟩,rfl⟩)
        case measure=>simp [intOf]
       ·obtain rfl:k=1:=by omega
        clear hk h0;have htqA:=HP2.out.tq HA10.out.2.1 (p:=w.heap.size) (by have:=HNm.out;have:=HNn.out;omega)
        have htqB:=HP2.out.tq HA10.out.2.1 (p:=q) (by have:=HNm.out;have:=HNn.out;have:=HR.out.2.2.2;omega)
        have htqC:=HP2.out.tq HA10.out.2.1 (p:=M6) HNn.out.2.1;have hs11:=htqA.1.size;have HFI:=hid (show KcI l w q (i+1) wr from ⟨HR.out.1.to (HA10.out.2.2.kept htqC.1) (HB10.out.trans htqA.1),(HK10.out.tq htqB (by decide) (by decide) (by decide)).more (by omega) (fun g hg=>by
         have h7:=HNm.out;have h8:=HNn.out;have h9:=HS10.out;show g<wr.heap.size;rcases hg with (hg | hg) | hg
         ·have h3:g<WR.heap.size:=hg
          omega
         ·have:=HL4.out g hg
          omega
         ·have:=HL6.out g hg
          omega),HR.out.2.2.1,by have:=HR.out.2.2.2;have:=HNm.out;have:=HNn.out;have:=HS10.out;omega⟩)
        clear htqA htqB htqC hs11 HP1 HP2 HA10 HK10 HB10 HNm HNn HO4 HO6 HL4 HL6 HR
        go_wp2_with fail
        go_roundw
        case rel=>
         first
          | exact ⟨i+1,by omega,by go_num,HFI.out⟩
          | ((repeat apply Exists.intro);refine ⟨?_,rfl⟩;exact ⟨i+1,by omega,by go_num,HFI.out⟩)
          | ((repeat apply Exists.intro);exact ⟨⟨i+1,by omega,by go_num,HFI.out⟩,rfl⟩)
        case measure=>simp [intOf];omega
  ·obtain rfl:i=2:=by omega
   clear hi hlt;obtain ⟨Kf,hfd⟩:=kept_find17 l 2
   have HF:=hid (find_at18 (G:=Tr17) w.heap.size wr.heap.size (kC l 2) (kC l 2) ⟨#[117]⟩ (.slice none 0 0) [] 0 2 200 kF Kf l wr HR.out.1.1 (kept_cag l 2 (by omega) (by have:=HLL.out;omega)) (hdt_nil _) szo_nil HR.out.1.2.2 (by omega) hfd (kept_use17 l 2));unfold FAt18 at HF;rw [kF_len] at HF;clear hfd
   go_wp2_with fail
   refine HF.out.mono ?_;rintro e w4 ⟨a1,c1,a2,c2,a3,c3,M4,rfl,hc4,_,_,ht4,_⟩
   have HS4:=hid (HR.out.1.turn hc4 ht4);have hk4:=HR.out.2.1.tq ht4 (by decide) (by decide) (by decide)
   have hs4:=ht4.1.size;have hqs:=HR.out.2.2.2;have HPq:=hid HR.out.2.2.1;obtain ⟨W5,hW5⟩: ∃ X,w4.alloc (.cells #[.int .i64 2,.int .i64 200,.slice a1 2 c1,.slice a2 l.length c2,.slice a3 Kf.length c3] 38)=X:=⟨_,rfl⟩
   have hb5:Below w4.heap.size w4 W5:=by rw [← hW5];exact (Below.refl _ w4).alloc (Nat.le_refl _) _
   have hX5:W5.heap[w4.heap.size]? = some (.cells #[.int .i64 2,.int .i64 200,.slice a1 2 c1,.slice a2 l.length c2,.slice a3 Kf.length c3] 38 (0,0)):=by rw [← hW5];exact heap_alloc_new w4 _
   have HS5:=hid (HS4.out.below hb5);have hs5:=hb5.size;obtain ⟨h,A',Y,xs,ys,hl,_,hbk⟩:=hk4.below hb5
   have HAP:=hid (apartb q q h A' Y xs ys W5 hbk (by omega) (by omega));have HX5:=hid hX5;have HRw:=hid hbk.2.2.1;clear hs4 hk4 hc4 ht4 hqs hb5 hX5 hs5 hl hbk HF HR
   go_wp2_with fail
   refine HAP.out.mono ?_;clear hW5;rintro e w6 ⟨rfl,hbt6⟩
   have htq6:=bt_tq hbt6 HRw.out;have hX6:=(htq6.2 _ _ _ _ HX5.out (by decide) (by decide)).trans HX5.out;have f0:w6.cell? ⟨w4.heap.size,0,none⟩=some (.int .i64 2):=by rw [Lib.cell_of_heap hX6];rfl
   have hbP:=htq6.1.mono HPq.out;have hs6:=htq6.1.size;have HKN:=hid (known17_any w6 (HS5.out.1.1.2.2.2.low17 HS5.out.1.1.2.2.1 hbP) (HS5.out.2.2.low HS5.out.1.1.2.2.1 hbP) (by have:=HS5.out.1.1.2.2.1;have:=HS5.out.1.1.1;have:=HS5.out.1.1.2.1;have:=hbP.size;omega));have HB6:=hid (HS5.out.2.1.trans hbP);clear hbt6 htq6 hX6 hbP hs6 HAP
   go_wp2_with fail
   refine HKN.out.mono ?_;rintro e w7 ⟨rfl,hb7⟩
   have HB7:=hid (show Below w.heap.size w w7 from HB6.out.trans (hb7.mono HB6.out.size));clear hb7 HKN
   go_wp2_with fail
   go_ret
   exact ⟨rfl,HB7.out⟩

end Go.Proofs.YtpopljcmkbchcaaGreatDoor

namespace Go.Proofs.YtpopljcmkbchcaaGreatDoor
open Go.RowKit

def laid7 : List (String × DataW Unit) := [("math/bits.deBruijn32tab", Rows.laid_math_bits_deBruijn32tab), ("math/bits.deBruijn64tab", Rows.laid_math_bits_deBruijn64tab), ("internal/strconv.uint64pow10", Rows.laid_internal_strconv_uint64pow10), ("unicode/utf8.acceptRanges", Rows.laid_unicode_utf8_acceptRanges), ("unicode/utf8.first", Rows.laid_unicode_utf8_first)]

theorem g5_of_shaped {W:World} (hsh:W.ShapedOpen Tryz.prog):G5 W:=Tryz.laysM145.s1_3 W hsh

theorem gMax_of {W:World} (h:G5 W):gMax<W.heap.size:=by
 obtain ⟨m,hm⟩:=h
 exact World.block_lt_of_cell? W _ hm

theorem gp17_of_laid {W:World} (h:laidMetH Tryz.prog laid7 W):Gp17 W:=by
 have h':laidMet Tryz.prog laid7 W:=h;exact Lib.tabIs_of_head gPow17 (by kernel_rfl) Tryz.underlying232 Tryz.underlying195 (by kernel_rfl) (by kernel_rfl) h'.tail.tail

theorem ownK:ownKnob Tryz.prog.godebug=none:=by kernel_rfl

noncomputable def startW (os : Os) : World :=
 { World.doorLaid Tryz.prog 24 os with heap:=(World.doorLaid Tryz.prog 24 os).heap.setIfInBounds 3 (.cells (Pinned.utf8FirstZ.map fun (n:Nat)=>Value.int .u8 (n:Int)).toArray 253 (0,0)) }

theorem door_met (os:Os) (args:Array Value):laidMetH Tryz.prog laid7 ((startW os).forCall (fun _ _=>0) ⟨#[],args,[]⟩).memory:=
 laidMetH_of_parts3 (fuel:=8) (laidMet_of_run' 8 (by kernel_rfl) (by kernel_rfl)) (by kernel_rfl) (by kernel_rfl)

end Go.Proofs.YtpopljcmkbchcaaGreatDoor
