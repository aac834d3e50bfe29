/-
  Walks and plain facts that this claim leans on, put together out of 2 texts: Bksen, Bksi.
-/
import Derived.Test.YtolioccofbhliaaGreatDoorProg
import Derived.Test.YtolioccofbhliaaGreatDoorQp1
import Derived.Test.YtolioccofbhliaaGreatDoorQp2
import Derived.Test.YtolioccofbhliaaGreatDoorQp3
import Derived.Test.YtolioccofbhliaaGreatDoorQp4
import Derived.Test.YtolioccofbhliaaGreatDoorQp5
import Derived.Test.YtolioccofbhliaaGreatDoorQp6
import Derived.Test.YtolioccofbhliaaGreatDoorQp7
import Derived.Test.YtolioccofbhliaaGreatDoorQp8
import Derived.Test.YtolioccofbhliaaGreatDoorQp9
import Derived.Test.YtolioccofbhliaaGreatDoorQp10
import Derived.Test.YtolioccofbhliaaGreatDoorQp11
import Derived.Test.YtolioccofbhliaaGreatDoorQp12
import Derived.Test.YtolioccofbhliaaGreatDoorQp13
import Derived.Test.YtolioccofbhliaaGreatDoorQp14
import Derived.Test.YtolioccofbhliaaGreatDoorQp15
import Derived.Test.YtolioccofbhliaaGreatDoorQp16
import Derived.Test.YtolioccofbhliaaGreatDoorQp17
import Derived.Test.YtolioccofbhliaaGreatDoorQp18
import Derived.Test.YtolioccofbhliaaGreatDoorQp19
import Derived.Test.YtolioccofbhliaaGreatDoorQp20
import Derived.Test.YtolioccofbhliaaGreatDoorQp21
import Derived.Test.YtolioccofbhliaaGreatDoorQp22
import Derived.Test.YtolioccofbhliaaGreatDoorQp23
import Derived.Test.YtolioccofbhliaaGreatDoorQp24
import Derived.Test.YtolioccofbhliaaGreatDoorQp25
import Derived.Test.YtolioccofbhliaaGreatDoorQp26
import Derived.Test.YtolioccofbhliaaGreatDoorQp27
import Derived.Test.YtolioccofbhliaaGreatDoorQp28
import Derived.Test.YtolioccofbhliaaGreatDoorQk1
import Derived.Test.YtolioccofbhliaaGreatDoorQk2
import Derived.Deep.RegionLaw
import Derived.Deep.RegionHeld
import Derived.Deep.QuietTactic
import Derived.BigQuiet
import Derived.BigRegion
import Derived.WalkKit
import Derived.WalkSpells
import Derived.WalkLawsBesides
import Derived.Laws.CopyOwn
import Derived.Laws.ResultCell
import Derived.Deep.MidRow
import Derived.Lib.LaidTab
import Derived.Lib.SmallJoins
import Derived.Laws.BitsAll
import Derived.Lib.Strings
import Derived.Lib.UnsafeStr
import Derived.Laws.IdiomStrings
import Derived.Laws.AppendOwn
import Derived.Lib.BufferRead
import Derived.Lib.RuneBytes
import Derived.Laws.RangeAny
import Derived.Laws.OwnMore
import Derived.Below
import Derived.WalkSmall
import Derived.Lib.BufferMore
import Derived.Lib.FrozenHead2
import Derived.Lib.OthersKept
import Derived.Lib.Builder
set_option linter.unusedSimpArgs false
set_option linter.unusedVariables false

namespace Go.Proofs.YtolioccofbhliaaGreatDoor
open Go.RowKit

set_option maxHeartbeats 4000000 in
set_option maxRecDepth 100000 in
theorem keepsn (B p:Nat) (h:Int) (A Y:Value) (xs ys:List Value) (w:World) (hbk:Bks w B p h A Y xs ys) (hn:xs.length≤200) (hBw:B≤w.heap.size):
 Calls Tryz.prog 41 #[.pointer (some ⟨p,0,none⟩),Value.slice none 0 0] w fun e w'=>e = .returned (.tuple #[])∧KPs w' B p (xs++[Value.slice none 0 0])∧Bt 50 p B w w':=by
 obtain ⟨i0,hi,hz0,hz1,hz2⟩:=info_parts infoLss
 obtain ⟨j0,ji,jz0,jz1,jz2⟩:=info_parts infoEs
 have HBK:=hid hbk;have HBP:=hid hbk.1;have hlt:=hbk.lt;have c0:w.cell? ⟨p,0,none⟩=some A:=cell_of_heapE hbk.2.2.1 0 _ rfl
 have HA:=hid hbk.2.2.2.1;clear hbk
 go_enter Tryz.func41,Tryz.ntmps41
 go_wp2_with (at_builtin;refine wpList_append_slw _ rfl _ _ 74 rfl B 50 i0 (.slice none 0 0) Tryz.underlying74 hi hz0 hz1 hz2 rfl A xs rfl (HA.out.alloc0 _) ⟨w.heap.size,0,none⟩ 1 (Value.slice none 0 0) rfl (by simp [Addr.add]) rfl (by omega) (by simp;omega) ?_)
 intro AA w2 hAA hgrow hwh;obtain ⟨a1,k1,hAe,hk1⟩:=hAA.form
 subst hAe;obtain ⟨N,hN⟩: ∃ N,N=(xs++[Value.slice none 0 0]).length:=⟨_,rfl⟩
 have HN:=hid hN;rw [← hN] at hAA hwh hk1 ⊢;obtain ⟨q1,q2,q3,q4,q5,q6,q7⟩:=add1s HBK.out hBw hAA hgrow (hwh.imp id fun ⟨k,e,hk⟩=>⟨k,e,by first | omega | (simp at hk;omega)⟩)
 have d0:w2.cell? ⟨p,0,none⟩=some A:=cell_of_heapE q1 0 _ rfl
 have f0:w2.frozen? ⟨p,0,none⟩=false:=Lib.frozen_of_heap q1 0
 clear hAA hgrow hwh c0 q1 hN
 go_wp2_with fail
 obtain ⟨w3,hw3⟩: ∃ w3,w3=w2.setCell ⟨p,0,none⟩ (.slice a1 N k1):=⟨_,rfl⟩
 rw [← hw3] at q2 q3 q4 q6 q7 ⊢;clear hw3 d0 f0;have c1:w3.cell? ⟨p,1,none⟩=some Y:=cell_of_heapE q2 1 _ rfl
 have HQ2:=hid q2;have HQ3:=hid q3;have HQ4:=hid q4;have HQ5:=hid q5;have HQ6:=hid q6;have HQ7:=hid q7;have hBw3:B≤w3.heap.size:=Nat.le_trans hBw q7.1.size;have hlt3:p<w3.heap.size:=(Array.getElem?_eq_some_iff.1 q2).1;have HYL:=hid (show ys.length=xs.length from HBK.out.2.1);have hyn:ys.length≤200:=by have:=HYL.out;omega
 clear q2 q3 q4 q5 q6 q7
 go_region_law (first | (refine step_append_slw rfl (.tmp 18) (.tmp 21) 74 rfl B 50 i0 (.slice none 0 0) Tryz.underlying74 hi hz0 hz1 hz2 rfl Y ys rfl (by exact HQ4.out.alloc0 _) ⟨w3.heap.size,0,none⟩ 1 (.slice none 0 0) rfl (by simp [Addr.add]) rfl (by omega) (by simp;omega) ?_;intro YY w5 hY5 hgrow5 hwh5;obtain ⟨a2,k2,hYe,hk2⟩:=hY5.form;rw [show (ys++[Value.slice none 0 0]).length=ys.length+1 by simp] at hYe;subst hYe;obtain ⟨r1,r2,r3,r4,r5,r6,r7,r8⟩:=add2s (w3:=w3) (w4:=w3) HBP.out HQ2.out HQ3.out HQ4.out HQ5.out hBw3 (World.grownBy.refl w3 none) (KpL.nil 1 9 w3 B) hY5 ⟨hgrow5.os,hgrow5.tape,hgrow5.output,hgrow5.size,hgrow5.block⟩ (hwh5.imp id fun ⟨k,e,hk⟩=>⟨k,e,by first | omega | (simp at hk;omega)⟩);have e1:=cell_of_heapE r1 1 Y rfl;have f1:=Lib.frozen_of_heap r1 1))
 all_goals
  have HBK6:=hid (add3s (n:=0) (L:=[]) HBK.out (KpL.nil 1 9 w B) (by decide) (fun a _=>by unfold AptV;cases a.ownBlock with | none=>exact .inl rfl | some k=>exact .inr (by simp [Value.ownBlock])) HQ6.out r6 r7 r2 r3 r4 r5);have HB6:=hid (HQ7.out.trans r8);obtain ⟨w6,hw6⟩: ∃ w6,w6=w5.setCell ⟨p,1,none⟩ (.slice a2 (ys.length+1) k2):=⟨_,rfl⟩
  rw [← hw6] at HBK6 HB6 ⊢;have c2:w6.cell? ⟨p,2,none⟩=some (.int .i64 h):=cell_of_heapE HBK6.out.2.2.1 2 _ rfl
  have f2:w6.frozen? ⟨p,2,none⟩=false:=Lib.frozen_of_heap HBK6.out.2.2.1 2
  clear hw6 r1 r2 r3 r4 r5 r6 r7 r8 e1 f1 hY5 hgrow5 hwh5 hk2 c1 HQ2 HQ3 HQ4 HQ5 HQ6 HQ7
  go_wp2_with fail
  obtain ⟨H,hH⟩: ∃ H,wrap64 (wrap64 h+1)=H:=⟨_,rfl⟩
  rw [hH];clear hH;have HBK7:=hid (HBK6.out.turn (heap_setCell_same w6 p 2 _ _ (.int .i64 H) HBK6.out.2.2.1) fun k _ hne=>heap_setCell_other w6 ⟨p,2,none⟩ k (.int .i64 H) hne);have HB7:=hid (HB6.out.set HBP.out 2 (.int .i64 H));obtain ⟨w7,hw7⟩: ∃ w7,w7=w6.setCell ⟨p,2,none⟩ (.int .i64 H):=⟨_,rfl⟩
  rw [← hw7] at HBK7 HB7 ⊢;clear hw7 c2 f2 HBK6 HB6;have HKP:=hid (show KPs w7 B p (xs++[Value.slice none 0 0]) from ⟨H,_,_,_,_,0,⟨by simp,rfl⟩,HBK7.out⟩);clear HBK7;refine wp_cut0 (kloops B p (xs++[Value.slice none 0 0]) w w7 _ _ _ _ _ _ _ _ _ _ _ _ _ _ _ _ _ _ _ _ _ _ _ _ _ _ _ _ _ _ _ _ _ _ _ _ _ _ _ _ _ _ _ _ _ _ _ _ _ _ _ _ _ _ _ _ _ _ _ _ _ _ _ _ _ _ _ _ _ _ _ _ _ _ _ _ _ _ _ _ _ _ _ _ _ _ _ _ _ _ _ _ _ _ _ _ _ _ _ _ _ _ _ _ _ _ _ _ _ _ _ _ (by simp;omega) HKP HBP HB7 ?_)
  intro u36 u37 u38 u39 u40 u41 u42 u43 u44 u45 u46 u47 u48 u49 u50 u51 u52 u53 u54 u55 u56 u57 u58 u59 u60 u61 u62 u63 u64 u65 u66 u67 u68 u69 u70 u71 u72 u73 u74 u75 u76 u77 u78 u79 u80 u81 u82 u83 u84 u85 u86 u87 u88 u89 u90 u91 u92 u93 u94 u95 u96 u97 u98 u99 u100 u101 u102 u103 u104 u105 u106 u107 u108 u109 u110 u111 w8 hkp hbw;have HKP8:=hid hkp;have HBW8:=hid hbw;clear hkp hbw
  go_wp2_with fail
  go_end0
  exact ⟨rfl,HKP8.out,HBW8.out⟩

end Go.Proofs.YtolioccofbhliaaGreatDoor

namespace Go.Proofs.YtolioccofbhliaaGreatDoor
open Go.RowKit

def KBs (w:World) (B p n:Nat) (S:Nat→Prop):Prop:= ∃ (h:Int) (A Y:Value) (xs ys:List Value),xs.length≤n∧(∀ a ∈ xs,∀ g,a.ownBlock=some g→S g)∧Bks w B p h A Y xs ys

theorem KBs.below {w w':World} {B p n:Nat} {S:Nat→Prop} (h:KBs w B p n S) (hb:Below w.heap.size w w'):KBs w' B p n S:=by
 obtain ⟨h1,A,Y,xs,ys,hl,hs,hbk⟩:=h
 exact ⟨h1,A,Y,xs,ys,hl,hs,hbk.below hb⟩

theorem KBs.more {w:World} {B p n m:Nat} {S S':Nat→Prop} (h:KBs w B p n S) (hm:n≤m) (hs: ∀ g,S g→S' g):KBs w B p m S':=by
 obtain ⟨h1,A,Y,xs,ys,hl,hS,hbk⟩:=h
 exact ⟨h1,A,Y,xs,ys,by omega,fun a ha g hg=>hs g (hS a ha g hg),hbk⟩

theorem KBs.apart {w w':World} {B p n:Nat} {S:Nat→Prop} (h:KBs w B p n S) (hk: ∀ k cur U fz,w.heap[k]? = some (Obj.cells cur U fz)→(U=9∨U=50∨k=p)→w'.heap[k]? = w.heap[k]?):KBs w' B p n S:=by
 obtain ⟨h1,A,Y,xs,ys,hl,hS,hbk⟩:=h
 exact ⟨h1,A,Y,xs,ys,hl,hS,hbk.apart hk⟩

theorem keeps (B p n m:Nat) (S:Nat→Prop) (v:Value) (X:List ByteArray) (w:World) (hkb:KBs w B p n S) (hv:KpL 1 9 w B v m X) (hf: ∀ g,v.ownBlock=some g → ¬ S g) (hm:m≤1000) (hn:n≤200) (hBw:B≤w.heap.size):
 Calls Tryz.prog 41 #[.pointer (some ⟨p,0,none⟩),v] w fun e w'=>e = .returned (.tuple #[])∧KBs w' B p (n+1) (fun g=>S g∨v.ownBlock=some g)∧Bt 50 p B w w':=by
 obtain ⟨h,A,Y,xs,ys,hl,hS,hbk⟩:=hkb
 have hup: ∀ {w':World},KPs w' B p (xs++[v])→KBs w' B p (n+1) (fun g=>S g∨v.ownBlock=some g):=by
  rintro w' ⟨h1,A',Y',zs,ys',k,⟨hk,rfl⟩,hb⟩
  refine ⟨h1,A',Y',_,ys',by simp;omega,fun a ha g hg=> ?_,hb⟩
  rcases List.mem_append.1 (List.mem_of_mem_drop ha) with ha | ha
  ·exact .inl (hS a ha g hg)
  ·rw [List.mem_singleton.1 ha] at hg
   exact .inr hg
 rcases hv.2 with ⟨rfl,hz⟩ | ⟨g,o,cap,cur,rfl,hg,_⟩
 ·refine (keepsn B p h A Y xs ys w hbk (by omega) hBw).mono ?_
  rintro e w' ⟨rfl,hkp,hb'⟩
  exact ⟨rfl,hup hkp,hb'⟩
 ·refine (keepss B p h A Y xs ys g o cap m X w hbk hv hm (fun a ha=> ?_) (by omega) hBw).mono ?_
  ·by_cases hna:a.ownBlock=none
   ·exact .inl hna
   ·right
    intro e;exact hf g rfl (hS a ha g e)
  ·rintro e w' ⟨rfl,hkp,hb'⟩
   exact ⟨rfl,hup hkp,hb'⟩

theorem books (w:World) (S:Nat→Prop):KBs (w.alloc (.cells #[.slice none 0 0,.slice none 0 0,.int .i64 0,.bool false] 76)) w.heap.size w.heap.size 0 S:=
 ⟨0,.slice none 0 0,.slice none 0 0,[],[],Nat.le_refl _,fun a ha=>by simp at ha,Nat.le_refl _,rfl,by (show (w.heap.push _)[w.heap.size]? = _;exact Array.getElem?_push_size),.inl ⟨rfl,rfl⟩,.inl ⟨rfl,rfl⟩,.inl rfl,fun i x y hx _=>by simp at hx,List.Pairwise.nil⟩

end Go.Proofs.YtolioccofbhliaaGreatDoor
