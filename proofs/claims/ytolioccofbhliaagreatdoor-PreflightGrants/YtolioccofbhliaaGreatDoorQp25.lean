/-
  Walks and plain facts that this claim leans on, put together out of 1 texts: Ejp.
-/
import Derived.Test.YtolioccofbhliaaGreatDoorProg
import Derived.Test.YtolioccofbhliaaGreatDoorQp1
import Derived.Test.YtolioccofbhliaaGreatDoorQp2
import Derived.Test.YtolioccofbhliaaGreatDoorQp3
import Derived.Test.YtolioccofbhliaaGreatDoorQp4
import Derived.Test.YtolioccofbhliaaGreatDoorQp8
import Derived.Test.YtolioccofbhliaaGreatDoorQp11
import Derived.Test.YtolioccofbhliaaGreatDoorQp13
import Derived.Test.YtolioccofbhliaaGreatDoorQp14
import Derived.Test.YtolioccofbhliaaGreatDoorQp16
import Derived.Test.YtolioccofbhliaaGreatDoorQp17
import Derived.Test.YtolioccofbhliaaGreatDoorQp18
import Derived.Test.YtolioccofbhliaaGreatDoorQp19
import Derived.Test.YtolioccofbhliaaGreatDoorQp21
import Derived.Test.YtolioccofbhliaaGreatDoorQp24
import Derived.BigRegion
import Derived.Deep.RegionHeld
import Derived.Deep.RegionHeldLaw
import Derived.Lib.IndexAny
import Derived.WalkKit
import Derived.Lib.UnsafeStr
import Derived.Lib.BufferRead
import Derived.Lib.RuneBytes
import Derived.Laws.RangeAny
import Derived.Deep.LoopGhost
import Derived.Maps.OwnSet
import Derived.Maps.OwnOps
import Derived.Maps.AppendAt
import Derived.StringKeys
import Derived.BigQuiet
import Derived.Deep.QuietTactic
import Derived.LoopN
import Derived.RegionTactic
import Derived.Deep.RegionLaw
import Derived.Deep.RegionWith
import Derived.WalkSpells
import Derived.WalkLawsBesides
import Derived.Lib.FieldsP
import Derived.Lib.DecodeN
import Derived.Lib.IndexMore
import Derived.Lib.Join
import Derived.Lib.SmallJoins
import Derived.Laws.CopyOwn
import Derived.Laws.ResultCell
import Derived.Deep.MidRow
import Derived.Laws.OwnMore
import Derived.Below
import Derived.WalkSmall
import Derived.Lib.LaidTab
import Derived.Lib.AppendIntMem
import Derived.Laws.AppendOwn
import Derived.Laws.Runes
import Derived.Lib.OthersKept
import Derived.Lib.FrozenHead2
import Derived.Lib.Builder
import Derived.Lib.AppendStr
import Derived.Lib.Replace
import Derived.Shelf.GgClosure.GivesRunes
import Derived.Laws.BitsAll
import Derived.Laws.Shifts
import Derived.Deep.DeepAppendRoom
import Derived.Laws.IdiomStrings
import Derived.Laws.BytesString
import Derived.Laws.CopyRow
import Derived.Sort.OwnSorted
import Derived.Lib.SlicesCompact
import Derived.Shelf.Slices.In.SortNone
import Derived.Shelf.Slices.CompactS
import Derived.Sort.KeysCollected
import Derived.Lib.Case
import Derived.Deep.Cut
import Derived.Lib.LastIndexByte
import Derived.Lib.Strings
import Derived.Laws.BitsAllLaws
import Derived.Lib.Bytealg
import Derived.Lib.BufferMore
import Derived.OwnWalk
import Derived.Shelf.Strings.Builder1
import Derived.Shelf.Strings.Builder2
import Derived.Shelf.Strings.OnBuilder
import Derived.Shelf.Strings.Trim
import Derived.Shelf.Small.Utf8
import Derived.Shelf.Small.Bits
import Derived.Shelf.Small.Strs
import Derived.Shelf.Small.Wraps
import Derived.Shelf.Strings.BuilderF
import Derived.Shelf.Strings.BuilderK
import Derived.Shelf.Strings.Builder2Cap
import Derived.Shelf.Strconv.Itoa0
import Derived.Shelf.Strconv.Itoa1
import Derived.Shelf.LaysM
import Derived.Shelf.Strconv.Itoa2
import Derived.Shelf.Strconv.Itoa3
import Derived.Shelf.Strings.Search1
import Derived.Shelf.Strings.Search2
import Derived.Shelf.Strings.Cut
import Derived.Shelf.Strings.Shaped
import Derived.Shelf.Sort.Plain
import Derived.Shelf.Strings.Prefix
import Derived.Shelf.Strings.Runes
import Derived.Shelf.Strings.IndexAny
import Derived.Shelf.Strings.AsciiSet
import Derived.Shelf.Strings.IndexAnyAll
import Derived.Shelf.Unicode.DecodeSlow
import Derived.Shelf.Unicode.DecodeAny
import Derived.Shelf.Unicode.DecodeLast
import Derived.Ground.SlgnProg
import Derived.Shelf.SlicesE.Compact
import Derived.Ground.SlgfProg
import Derived.Shelf.SlicesE.IndexFunc
import Derived.Shelf.SlicesE.DeleteFunc
import Derived.Laws.AppendOwnNone
import Derived.Scope
import Derived.ScopeJumps
import Derived.WalkMore
import Derived.Lib.TrimByte
import Derived.Lib.ItoaNum
import Derived.Deep.WholeRow
import Derived.Lib.SlTrimSet
import Derived.Shelf.Strings.SlTrimAscii
import Derived.Deep.CutRange
import Derived.Laws.Rows
import Derived.Laws.MakeOwn
import Derived.Shelf.Spec.SearchS
import Derived.Sort.Walk0
set_option linter.unusedSimpArgs false
set_option linter.unusedVariables false

namespace Go.Proofs.YtolioccofbhliaaGreatDoor
open Go.RowKit

noncomputable def rg19 : Code := (Tryz.f31.body.bind (regOf 3)).getD .skip

theorem kind_ne19 {w:World} {B n g b:Nat} {v:Value} {X:List Value} {cur:Array Value} {T:TypeId} {fz:Nat×Nat} (h:w.ownsRow B 9 1 v n X) (hg:v.ownBlock=some g) (hb:w.heap[b]? = some (.cells cur T fz)) (hT:T≠9):b≠g:=by
 intro e;subst e;obtain ⟨c,hc⟩:=ownsRow_kind h b hg
 rw [hb] at hc;injection hc with hc
 injection hc with _ hc _
 exact hT hc

theorem own_base19 {W:World} {base base':Nat} {e:TypeId} {size:Nat} {v:Value} {k:Nat} {xs:List Value} (h:W.ownsRow base e size v k xs) (hb:base'≤base):W.ownsRow base' e size v k xs:=by
 rcases h.2 with ⟨h1,h2⟩ | ⟨g,c,cur,h1,h2,h3⟩
 ·exact ⟨h.1,.inl ⟨h1,h2⟩⟩
 ·exact ⟨h.1,.inr ⟨g,c,cur,h1,Nat.le_trans hb h2,h3⟩⟩

theorem set4_19 {w:World} {g:Nat} {x0 x1 x2 x3 a b c d:Value} {T:TypeId} {f:Nat×Nat} (h:w.heap[g]? = some (.cells #[x0,x1,x2,x3] T f)):((((w.setCell ⟨g,0,none⟩ a).setCell ⟨g,1,none⟩ b).setCell ⟨g,2,none⟩ c).setCell ⟨g,3,none⟩ d).heap[g]? = some (.cells #[a,b,c,d] T f):=by
 have h1:=Lib.heap_setCell_same h (i:=0) a;have h2:=Lib.heap_setCell_same h1 (i:=1) b;have h3:=Lib.heap_setCell_same h2 (i:=2) c;exact Lib.heap_setCell_same h3 (i:=3) d

theorem far4_19 {w:World} {g k:Nat} (hne:k≠g) (a b c d:Value):((((w.setCell ⟨g,0,none⟩ a).setCell ⟨g,1,none⟩ b).setCell ⟨g,2,none⟩ c).setCell ⟨g,3,none⟩ d).heap[k]? = w.heap[k]? :=by
 rw [heap_setCell_other _ _ _ _ hne,heap_setCell_other _ _ _ _ hne,heap_setCell_other _ _ _ _ hne,heap_setCell_other _ _ _ _ hne]

theorem below4_19 {B g:Nat} {w0 w:World} (h:Below B w0 w) (hg:B≤g) (a b c d:Value):Below B w0 ((((w.setCell ⟨g,0,none⟩ a).setCell ⟨g,1,none⟩ b).setCell ⟨g,2,none⟩ c).setCell ⟨g,3,none⟩ d):=
 (((h.setCell (p:=⟨g,0,none⟩) hg _).setCell (p:=⟨g,1,none⟩) hg _).setCell (p:=⟨g,2,none⟩) hg _).setCell (p:=⟨g,3,none⟩) hg _

set_option maxHeartbeats 40000000 in
set_option maxRecDepth 100000 in
theorem rr19 (t0 t1 t2 t3 t4 t5 t6 t7 t8 t10 t11 t12 t13 t14 t15 t16 t17 t18 t19 t20 t21 t22 t23 t24 t25 t26 t27 t28 t29 t30 t31 t32 t33 t34 t35 t36 t37 t38 t39 t40 t41 t42 t43 t44 t45 t46 t47 t48 t49 t50 t51 t52 t53 t54 t55 t56 t57 t58 t59 t60 t61 t62 t63 t64:Value) (wr:World) (rb:Nat) (va:Option Addr) (vn vc:Nat) (P1 M P2 R2 N:List (List UInt8)) (age:Int)
 (hr:wr.cell? ⟨rb,1,none⟩=some (.slice va vn vc))
 (HT1:Hid (∀ Y,Below wr.heap.size wr Y→Calls Tryz.prog 82 #[.slice va vn vc,.string ⟨nAM.toArray⟩] Y (TkPost P1 Y)))
 (HO1:Hid (∀ Y v B,Y.ownsRow B 9 1 v P1.length (cellsT P1)→Calls Tryz.prog 81 #[v] Y (IpPost B v M Y)))
 (HT2:Hid (∀ Y,Below wr.heap.size wr Y→Calls Tryz.prog 82 #[.slice va vn vc,.string ⟨nAH.toArray⟩] Y (TkPost P2 Y)))
 (HLo:Hid (∀ Y v,TxAt Y v P2→Calls Tryz.prog 83 #[v] Y (TkPost R2 Y)))
 (HO2:Hid (∀ Y v B,Y.ownsRow B 9 1 v R2.length (cellsT R2)→Calls Tryz.prog 81 #[v] Y (IpPost B v N Y)))
 (HLa:Hid (∀ Y,Below wr.heap.size wr Y→Calls Tryz.prog 84 #[.slice va vn vc] Y fun e w'=>e = .returned (.int .i64 age)∧Below Y.heap.size Y w'))
 (K:Act→World→Prop)
 (HK:Hid (∀ (u30 u31 u32 u33 u34 u35 u36 u37 u38 u39 u40 u41 u42:Value) (b cM cN:Nat) (aM aN:Option Addr) (w2:World),w2.heap[b]? = some (.cells #[.slice aM M.length cM,.slice aN N.length cN,.bool false,.int .i64 age] 60 (0,0))→w2.ownsRow wr.heap.size 9 1 (.slice aM M.length cM) M.length (cellsT M)→w2.ownsRow wr.heap.size 9 1 (.slice aN N.length cN) N.length (cellsT N)→wr.heap.size≤b→(∀ g,(Value.slice aM M.length cM).ownBlock=some g → ∀ g',(Value.slice aN N.length cN).ownBlock=some g'→g≠g')→Below wr.heap.size wr w2→K ⟨#[t0,t1,t2,t3,t4,t5,t6,t7,t8,.pointer (some ⟨rb,0,none⟩),t10,t11,.pointer (some ⟨b,0,none⟩),t13,t14,t15,t16,t17,t18,t19,t20,t21,t22,t23,t24,t25,t26,t27,t28,t29,u30,u31,u32,u33,u34,u35,u36,u37,u38,u39,u40,u41,u42,t43,t44,t45,t46,t47,t48,t49,t50,t51,t52,t53,t54,t55,t56,t57,t58,t59,t60,t61,t62,t63,t64],[]⟩ w2)):
 Code.wp Tryz.prog rg19 (Exit.then K fun _ _ _=>False) ⟨#[t0,t1,t2,t3,t4,t5,t6,t7,t8,.pointer (some ⟨rb,0,none⟩),t10,t11,t12,t13,t14,t15,t16,t17,t18,t19,t20,t21,t22,t23,t24,t25,t26,t27,t28,t29,t30,t31,t32,t33,t34,t35,t36,t37,t38,t39,t40,t41,t42,t43,t44,t45,t46,t47,t48,t49,t50,t51,t52,t53,t54,t55,t56,t57,t58,t59,t60,t61,t62,t63,t64],[]⟩ wr:=by
 have HC0:=hid (fun (wx:World) (hx:Below wr.heap.size wr wx)=>cell_kept3 hr hx);have HQ0:=hid (show Below wr.heap.size wr wr.drew from (Below.refl _ wr).drew);clear hr;unfold TkPost at HT1 HT2 HLo;unfold IpPost at HO1 HO2;simp only [show (⟨nAM.toArray⟩:ByteArray)=⟨#[97,99,99,101,115,115,45,99,111,110,116,114,111,108,45,97,108,108,111,119,45,109,101,116,104,111,100,115]⟩ from rfl] at HT1;simp only [show (⟨nAH.toArray⟩:ByteArray)=⟨#[97,99,99,101,115,115,45,99,111,110,116,114,111,108,45,97,108,108,111,119,45,104,101,97,100,101,114,115]⟩ from rfl] at HT2
 conv=>arg 2;whnf
 refine wp_region_held_drew (S:=(fun wx=>Below wr.heap.size wr wx)) (by kernel_rfl) HQ0.out (fun hHeld=> ?_)
 generalize wr.drew=W0 at HQ0 hHeld ⊢;refine wpAnyH_to (fuel':=15) (listed':= #[false,false,false,false,false,false,false,false,false,false,false,false,false,false,false]) rfl rfl ?_
 refine' wpAnyH_take (i:=0) (oi:=⟨some 30,_,_,_,_,_⟩) (v:=_) rfl (by kernel_rfl) (by kernel_rfl) (by kernel_rfl) (fun _ _ _ h=>h) (Or.inl ⟨by kernel_rfl,?hyrd1⟩) (by assumption) ?restrd1
 case hyrd1=>(intro wx hSw;(try dsimp only at hSw);have k1:=HC0.out wx hSw;go_simp;first | done | with_reducible rfl)
 (try simp only [Act.put,List.setIfInBounds_toArray,List.set_cons_zero,List.set_cons_succ])
 refine' wpAnyH_take (i:=1) (oi:=⟨some 31,_,_,_,_,_⟩) (v:=_) rfl (by kernel_rfl) (by kernel_rfl) (by kernel_rfl) (fun _ _ _ h=>h) (Or.inl ⟨by kernel_rfl,?hyrd2⟩) (by assumption) ?restrd2
 case hyrd2=>(intro wx hSw;(try dsimp only at hSw);have k1:=HC0.out wx hSw;go_simp;first | done | with_reducible rfl)
 (try simp only [Act.put,List.setIfInBounds_toArray,List.set_cons_zero,List.set_cons_succ])
 refine' wpAnyH_take (i:=4) (oi:=⟨some 34,_,_,_,_,_⟩) (v:=_) rfl (by kernel_rfl) (by kernel_rfl) (by kernel_rfl) (fun _ _ _ h=>h) (Or.inl ⟨by kernel_rfl,?hyrd3⟩) (by assumption) ?restrd3
 case hyrd3=>(intro wx hSw;(try dsimp only at hSw);have k1:=HC0.out wx hSw;go_simp;first | done | with_reducible rfl)
 (try simp only [Act.put,List.setIfInBounds_toArray,List.set_cons_zero,List.set_cons_succ])
 refine' wpAnyH_take (i:=5) (oi:=⟨some 35,_,_,_,_,_⟩) (v:=_) rfl (by kernel_rfl) (by kernel_rfl) (by kernel_rfl) (fun _ _ _ h=>h) (Or.inl ⟨by kernel_rfl,?hyrd4⟩) (by assumption) ?restrd4
 case hyrd4=>(intro wx hSw;(try dsimp only at hSw);have k1:=HC0.out wx hSw;go_simp;first | done | with_reducible rfl)
 (try simp only [Act.put,List.setIfInBounds_toArray,List.set_cons_zero,List.set_cons_succ])
 refine' wpAnyH_take (i:=9) (oi:=⟨some 39,_,_,_,_,_⟩) (v:=_) rfl (by kernel_rfl) (by kernel_rfl) (by kernel_rfl) (fun _ _ _ h=>h) (Or.inl ⟨by kernel_rfl,?hyrd5⟩) (by assumption) ?restrd5
 case hyrd5=>(intro wx hSw;(try dsimp only at hSw);have k1:=HC0.out wx hSw;go_simp;first | done | with_reducible rfl)
 (try simp only [Act.put,List.setIfInBounds_toArray,List.set_cons_zero,List.set_cons_succ])
 refine' wpAnyH_take (i:=10) (oi:=⟨some 40,_,_,_,_,_⟩) (v:=_) rfl (by kernel_rfl) (by kernel_rfl) (by kernel_rfl) (fun _ _ _ h=>h) (Or.inl ⟨by kernel_rfl,?hyrd6⟩) (by assumption) ?restrd6
 case hyrd6=>(intro wx hSw;(try dsimp only at hSw);have k1:=HC0.out wx hSw;go_simp;first | done | with_reducible rfl)
 (try simp only [Act.put,List.setIfInBounds_toArray,List.set_cons_zero,List.set_cons_succ])
 refine wpAnyH_ready (rs:=[2,13]) (by kernel_rfl) (by simp) ?_
 refine AllReadyH.cons rfl (fun K9 hK=> ?_) (AllReadyH.cons rfl (fun K9 hK=> ?_) AllReadyH.nil)
 ·as_aux_lemma=>
   rw [if_pos (by kernel_rfl)]
   go_simp
   go_wp2_with (go_at_call 82;refine (HT1.out _ HQ0.out).mono ?_;rintro e w1 ⟨a1,c1,rfl,ho1,hb1⟩)
   have HQ1:=hid (below2 HQ0.out hb1);have HOw1:=hid ho1;clear hb1 ho1;have HBs1:=hid (show wr.heap.size≤W0.heap.size from HQ0.out.size);refine hK.out _ _ HQ1.out (fun hHeld2=> ?_);clear hK K9 hHeld
   rename _=>hHeld
   refine wpAnyH_ready (rs:=[3,13]) (by kernel_rfl) (by simp) ?_
   refine AllReadyH.cons rfl (fun K9 hK=> ?_) (AllReadyH.cons rfl (fun K9 hK=> ?_) AllReadyH.nil)
   ·as_aux_lemma=>
     rw [if_pos (by kernel_rfl)]
     go_simp
     go_wp2_with (go_at_call 81;refine (HO1.out _ _ _ HOw1.out).mono ?_;rintro e w3 ⟨a3,c3,rfl,ho3,hg3,hs3⟩)
     have HQ3:=hid (HQ1.out.grown hg3 HQ1.out.size (fun g hg=>by have:=(HOw1.out.lt g hg).1;have:=HBs1.out;omega));have HOw3:=hid ho3;clear ho3 hg3 hs3;refine hK.out _ _ HQ3.out (fun hHeld2=> ?_);clear hK K9 hHeld
     rename _=>hHeld
     refine wpAnyH_ready (rs:=[6,13]) (by kernel_rfl) (by simp) ?_
     refine AllReadyH.cons rfl (fun K9 hK=> ?_) (AllReadyH.cons rfl (fun K9 hK=> ?_) AllReadyH.nil)
     ·as_aux_lemma=>
       rw [if_pos (by kernel_rfl)]
       go_simp
       go_wp2_with (go_at_call 82;refine (HT2.out _ HQ3.out).mono ?_;rintro e w5 ⟨a5,c5,rfl,ho5,hb5⟩)
       have HQ5:=hid (below2 HQ3.out hb5);have HLM5:=hid (fun g (hg:(.slice a3 M.length c3:Value).ownBlock=some g)=>(HOw3.out.lt g hg).2);have HM5:=hid (own_same HOw3.out hb5);have HOw5:=hid ho5;clear hb5 ho5;have HBs5:=hid (show wr.heap.size≤w3.heap.size from HQ3.out.size);refine hK.out _ _ HQ5.out (fun hHeld2=> ?_);clear hK K9 hHeld
       rename _=>hHeld
       refine wpAnyH_ready (rs:=[7,13]) (by kernel_rfl) (by simp) ?_
       refine AllReadyH.cons rfl (fun K9 hK=> ?_) (AllReadyH.cons rfl (fun K9 hK=> ?_) AllReadyH.nil)
       ·as_aux_lemma=>
         rw [if_pos (by kernel_rfl)]
         go_simp
         go_wp2_with (go_at_call 83;refine (HLo.out _ _ (own_txt' HOw5.out)).mono ?_;rintro e w7 ⟨a7,c7,rfl,ho7,hb7⟩)
         have HQ7:=hid (below2 HQ5.out hb7);have HLM7:=hid (fun g (hg:(.slice a3 M.length c3:Value).ownBlock=some g)=>(HM5.out.lt g hg).2);have HLP7:=hid (fun g (hg:(.slice a5 P2.length c5:Value).ownBlock=some g)=>(HOw5.out.lt g hg).2);have HM7:=hid (own_same HM5.out hb7);have HP7:=hid (own_same HOw5.out hb7);have HOw7:=hid ho7;clear hb7 ho7;have HBs7:=hid (show wr.heap.size≤w5.heap.size from HQ5.out.size);refine hK.out _ _ HQ7.out (fun hHeld2=> ?_);clear hK K9 hHeld
         rename _=>hHeld
         refine wpAnyH_ready (rs:=[8,13]) (by kernel_rfl) (by simp) ?_
         refine AllReadyH.cons rfl (fun K9 hK=> ?_) (AllReadyH.cons rfl (fun K9 hK=> ?_) AllReadyH.nil)
         ·as_aux_lemma=>
           rw [if_pos (by kernel_rfl)]
           go_simp
           go_wp2_with (go_at_call 81;refine (HO2.out _ _ _ HOw7.out).mono ?_;rintro e w9 ⟨a9,c9,rfl,ho9,hg9,hs9⟩)
           have HQ9:=hid (HQ7.out.grown hg9 HQ7.out.size (fun g hg=>by have:=(HOw7.out.lt g hg).1;have:=HBs7.out;omega));have HM9:=hid (ownsRow_same HM7.out (fun g hgk=>hg9.block g (HM7.out.lt g hgk).2 (fun e=>by have:=(HOw7.out.lt g e.symm).1;have:=HLM7.out g hgk;omega)));have HLM9:=hid (fun g (hg:(.slice a3 M.length c3:Value).ownBlock=some g) g' (hg':(Value.slice a9 N.length c9).ownBlock=some g')=>(show g≠g' from by have:=(HOw7.out.lt g' (hs9 g' hg')).1;have:=HLM7.out g hg;omega));have HOw9:=hid ho9;clear ho9 hg9 hs9;refine hK.out _ _ HQ9.out (fun hHeld2=> ?_);clear hK K9 hHeld
           rename _=>hHeld
           refine wpAnyH_ready (rs:=[11,13]) (by kernel_rfl) (by simp) ?_
           refine AllReadyH.cons rfl (fun K9 hK=> ?_) (AllReadyH.cons rfl (fun K9 hK=> ?_) AllReadyH.nil)
           ·as_aux_lemma=>
             rw [if_pos (by kernel_rfl)]
             go_simp
             go_wp2_with (go_at_call 84;refine (HLa.out _ HQ9.out).mono ?_;rintro e w11 ⟨rfl,hb11⟩)
             have HQ11:=hid (below2 HQ9.out hb11);have HM11:=hid (own_same HM9.out hb11);have HN11:=hid (own_same HOw9.out hb11);clear hb11;refine hK.out _ _ HQ11.out (fun hHeld2=> ?_);clear hK K9 hHeld
             rename _=>hHeld
             refine' wpAnyH_take (i:=12) (oi:=⟨some 42,_,_,_,_,_⟩) (v:=_) rfl (by kernel_rfl) (by kernel_rfl) (by kernel_rfl) (fun _ _ _ h=>h) (Or.inl ⟨by kernel_rfl,?hyrd7⟩) (by assumption) ?restrd7
             case hyrd7=>(intro wx hSw;(try dsimp only at hSw);have k1:=HC0.out wx hSw;go_simp;first | done | with_reducible rfl)
             (try simp only [Act.put,List.setIfInBounds_toArray,List.set_cons_zero,List.set_cons_succ])
             refine wpAnyH_ready (rs:=[13]) (by kernel_rfl) (by simp) ?_
             refine AllReadyH.cons rfl (fun K9 hK=> ?_) AllReadyH.nil;rw [if_pos (by kernel_rfl)]
             go_simp
             have hb13:Below w11.heap.size w11 (w11.alloc (.cells #[.slice none 0 0,.slice none 0 0,.bool false,.int .i64 0] 60)):=(Below.refl _ w11).alloc (Nat.le_refl _) _;have hx13:(w11.alloc (.cells #[.slice none 0 0,.slice none 0 0,.bool false,.int .i64 0] 60)).heap[w11.heap.size]? = some (.cells #[.slice none 0 0,.slice none 0 0,.bool false,.int .i64 0] 60 (0,0)):=heap_alloc_new w11 _;have HBb13:=hid (show wr.heap.size≤w11.heap.size from HQ11.out.size);generalize (w11.alloc (.cells #[.slice none 0 0,.slice none 0 0,.bool false,.int .i64 0] 60))=w13 at hb13 hx13 ⊢
             have HQ13:=hid (below2 HQ11.out hb13);have HM13:=hid (own_same HM11.out hb13);have HN13:=hid (own_same HN11.out hb13);have HG13:=hid hx13;clear hb13 hx13;refine hK.out _ _ HQ13.out (fun hHeld2=> ?_);clear hK K9 hHeld
             rename _=>hHeld
             have d0:w13.cell? ⟨w11.heap.size,0,none⟩=some (.slice none 0 0):=by rw [Lib.cell_of_heap HG13.out];rfl
             have f0:w13.frozen? ⟨w11.heap.size,0,none⟩=false:=Lib.frozen_of_heap HG13.out 0
             have d1:w13.cell? ⟨w11.heap.size,1,none⟩=some (.slice none 0 0):=by rw [Lib.cell_of_heap HG13.out];rfl
             have f1:w13.frozen? ⟨w11.heap.size,1,none⟩=false:=Lib.frozen_of_heap HG13.out 1
             have d2:w13.cell? ⟨w11.heap.size,2,none⟩=some (.bool false):=by rw [Lib.cell_of_heap HG13.out];rfl
             have f2:w13.frozen? ⟨w11.heap.size,2,none⟩=false:=Lib.frozen_of_heap HG13.out 2
             have d3:w13.cell? ⟨w11.heap.size,3,none⟩=some (.int .i64 0):=by rw [Lib.cell_of_heap HG13.out];rfl
             have f3:w13.frozen? ⟨w11.heap.size,3,none⟩=false:=Lib.frozen_of_heap HG13.out 3
             have hbb:=HBb13.out;refine wpAnyH_ready (rs:=[14]) (by kernel_rfl) (by simp) ?_
             refine AllReadyH.cons rfl (fun K9 hK=> ?_) AllReadyH.nil;rw [if_pos (by kernel_rfl)]
             go_simp
             go_wp2_with fail
             have HQe:=hid (below4_19 (g:=w11.heap.size) HQ13.out hbb (.slice a3 M.length c3) (.slice a9 N.length c9) (.bool false) (.int .i64 age));refine hK.out _ _ HQe.out (fun hHeld2=> ?_);clear hK K9 hHeld
             rename _=>hHeld
             refine wpAnyH_done (by kernel_rfl) ?_ _
             refine HK.out _ _ _ _ _ _ _ _ _ _ _ _ _ _ _ _ _ _ _ (set4_19 HG13.out) ?_ ?_ hbb HLM9.out HQe.out
             ·exact own_base19 (ownsRow_same HM13.out (fun g hg=>far4_19 (fun e=>kind_ne19 HM13.out hg HG13.out (by decide) e.symm) _ _ _ _)) HBs1.out
             ·exact own_base19 (ownsRow_same HN13.out (fun g hg=>far4_19 (fun e=>kind_ne19 HN13.out hg HG13.out (by decide) e.symm) _ _ _ _)) HBs7.out
           ·as_aux_lemma=>
             rw [if_pos (by kernel_rfl)]
             go_simp
             have hb12:Below w9.heap.size w9 (w9.alloc (.cells #[.slice none 0 0,.slice none 0 0,.bool false,.int .i64 0] 60)):=(Below.refl _ w9).alloc (Nat.le_refl _) _;have hx12:(w9.alloc (.cells #[.slice none 0 0,.slice none 0 0,.bool false,.int .i64 0] 60)).heap[w9.heap.size]? = some (.cells #[.slice none 0 0,.slice none 0 0,.bool false,.int .i64 0] 60 (0,0)):=heap_alloc_new w9 _;have HBb12:=hid (show wr.heap.size≤w9.heap.size from HQ9.out.size);generalize (w9.alloc (.cells #[.slice none 0 0,.slice none 0 0,.bool false,.int .i64 0] 60))=w12 at hb12 hx12 ⊢
             have HQ12:=hid (below2 HQ9.out hb12);have HM12:=hid (own_same HM9.out hb12);have HN12:=hid (own_same HOw9.out hb12);have HG12:=hid hx12;clear hb12 hx12;refine hK.out _ _ HQ12.out (fun hHeld2=> ?_);clear hK K9 hHeld
             rename _=>hHeld
             refine wpAnyH_ready (rs:=[11]) (by kernel_rfl) (by simp) ?_
             refine AllReadyH.cons rfl (fun K9 hK=> ?_) AllReadyH.nil;rw [if_pos (by kernel_rfl)]
             go_simp
             go_wp2_with (go_at_call 84;refine (HLa.out _ HQ12.out).mono ?_;rintro e w15 ⟨rfl,hb15⟩)
             have HQ15:=hid (below2 HQ12.out hb15);have HM15:=hid (own_same HM12.out hb15);have HN15:=hid (own_same HN12.out hb15);have HG15:=hid ((hb15.block w9.heap.size (Array.getElem?_eq_some_iff.1 HG12.out).1).trans HG12.out);clear hb15;refine hK.out _ _ HQ15.out (fun hHeld2=> ?_);clear hK K9 hHeld
             rename _=>hHeld
             refine' wpAnyH_take (i:=12) (oi:=⟨some 42,_,_,_,_,_⟩) (v:=_) rfl (by kernel_rfl) (by kernel_rfl) (by kernel_rfl) (fun _ _ _ h=>h) (Or.inl ⟨by kernel_rfl,?hyrd8⟩) (by assumption) ?restrd8
             case hyrd8=>(intro wx hSw;(try dsimp only at hSw);have k1:=HC0.out wx hSw;go_simp;first | done | with_reducible rfl)
             (try simp only [Act.put,List.setIfInBounds_toArray,List.set_cons_zero,List.set_cons_succ])
             have d0:w15.cell? ⟨w9.heap.size,0,none⟩=some (.slice none 0 0):=by rw [Lib.cell_of_heap HG15.out];rfl
             have f0:w15.frozen? ⟨w9.heap.size,0,none⟩=false:=Lib.frozen_of_heap HG15.out 0
             have d1:w15.cell? ⟨w9.heap.size,1,none⟩=some (.slice none 0 0):=by rw [Lib.cell_of_heap HG15.out];rfl
             have f1:w15.frozen? ⟨w9.heap.size,1,none⟩=false:=Lib.frozen_of_heap HG15.out 1
             have d2:w15.cell? ⟨w9.heap.size,2,none⟩=some (.bool false):=by rw [Lib.cell_of_heap HG15.out];rfl
             have f2:w15.frozen? ⟨w9.heap.size,2,none⟩=false:=Lib.frozen_of_heap HG15.out 2
             have d3:w15.cell? ⟨w9.heap.size,3,none⟩=some (.int .i64 0):=by rw [Lib.cell_of_heap HG15.out];rfl
             have f3:w15.frozen? ⟨w9.heap.size,3,none⟩=false:=Lib.frozen_of_heap HG15.out 3
             have hbb:=HBb12.out;refine wpAnyH_ready (rs:=[14]) (by kernel_rfl) (by simp) ?_
             refine AllReadyH.cons rfl (fun K9 hK=> ?_) AllReadyH.nil;rw [if_pos (by kernel_rfl)]
             go_simp
             go_wp2_with fail
             have HQe:=hid (below4_19 (g:=w9.heap.size) HQ15.out hbb (.slice a3 M.length c3) (.slice a9 N.length c9) (.bool false) (.int .i64 age));refine hK.out _ _ HQe.out (fun hHeld2=> ?_);clear hK K9 hHeld
             rename _=>hHeld
             refine wpAnyH_done (by kernel_rfl) ?_ _
             refine HK.out _ _ _ _ _ _ _ _ _ _ _ _ _ _ _ _ _ _ _ (set4_19 HG15.out) ?_ ?_ hbb HLM9.out HQe.out
             ·exact own_base19 (ownsRow_same HM15.out (fun g hg=>far4_19 (fun e=>kind_ne19 HM15.out hg HG15.out (by decide) e.symm) _ _ _ _)) HBs1.out
             ·exact own_base19 (ownsRow_same HN15.out (fun g hg=>far4_19 (fun e=>kind_ne19 HN15.out hg HG15.out (by decide) e.symm) _ _ _ _)) HBs7.out
         ·as_aux_lemma=>
           rw [if_pos (by kernel_rfl)]
           go_simp
           have hb10:Below w7.heap.size w7 (w7.alloc (.cells #[.slice none 0 0,.slice none 0 0,.bool false,.int .i64 0] 60)):=(Below.refl _ w7).alloc (Nat.le_refl _) _;have hx10:(w7.alloc (.cells #[.slice none 0 0,.slice none 0 0,.bool false,.int .i64 0] 60)).heap[w7.heap.size]? = some (.cells #[.slice none 0 0,.slice none 0 0,.bool false,.int .i64 0] 60 (0,0)):=heap_alloc_new w7 _;have HBb10:=hid (show wr.heap.size≤w7.heap.size from HQ7.out.size);generalize (w7.alloc (.cells #[.slice none 0 0,.slice none 0 0,.bool false,.int .i64 0] 60))=w10 at hb10 hx10 ⊢;have HQ10:=hid (below2 HQ7.out hb10)
           have HM10:=hid (own_same HM7.out hb10);have HR10:=hid (own_same HOw7.out hb10);have HG10:=hid hx10;clear hb10 hx10;refine hK.out _ _ HQ10.out (fun hHeld2=> ?_);clear hK K9 hHeld
           rename _=>hHeld
           refine wpAnyH_ready (rs:=[8]) (by kernel_rfl) (by simp) ?_
           refine AllReadyH.cons rfl (fun K9 hK=> ?_) AllReadyH.nil;rw [if_pos (by kernel_rfl)]
           go_simp
           go_wp2_with (go_at_call 81;refine (HO2.out _ _ _ HR10.out).mono ?_;rintro e w17 ⟨a17,c17,rfl,ho17,hg17,hs17⟩)
           have HQ17:=hid (HQ10.out.grown hg17 HQ10.out.size (fun g hg=>by have:=(HR10.out.lt g hg).1;have:=HBs7.out;omega));have HM17:=hid (ownsRow_same HM10.out (fun g hgk=>hg17.block g (HM10.out.lt g hgk).2 (fun e=>by have:=(HR10.out.lt g e.symm).1;have:=HLM7.out g hgk;omega)));have HG17:=hid ((hg17.block w7.heap.size (Array.getElem?_eq_some_iff.1 HG10.out).1 (fun e=>kind_ne19 HR10.out e.symm HG10.out (by decide) rfl)).trans HG10.out)
           have HLM17:=hid (fun g (hg:(.slice a3 M.length c3:Value).ownBlock=some g) g' (hg':(Value.slice a17 N.length c17).ownBlock=some g')=>(show g≠g' from by have:=(HR10.out.lt g' (hs17 g' hg')).1;have:=HLM7.out g hg;omega));have HOw17:=hid ho17;clear ho17 hg17 hs17;refine hK.out _ _ HQ17.out (fun hHeld2=> ?_);clear hK K9 hHeld
           rename _=>hHeld
           refine wpAnyH_ready (rs:=[11]) (by kernel_rfl) (by simp) ?_
           refine AllReadyH.cons rfl (fun K9 hK=> ?_) AllReadyH.nil;rw [if_pos (by kernel_rfl)]
           go_simp
           go_wp2_with (go_at_call 84;refine (HLa.out _ HQ17.out).mono ?_;rintro e w18 ⟨rfl,hb18⟩)
           have HQ18:=hid (below2 HQ17.out hb18);have HM18:=hid (own_same HM17.out hb18);have HN18:=hid (own_same HOw17.out hb18);have HG18:=hid ((hb18.block w7.heap.size (Array.getElem?_eq_some_iff.1 HG17.out).1).trans HG17.out);clear hb18;refine hK.out _ _ HQ18.out (fun hHeld2=> ?_);clear hK K9 hHeld
           rename _=>hHeld
           refine' wpAnyH_take (i:=12) (oi:=⟨some 42,_,_,_,_,_⟩) (v:=_) rfl (by kernel_rfl) (by kernel_rfl) (by kernel_rfl) (fun _ _ _ h=>h) (Or.inl ⟨by kernel_rfl,?hyrd9⟩) (by assumption) ?restrd9
           case hyrd9=>(intro wx hSw;(try dsimp only at hSw);have k1:=HC0.out wx hSw;go_simp;first | done | with_reducible rfl)
           (try simp only [Act.put,List.setIfInBounds_toArray,List.set_cons_zero,List.set_cons_succ])
           have d0:w18.cell? ⟨w7.heap.size,0,none⟩=some (.slice none 0 0):=by rw [Lib.cell_of_heap HG18.out];rfl
           have f0:w18.frozen? ⟨w7.heap.size,0,none⟩=false:=Lib.frozen_of_heap HG18.out 0
           have d1:w18.cell? ⟨w7.heap.size,1,none⟩=some (.slice none 0 0):=by rw [Lib.cell_of_heap HG18.out];rfl
           have f1:w18.frozen? ⟨w7.heap.size,1,none⟩=false:=Lib.frozen_of_heap HG18.out 1
           have d2:w18.cell? ⟨w7.heap.size,2,none⟩=some (.bool false):=by rw [Lib.cell_of_heap HG18.out];rfl
           have f2:w18.frozen? ⟨w7.heap.size,2,none⟩=false:=Lib.frozen_of_heap HG18.out 2
           have d3:w18.cell? ⟨w7.heap.size,3,none⟩=some (.int .i64 0):=by rw [Lib.cell_of_heap HG18.out];rfl
           have f3:w18.frozen? ⟨w7.heap.size,3,none⟩=false:=Lib.frozen_of_heap HG18.out 3
           have hbb:=HBb10.out;refine wpAnyH_ready (rs:=[14]) (by kernel_rfl) (by simp) ?_
           refine AllReadyH.cons rfl (fun K9 hK=> ?_) AllReadyH.nil;rw [if_pos (by kernel_rfl)]
           go_simp
           go_wp2_with fail
           have HQe:=hid (below4_19 (g:=w7.heap.size) HQ18.out hbb (.slice a3 M.length c3) (.slice a17 N.length c17) (.bool false) (.int .i64 age));refine hK.out _ _ HQe.out (fun hHeld2=> ?_);clear hK K9 hHeld
           rename _=>hHeld
           refine wpAnyH_done (by kernel_rfl) ?_ _
           refine HK.out _ _ _ _ _ _ _ _ _ _ _ _ _ _ _ _ _ _ _ (set4_19 HG18.out) ?_ ?_ hbb HLM17.out HQe.out
           ·exact own_base19 (ownsRow_same HM18.out (fun g hg=>far4_19 (fun e=>kind_ne19 HM18.out hg HG18.out (by decide) e.symm) _ _ _ _)) HBs1.out
           ·exact own_base19 (ownsRow_same HN18.out (fun g hg=>far4_19 (fun e=>kind_ne19 HN18.out hg HG18.out (by decide) e.symm) _ _ _ _)) HBs7.out
       ·as_aux_lemma=>
         rw [if_pos (by kernel_rfl)]
         go_simp
         have hb8:Below w5.heap.size w5 (w5.alloc (.cells #[.slice none 0 0,.slice none 0 0,.bool false,.int .i64 0] 60)):=(Below.refl _ w5).alloc (Nat.le_refl _) _;have hx8:(w5.alloc (.cells #[.slice none 0 0,.slice none 0 0,.bool false,.int .i64 0] 60)).heap[w5.heap.size]? = some (.cells #[.slice none 0 0,.slice none 0 0,.bool false,.int .i64 0] 60 (0,0)):=heap_alloc_new w5 _;have HBb8:=hid (show wr.heap.size≤w5.heap.size from HQ5.out.size);generalize (w5.alloc (.cells #[.slice none 0 0,.slice none 0 0,.bool false,.int .i64 0] 60))=w8 at hb8 hx8 ⊢;have HQ8:=hid (below2 HQ5.out hb8)
         have HM8:=hid (own_same HM5.out hb8);have HP8:=hid (own_same HOw5.out hb8);have HG8:=hid hx8;clear hb8 hx8;refine hK.out _ _ HQ8.out (fun hHeld2=> ?_);clear hK K9 hHeld
         rename _=>hHeld
         refine wpAnyH_ready (rs:=[7]) (by kernel_rfl) (by simp) ?_
         refine AllReadyH.cons rfl (fun K9 hK=> ?_) AllReadyH.nil;rw [if_pos (by kernel_rfl)]
         go_simp
         go_wp2_with (go_at_call 83;refine (HLo.out _ _ (own_txt' HP8.out)).mono ?_;rintro e w20 ⟨a20,c20,rfl,ho20,hb20⟩)
         have HQ20:=hid (below2 HQ8.out hb20);have HLM20:=hid (fun g (hg:(.slice a3 M.length c3:Value).ownBlock=some g)=>(HM8.out.lt g hg).2);have HLP20:=hid (fun g (hg:(.slice a5 P2.length c5:Value).ownBlock=some g)=>(HP8.out.lt g hg).2);have HM20:=hid (own_same HM8.out hb20);have HP20:=hid (own_same HP8.out hb20);have HG20:=hid ((hb20.block w5.heap.size (Array.getElem?_eq_some_iff.1 HG8.out).1).trans HG8.out);have HOw20:=hid ho20;clear hb20 ho20;have HBs20:=hid (show wr.heap.size≤w8.heap.size from HQ8.out.size);refine hK.out _ _ HQ20.out (fun hHeld2=> ?_);clear hK K9 hHeld
         rename _=>hHeld
         refine wpAnyH_ready (rs:=[8]) (by kernel_rfl) (by simp) ?_
         refine AllReadyH.cons rfl (fun K9 hK=> ?_) AllReadyH.nil;rw [if_pos (by kernel_rfl)]
         go_simp
         go_wp2_with (go_at_call 81;refine (HO2.out _ _ _ HOw20.out).mono ?_;rintro e w21 ⟨a21,c21,rfl,ho21,hg21,hs21⟩)
         have HQ21:=hid (HQ20.out.grown hg21 HQ20.out.size (fun g hg=>by have:=(HOw20.out.lt g hg).1;have:=HBs20.out;omega));have HM21:=hid (ownsRow_same HM20.out (fun g hgk=>hg21.block g (HM20.out.lt g hgk).2 (fun e=>by have:=(HOw20.out.lt g e.symm).1;have:=HLM20.out g hgk;omega)));have HG21:=hid ((hg21.block w5.heap.size (Array.getElem?_eq_some_iff.1 HG20.out).1 (fun e=>kind_ne19 HOw20.out e.symm HG20.out (by decide) rfl)).trans HG20.out)
         have HLM21:=hid (fun g (hg:(.slice a3 M.length c3:Value).ownBlock=some g) g' (hg':(Value.slice a21 N.length c21).ownBlock=some g')=>(show g≠g' from by have:=(HOw20.out.lt g' (hs21 g' hg')).1;have:=HLM20.out g hg;omega));have HOw21:=hid ho21;clear ho21 hg21 hs21;refine hK.out _ _ HQ21.out (fun hHeld2=> ?_);clear hK K9 hHeld
         rename _=>hHeld
         refine wpAnyH_ready (rs:=[11]) (by kernel_rfl) (by simp) ?_
         refine AllReadyH.cons rfl (fun K9 hK=> ?_) AllReadyH.nil;rw [if_pos (by kernel_rfl)]
         go_simp
         go_wp2_with (go_at_call 84;refine (HLa.out _ HQ21.out).mono ?_;rintro e w22 ⟨rfl,hb22⟩)
         have HQ22:=hid (below2 HQ21.out hb22);have HM22:=hid (own_same HM21.out hb22);have HN22:=hid (own_same HOw21.out hb22);have HG22:=hid ((hb22.block w5.heap.size (Array.getElem?_eq_some_iff.1 HG21.out).1).trans HG21.out);clear hb22;refine hK.out _ _ HQ22.out (fun hHeld2=> ?_);clear hK K9 hHeld
         rename _=>hHeld
         refine' wpAnyH_take (i:=12) (oi:=⟨some 42,_,_,_,_,_⟩) (v:=_) rfl (by kernel_rfl) (by kernel_rfl) (by kernel_rfl) (fun _ _ _ h=>h) (Or.inl ⟨by kernel_rfl,?hyrd10⟩) (by assumption) ?restrd10
         case hyrd10=>(intro wx hSw;(try dsimp only at hSw);have k1:=HC0.out wx hSw;go_simp;first | done | with_reducible rfl)
         (try simp only [Act.put,List.setIfInBounds_toArray,List.set_cons_zero,List.set_cons_succ])
         have d0:w22.cell? ⟨w5.heap.size,0,none⟩=some (.slice none 0 0):=by rw [Lib.cell_of_heap HG22.out];rfl
         have f0:w22.frozen? ⟨w5.heap.size,0,none⟩=false:=Lib.frozen_of_heap HG22.out 0
         have d1:w22.cell? ⟨w5.heap.size,1,none⟩=some (.slice none 0 0):=by rw [Lib.cell_of_heap HG22.out];rfl
         have f1:w22.frozen? ⟨w5.heap.size,1,none⟩=false:=Lib.frozen_of_heap HG22.out 1
         have d2:w22.cell? ⟨w5.heap.size,2,none⟩=some (.bool false):=by rw [Lib.cell_of_heap HG22.out];rfl
         have f2:w22.frozen? ⟨w5.heap.size,2,none⟩=false:=Lib.frozen_of_heap HG22.out 2
         have d3:w22.cell? ⟨w5.heap.size,3,none⟩=some (.int .i64 0):=by rw [Lib.cell_of_heap HG22.out];rfl
         have f3:w22.frozen? ⟨w5.heap.size,3,none⟩=false:=Lib.frozen_of_heap HG22.out 3
         have hbb:=HBb8.out;refine wpAnyH_ready (rs:=[14]) (by kernel_rfl) (by simp) ?_
         refine AllReadyH.cons rfl (fun K9 hK=> ?_) AllReadyH.nil;rw [if_pos (by kernel_rfl)]
         go_simp
         go_wp2_with fail
         have HQe:=hid (below4_19 (g:=w5.heap.size) HQ22.out hbb (.slice a3 M.length c3) (.slice a21 N.length c21) (.bool false) (.int .i64 age));refine hK.out _ _ HQe.out (fun hHeld2=> ?_);clear hK K9 hHeld
         rename _=>hHeld
         refine wpAnyH_done (by kernel_rfl) ?_ _
         refine HK.out _ _ _ _ _ _ _ _ _ _ _ _ _ _ _ _ _ _ _ (set4_19 HG22.out) ?_ ?_ hbb HLM21.out HQe.out
         ·exact own_base19 (ownsRow_same HM22.out (fun g hg=>far4_19 (fun e=>kind_ne19 HM22.out hg HG22.out (by decide) e.symm) _ _ _ _)) HBs1.out
         ·exact own_base19 (ownsRow_same HN22.out (fun g hg=>far4_19 (fun e=>kind_ne19 HN22.out hg HG22.out (by decide) e.symm) _ _ _ _)) HBs20.out
     ·as_aux_lemma=>
       rw [if_pos (by kernel_rfl)]
       go_simp
       have hb6:Below w3.heap.size w3 (w3.alloc (.cells #[.slice none 0 0,.slice none 0 0,.bool false,.int .i64 0] 60)):=(Below.refl _ w3).alloc (Nat.le_refl _) _;have hx6:(w3.alloc (.cells #[.slice none 0 0,.slice none 0 0,.bool false,.int .i64 0] 60)).heap[w3.heap.size]? = some (.cells #[.slice none 0 0,.slice none 0 0,.bool false,.int .i64 0] 60 (0,0)):=heap_alloc_new w3 _;have HBb6:=hid (show wr.heap.size≤w3.heap.size from HQ3.out.size);generalize (w3.alloc (.cells #[.slice none 0 0,.slice none 0 0,.bool false,.int .i64 0] 60))=w6 at hb6 hx6 ⊢;have HQ6:=hid (below2 HQ3.out hb6)
       have HM6:=hid (own_same HOw3.out hb6);have HG6:=hid hx6;clear hb6 hx6;refine hK.out _ _ HQ6.out (fun hHeld2=> ?_);clear hK K9 hHeld
       rename _=>hHeld
       refine wpAnyH_ready (rs:=[6]) (by kernel_rfl) (by simp) ?_
       refine AllReadyH.cons rfl (fun K9 hK=> ?_) AllReadyH.nil;rw [if_pos (by kernel_rfl)]
       go_simp
       go_wp2_with (go_at_call 82;refine (HT2.out _ HQ6.out).mono ?_;rintro e w24 ⟨a24,c24,rfl,ho24,hb24⟩)
       have HQ24:=hid (below2 HQ6.out hb24);have HLM24:=hid (fun g (hg:(.slice a3 M.length c3:Value).ownBlock=some g)=>(HM6.out.lt g hg).2);have HM24:=hid (own_same HM6.out hb24);have HG24:=hid ((hb24.block w3.heap.size (Array.getElem?_eq_some_iff.1 HG6.out).1).trans HG6.out);have HOw24:=hid ho24;clear hb24 ho24;have HBs24:=hid (show wr.heap.size≤w6.heap.size from HQ6.out.size);refine hK.out _ _ HQ24.out (fun hHeld2=> ?_);clear hK K9 hHeld
       rename _=>hHeld
       refine wpAnyH_ready (rs:=[7]) (by kernel_rfl) (by simp) ?_
       refine AllReadyH.cons rfl (fun K9 hK=> ?_) AllReadyH.nil;rw [if_pos (by kernel_rfl)]
       go_simp
       go_wp2_with (go_at_call 83;refine (HLo.out _ _ (own_txt' HOw24.out)).mono ?_;rintro e w25 ⟨a25,c25,rfl,ho25,hb25⟩)
       have HQ25:=hid (below2 HQ24.out hb25);have HLM25:=hid (fun g (hg:(.slice a3 M.length c3:Value).ownBlock=some g)=>(HM24.out.lt g hg).2);have HLP25:=hid (fun g (hg:(.slice a24 P2.length c24:Value).ownBlock=some g)=>(HOw24.out.lt g hg).2);have HM25:=hid (own_same HM24.out hb25);have HP25:=hid (own_same HOw24.out hb25);have HG25:=hid ((hb25.block w3.heap.size (Array.getElem?_eq_some_iff.1 HG24.out).1).trans HG24.out);have HOw25:=hid ho25;clear hb25 ho25;have HBs25:=hid (show wr.heap.size≤w24.heap.size from HQ24.out.size);refine hK.out _ _ HQ25.out (fun hHeld2=> ?_);clear hK K9 hHeld
       rename _=>hHeld
       refine wpAnyH_ready (rs:=[8]) (by kernel_rfl) (by simp) ?_
       refine AllReadyH.cons rfl (fun K9 hK=> ?_) AllReadyH.nil;rw [if_pos (by kernel_rfl)]
       go_simp
       go_wp2_with (go_at_call 81;refine (HO2.out _ _ _ HOw25.out).mono ?_;rintro e w26 ⟨a26,c26,rfl,ho26,hg26,hs26⟩)
       have HQ26:=hid (HQ25.out.grown hg26 HQ25.out.size (fun g hg=>by have:=(HOw25.out.lt g hg).1;have:=HBs25.out;omega));have HM26:=hid (ownsRow_same HM25.out (fun g hgk=>hg26.block g (HM25.out.lt g hgk).2 (fun e=>by have:=(HOw25.out.lt g e.symm).1;have:=HLM25.out g hgk;omega)));have HG26:=hid ((hg26.block w3.heap.size (Array.getElem?_eq_some_iff.1 HG25.out).1 (fun e=>kind_ne19 HOw25.out e.symm HG25.out (by decide) rfl)).trans HG25.out)
       have HLM26:=hid (fun g (hg:(.slice a3 M.length c3:Value).ownBlock=some g) g' (hg':(Value.slice a26 N.length c26).ownBlock=some g')=>(show g≠g' from by have:=(HOw25.out.lt g' (hs26 g' hg')).1;have:=HLM25.out g hg;omega));have HOw26:=hid ho26;clear ho26 hg26 hs26;refine hK.out _ _ HQ26.out (fun hHeld2=> ?_);clear hK K9 hHeld
       rename _=>hHeld
       refine wpAnyH_ready (rs:=[11]) (by kernel_rfl) (by simp) ?_
       refine AllReadyH.cons rfl (fun K9 hK=> ?_) AllReadyH.nil;rw [if_pos (by kernel_rfl)]
       go_simp
       go_wp2_with (go_at_call 84;refine (HLa.out _ HQ26.out).mono ?_;rintro e w27 ⟨rfl,hb27⟩)
       have HQ27:=hid (below2 HQ26.out hb27);have HM27:=hid (own_same HM26.out hb27);have HN27:=hid (own_same HOw26.out hb27);have HG27:=hid ((hb27.block w3.heap.size (Array.getElem?_eq_some_iff.1 HG26.out).1).trans HG26.out);clear hb27;refine hK.out _ _ HQ27.out (fun hHeld2=> ?_);clear hK K9 hHeld
       rename _=>hHeld
       refine' wpAnyH_take (i:=12) (oi:=⟨some 42,_,_,_,_,_⟩) (v:=_) rfl (by kernel_rfl) (by kernel_rfl) (by kernel_rfl) (fun _ _ _ h=>h) (Or.inl ⟨by kernel_rfl,?hyrd11⟩) (by assumption) ?restrd11
       case hyrd11=>(intro wx hSw;(try dsimp only at hSw);have k1:=HC0.out wx hSw;go_simp;first | done | with_reducible rfl)
       (try simp only [Act.put,List.setIfInBounds_toArray,List.set_cons_zero,List.set_cons_succ])
       have d0:w27.cell? ⟨w3.heap.size,0,none⟩=some (.slice none 0 0):=by rw [Lib.cell_of_heap HG27.out];rfl
       have f0:w27.frozen? ⟨w3.heap.size,0,none⟩=false:=Lib.frozen_of_heap HG27.out 0
       have d1:w27.cell? ⟨w3.heap.size,1,none⟩=some (.slice none 0 0):=by rw [Lib.cell_of_heap HG27.out];rfl
       have f1:w27.frozen? ⟨w3.heap.size,1,none⟩=false:=Lib.frozen_of_heap HG27.out 1
       have d2:w27.cell? ⟨w3.heap.size,2,none⟩=some (.bool false):=by rw [Lib.cell_of_heap HG27.out];rfl
       have f2:w27.frozen? ⟨w3.heap.size,2,none⟩=false:=Lib.frozen_of_heap HG27.out 2
       have d3:w27.cell? ⟨w3.heap.size,3,none⟩=some (.int .i64 0):=by rw [Lib.cell_of_heap HG27.out];rfl
       have f3:w27.frozen? ⟨w3.heap.size,3,none⟩=false:=Lib.frozen_of_heap HG27.out 3
       have hbb:=HBb6.out;refine wpAnyH_ready (rs:=[14]) (by kernel_rfl) (by simp) ?_
       refine AllReadyH.cons rfl (fun K9 hK=> ?_) AllReadyH.nil;rw [if_pos (by kernel_rfl)]
       go_simp
       go_wp2_with fail
       have HQe:=hid (below4_19 (g:=w3.heap.size) HQ27.out hbb (.slice a3 M.length c3) (.slice a26 N.length c26) (.bool false) (.int .i64 age));refine hK.out _ _ HQe.out (fun hHeld2=> ?_);clear hK K9 hHeld
       rename _=>hHeld
       refine wpAnyH_done (by kernel_rfl) ?_ _
       refine HK.out _ _ _ _ _ _ _ _ _ _ _ _ _ _ _ _ _ _ _ (set4_19 HG27.out) ?_ ?_ hbb HLM26.out HQe.out
       ·exact own_base19 (ownsRow_same HM27.out (fun g hg=>far4_19 (fun e=>kind_ne19 HM27.out hg HG27.out (by decide) e.symm) _ _ _ _)) HBs1.out
       ·exact own_base19 (ownsRow_same HN27.out (fun g hg=>far4_19 (fun e=>kind_ne19 HN27.out hg HG27.out (by decide) e.symm) _ _ _ _)) HBs25.out
   ·as_aux_lemma=>
     rw [if_pos (by kernel_rfl)]
     go_simp
     have hb4:Below w1.heap.size w1 (w1.alloc (.cells #[.slice none 0 0,.slice none 0 0,.bool false,.int .i64 0] 60)):=(Below.refl _ w1).alloc (Nat.le_refl _) _;have hx4:(w1.alloc (.cells #[.slice none 0 0,.slice none 0 0,.bool false,.int .i64 0] 60)).heap[w1.heap.size]? = some (.cells #[.slice none 0 0,.slice none 0 0,.bool false,.int .i64 0] 60 (0,0)):=heap_alloc_new w1 _;have HBb4:=hid (show wr.heap.size≤w1.heap.size from HQ1.out.size);generalize (w1.alloc (.cells #[.slice none 0 0,.slice none 0 0,.bool false,.int .i64 0] 60))=w4 at hb4 hx4 ⊢;have HQ4:=hid (below2 HQ1.out hb4)
     have HA4:=hid (own_same HOw1.out hb4);have HG4:=hid hx4;clear hb4 hx4;refine hK.out _ _ HQ4.out (fun hHeld2=> ?_);clear hK K9 hHeld
     rename _=>hHeld
     refine wpAnyH_ready (rs:=[3]) (by kernel_rfl) (by simp) ?_
     refine AllReadyH.cons rfl (fun K9 hK=> ?_) AllReadyH.nil;rw [if_pos (by kernel_rfl)]
     go_simp
     go_wp2_with (go_at_call 81;refine (HO1.out _ _ _ HA4.out).mono ?_;rintro e w29 ⟨a29,c29,rfl,ho29,hg29,hs29⟩)
     have HQ29:=hid (HQ4.out.grown hg29 HQ4.out.size (fun g hg=>by have:=(HA4.out.lt g hg).1;have:=HBs1.out;omega));have HG29:=hid ((hg29.block w1.heap.size (Array.getElem?_eq_some_iff.1 HG4.out).1 (fun e=>kind_ne19 HA4.out e.symm HG4.out (by decide) rfl)).trans HG4.out);have HOw29:=hid ho29;clear ho29 hg29 hs29;refine hK.out _ _ HQ29.out (fun hHeld2=> ?_);clear hK K9 hHeld
     rename _=>hHeld
     refine wpAnyH_ready (rs:=[6]) (by kernel_rfl) (by simp) ?_
     refine AllReadyH.cons rfl (fun K9 hK=> ?_) AllReadyH.nil;rw [if_pos (by kernel_rfl)]
     go_simp
     go_wp2_with (go_at_call 82;refine (HT2.out _ HQ29.out).mono ?_;rintro e w30 ⟨a30,c30,rfl,ho30,hb30⟩)
     have HQ30:=hid (below2 HQ29.out hb30);have HLM30:=hid (fun g (hg:(.slice a29 M.length c29:Value).ownBlock=some g)=>(HOw29.out.lt g hg).2);have HM30:=hid (own_same HOw29.out hb30);have HG30:=hid ((hb30.block w1.heap.size (Array.getElem?_eq_some_iff.1 HG29.out).1).trans HG29.out);have HOw30:=hid ho30;clear hb30 ho30;have HBs30:=hid (show wr.heap.size≤w29.heap.size from HQ29.out.size);refine hK.out _ _ HQ30.out (fun hHeld2=> ?_);clear hK K9 hHeld
     rename _=>hHeld
     refine wpAnyH_ready (rs:=[7]) (by kernel_rfl) (by simp) ?_
     refine AllReadyH.cons rfl (fun K9 hK=> ?_) AllReadyH.nil;rw [if_pos (by kernel_rfl)]
     go_simp
     go_wp2_with (go_at_call 83;refine (HLo.out _ _ (own_txt' HOw30.out)).mono ?_;rintro e w31 ⟨a31,c31,rfl,ho31,hb31⟩)
     have HQ31:=hid (below2 HQ30.out hb31);have HLM31:=hid (fun g (hg:(.slice a29 M.length c29:Value).ownBlock=some g)=>(HM30.out.lt g hg).2);have HLP31:=hid (fun g (hg:(.slice a30 P2.length c30:Value).ownBlock=some g)=>(HOw30.out.lt g hg).2);have HM31:=hid (own_same HM30.out hb31);have HP31:=hid (own_same HOw30.out hb31);have HG31:=hid ((hb31.block w1.heap.size (Array.getElem?_eq_some_iff.1 HG30.out).1).trans HG30.out);have HOw31:=hid ho31;clear hb31 ho31;have HBs31:=hid (show wr.heap.size≤w30.heap.size from HQ30.out.size);refine hK.out _ _ HQ31.out (fun hHeld2=> ?_);clear hK K9 hHeld
     rename _=>hHeld
     refine wpAnyH_ready (rs:=[8]) (by kernel_rfl) (by simp) ?_
     refine AllReadyH.cons rfl (fun K9 hK=> ?_) AllReadyH.nil;rw [if_pos (by kernel_rfl)]
     go_simp
     go_wp2_with (go_at_call 81;refine (HO2.out _ _ _ HOw31.out).mono ?_;rintro e w32 ⟨a32,c32,rfl,ho32,hg32,hs32⟩)
     have HQ32:=hid (HQ31.out.grown hg32 HQ31.out.size (fun g hg=>by have:=(HOw31.out.lt g hg).1;have:=HBs31.out;omega));have HM32:=hid (ownsRow_same HM31.out (fun g hgk=>hg32.block g (HM31.out.lt g hgk).2 (fun e=>by have:=(HOw31.out.lt g e.symm).1;have:=HLM31.out g hgk;omega)));have HG32:=hid ((hg32.block w1.heap.size (Array.getElem?_eq_some_iff.1 HG31.out).1 (fun e=>kind_ne19 HOw31.out e.symm HG31.out (by decide) rfl)).trans HG31.out)
     have HLM32:=hid (fun g (hg:(.slice a29 M.length c29:Value).ownBlock=some g) g' (hg':(Value.slice a32 N.length c32).ownBlock=some g')=>(show g≠g' from by have:=(HOw31.out.lt g' (hs32 g' hg')).1;have:=HLM31.out g hg;omega));have HOw32:=hid ho32;clear ho32 hg32 hs32;refine hK.out _ _ HQ32.out (fun hHeld2=> ?_);clear hK K9 hHeld
     rename _=>hHeld
     refine wpAnyH_ready (rs:=[11]) (by kernel_rfl) (by simp) ?_
     refine AllReadyH.cons rfl (fun K9 hK=> ?_) AllReadyH.nil;rw [if_pos (by kernel_rfl)]
     go_simp
     go_wp2_with (go_at_call 84;refine (HLa.out _ HQ32.out).mono ?_;rintro e w33 ⟨rfl,hb33⟩)
     have HQ33:=hid (below2 HQ32.out hb33);have HM33:=hid (own_same HM32.out hb33);have HN33:=hid (own_same HOw32.out hb33);have HG33:=hid ((hb33.block w1.heap.size (Array.getElem?_eq_some_iff.1 HG32.out).1).trans HG32.out);clear hb33;refine hK.out _ _ HQ33.out (fun hHeld2=> ?_);clear hK K9 hHeld
     rename _=>hHeld
     refine' wpAnyH_take (i:=12) (oi:=⟨some 42,_,_,_,_,_⟩) (v:=_) rfl (by kernel_rfl) (by kernel_rfl) (by kernel_rfl) (fun _ _ _ h=>h) (Or.inl ⟨by kernel_rfl,?hyrd12⟩) (by assumption) ?restrd12
     case hyrd12=>(intro wx hSw;(try dsimp only at hSw);have k1:=HC0.out wx hSw;go_simp;first | done | with_reducible rfl)
     (try simp only [Act.put,List.setIfInBounds_toArray,List.set_cons_zero,List.set_cons_succ])
     have d0:w33.cell? ⟨w1.heap.size,0,none⟩=some (.slice none 0 0):=by rw [Lib.cell_of_heap HG33.out];rfl
     have f0:w33.frozen? ⟨w1.heap.size,0,none⟩=false:=Lib.frozen_of_heap HG33.out 0
     have d1:w33.cell? ⟨w1.heap.size,1,none⟩=some (.slice none 0 0):=by rw [Lib.cell_of_heap HG33.out];rfl
     have f1:w33.frozen? ⟨w1.heap.size,1,none⟩=false:=Lib.frozen_of_heap HG33.out 1
     have d2:w33.cell? ⟨w1.heap.size,2,none⟩=some (.bool false):=by rw [Lib.cell_of_heap HG33.out];rfl
     have f2:w33.frozen? ⟨w1.heap.size,2,none⟩=false:=Lib.frozen_of_heap HG33.out 2
     have d3:w33.cell? ⟨w1.heap.size,3,none⟩=some (.int .i64 0):=by rw [Lib.cell_of_heap HG33.out];rfl
     have f3:w33.frozen? ⟨w1.heap.size,3,none⟩=false:=Lib.frozen_of_heap HG33.out 3
     have hbb:=HBb4.out;refine wpAnyH_ready (rs:=[14]) (by kernel_rfl) (by simp) ?_
     refine AllReadyH.cons rfl (fun K9 hK=> ?_) AllReadyH.nil;rw [if_pos (by kernel_rfl)]
     go_simp
     go_wp2_with fail
     have HQe:=hid (below4_19 (g:=w1.heap.size) HQ33.out hbb (.slice a29 M.length c29) (.slice a32 N.length c32) (.bool false) (.int .i64 age));refine hK.out _ _ HQe.out (fun hHeld2=> ?_);clear hK K9 hHeld
     rename _=>hHeld
     refine wpAnyH_done (by kernel_rfl) ?_ _
     refine HK.out _ _ _ _ _ _ _ _ _ _ _ _ _ _ _ _ _ _ _ (set4_19 HG33.out) ?_ ?_ hbb HLM32.out HQe.out
     ·exact own_base19 (ownsRow_same HM33.out (fun g hg=>far4_19 (fun e=>kind_ne19 HM33.out hg HG33.out (by decide) e.symm) _ _ _ _)) HBs1.out
     ·exact own_base19 (ownsRow_same HN33.out (fun g hg=>far4_19 (fun e=>kind_ne19 HN33.out hg HG33.out (by decide) e.symm) _ _ _ _)) HBs31.out
 ·as_aux_lemma=>
   rw [if_pos (by kernel_rfl)]
   go_simp
   have hb2:Below W0.heap.size W0 (W0.alloc (.cells #[.slice none 0 0,.slice none 0 0,.bool false,.int .i64 0] 60)):=(Below.refl _ W0).alloc (Nat.le_refl _) _;have hx2:(W0.alloc (.cells #[.slice none 0 0,.slice none 0 0,.bool false,.int .i64 0] 60)).heap[W0.heap.size]? = some (.cells #[.slice none 0 0,.slice none 0 0,.bool false,.int .i64 0] 60 (0,0)):=heap_alloc_new W0 _;have HBb2:=hid (show wr.heap.size≤W0.heap.size from HQ0.out.size);generalize (W0.alloc (.cells #[.slice none 0 0,.slice none 0 0,.bool false,.int .i64 0] 60))=w2 at hb2 hx2 ⊢;have HQ2:=hid (below2 HQ0.out hb2)
   have HG2:=hid hx2;clear hb2 hx2;refine hK.out _ _ HQ2.out (fun hHeld2=> ?_);clear hK K9 hHeld
   rename _=>hHeld
   refine wpAnyH_ready (rs:=[2]) (by kernel_rfl) (by simp) ?_
   refine AllReadyH.cons rfl (fun K9 hK=> ?_) AllReadyH.nil;rw [if_pos (by kernel_rfl)]
   go_simp
   go_wp2_with (go_at_call 82;refine (HT1.out _ HQ2.out).mono ?_;rintro e w35 ⟨a35,c35,rfl,ho35,hb35⟩)
   have HQ35:=hid (below2 HQ2.out hb35);have HG35:=hid ((hb35.block W0.heap.size (Array.getElem?_eq_some_iff.1 HG2.out).1).trans HG2.out);have HOw35:=hid ho35;clear hb35 ho35;have HBs35:=hid (show wr.heap.size≤w2.heap.size from HQ2.out.size);refine hK.out _ _ HQ35.out (fun hHeld2=> ?_);clear hK K9 hHeld
   rename _=>hHeld
   refine wpAnyH_ready (rs:=[3]) (by kernel_rfl) (by simp) ?_
   refine AllReadyH.cons rfl (fun K9 hK=> ?_) AllReadyH.nil;rw [if_pos (by kernel_rfl)]
   go_simp
   go_wp2_with (go_at_call 81;refine (HO1.out _ _ _ HOw35.out).mono ?_;rintro e w36 ⟨a36,c36,rfl,ho36,hg36,hs36⟩)
   have HQ36:=hid (HQ35.out.grown hg36 HQ35.out.size (fun g hg=>by have:=(HOw35.out.lt g hg).1;have:=HBs35.out;omega));have HG36:=hid ((hg36.block W0.heap.size (Array.getElem?_eq_some_iff.1 HG35.out).1 (fun e=>kind_ne19 HOw35.out e.symm HG35.out (by decide) rfl)).trans HG35.out);have HOw36:=hid ho36;clear ho36 hg36 hs36;refine hK.out _ _ HQ36.out (fun hHeld2=> ?_);clear hK K9 hHeld
   rename _=>hHeld
   refine wpAnyH_ready (rs:=[6]) (by kernel_rfl) (by simp) ?_
   refine AllReadyH.cons rfl (fun K9 hK=> ?_) AllReadyH.nil;rw [if_pos (by kernel_rfl)]
   go_simp
   go_wp2_with (go_at_call 82;refine (HT2.out _ HQ36.out).mono ?_;rintro e w37 ⟨a37,c37,rfl,ho37,hb37⟩)
   have HQ37:=hid (below2 HQ36.out hb37);have HLM37:=hid (fun g (hg:(.slice a36 M.length c36:Value).ownBlock=some g)=>(HOw36.out.lt g hg).2);have HM37:=hid (own_same HOw36.out hb37);have HG37:=hid ((hb37.block W0.heap.size (Array.getElem?_eq_some_iff.1 HG36.out).1).trans HG36.out);have HOw37:=hid ho37;clear hb37 ho37;have HBs37:=hid (show wr.heap.size≤w36.heap.size from HQ36.out.size);refine hK.out _ _ HQ37.out (fun hHeld2=> ?_);clear hK K9 hHeld
   rename _=>hHeld
   refine wpAnyH_ready (rs:=[7]) (by kernel_rfl) (by simp) ?_
   refine AllReadyH.cons rfl (fun K9 hK=> ?_) AllReadyH.nil;rw [if_pos (by kernel_rfl)]
   go_simp
   go_wp2_with (go_at_call 83;refine (HLo.out _ _ (own_txt' HOw37.out)).mono ?_;rintro e w38 ⟨a38,c38,rfl,ho38,hb38⟩)
   have HQ38:=hid (below2 HQ37.out hb38);have HLM38:=hid (fun g (hg:(.slice a36 M.length c36:Value).ownBlock=some g)=>(HM37.out.lt g hg).2);have HLP38:=hid (fun g (hg:(.slice a37 P2.length c37:Value).ownBlock=some g)=>(HOw37.out.lt g hg).2);have HM38:=hid (own_same HM37.out hb38);have HP38:=hid (own_same HOw37.out hb38);have HG38:=hid ((hb38.block W0.heap.size (Array.getElem?_eq_some_iff.1 HG37.out).1).trans HG37.out);have HOw38:=hid ho38;clear hb38 ho38;have HBs38:=hid (show wr.heap.size≤w37.heap.size from HQ37.out.size);refine hK.out _ _ HQ38.out (fun hHeld2=> ?_);clear hK K9 hHeld
   rename _=>hHeld
   refine wpAnyH_ready (rs:=[8]) (by kernel_rfl) (by simp) ?_
   refine AllReadyH.cons rfl (fun K9 hK=> ?_) AllReadyH.nil;rw [if_pos (by kernel_rfl)]
   go_simp
   go_wp2_with (go_at_call 81;refine (HO2.out _ _ _ HOw38.out).mono ?_;rintro e w39 ⟨a39,c39,rfl,ho39,hg39,hs39⟩)
   have HQ39:=hid (HQ38.out.grown hg39 HQ38.out.size (fun g hg=>by have:=(HOw38.out.lt g hg).1;have:=HBs38.out;omega));have HM39:=hid (ownsRow_same HM38.out (fun g hgk=>hg39.block g (HM38.out.lt g hgk).2 (fun e=>by have:=(HOw38.out.lt g e.symm).1;have:=HLM38.out g hgk;omega)));have HG39:=hid ((hg39.block W0.heap.size (Array.getElem?_eq_some_iff.1 HG38.out).1 (fun e=>kind_ne19 HOw38.out e.symm HG38.out (by decide) rfl)).trans HG38.out)
   have HLM39:=hid (fun g (hg:(.slice a36 M.length c36:Value).ownBlock=some g) g' (hg':(Value.slice a39 N.length c39).ownBlock=some g')=>(show g≠g' from by have:=(HOw38.out.lt g' (hs39 g' hg')).1;have:=HLM38.out g hg;omega));have HOw39:=hid ho39;clear ho39 hg39 hs39;refine hK.out _ _ HQ39.out (fun hHeld2=> ?_);clear hK K9 hHeld
   rename _=>hHeld
   refine wpAnyH_ready (rs:=[11]) (by kernel_rfl) (by simp) ?_
   refine AllReadyH.cons rfl (fun K9 hK=> ?_) AllReadyH.nil;rw [if_pos (by kernel_rfl)]
   go_simp
   go_wp2_with (go_at_call 84;refine (HLa.out _ HQ39.out).mono ?_;rintro e w40 ⟨rfl,hb40⟩)
   have HQ40:=hid (below2 HQ39.out hb40);have HM40:=hid (own_same HM39.out hb40);have HN40:=hid (own_same HOw39.out hb40);have HG40:=hid ((hb40.block W0.heap.size (Array.getElem?_eq_some_iff.1 HG39.out).1).trans HG39.out);clear hb40;refine hK.out _ _ HQ40.out (fun hHeld2=> ?_);clear hK K9 hHeld
   rename _=>hHeld
   refine' wpAnyH_take (i:=12) (oi:=⟨some 42,_,_,_,_,_⟩) (v:=_) rfl (by kernel_rfl) (by kernel_rfl) (by kernel_rfl) (fun _ _ _ h=>h) (Or.inl ⟨by kernel_rfl,?hyrd13⟩) (by assumption) ?restrd13
   case hyrd13=>(intro wx hSw;(try dsimp only at hSw);have k1:=HC0.out wx hSw;go_simp;first | done | with_reducible rfl)
   (try simp only [Act.put,List.setIfInBounds_toArray,List.set_cons_zero,List.set_cons_succ])
   have d0:w40.cell? ⟨W0.heap.size,0,none⟩=some (.slice none 0 0):=by rw [Lib.cell_of_heap HG40.out];rfl
   have f0:w40.frozen? ⟨W0.heap.size,0,none⟩=false:=Lib.frozen_of_heap HG40.out 0
   have d1:w40.cell? ⟨W0.heap.size,1,none⟩=some (.slice none 0 0):=by rw [Lib.cell_of_heap HG40.out];rfl
   have f1:w40.frozen? ⟨W0.heap.size,1,none⟩=false:=Lib.frozen_of_heap HG40.out 1
   have d2:w40.cell? ⟨W0.heap.size,2,none⟩=some (.bool false):=by rw [Lib.cell_of_heap HG40.out];rfl
   have f2:w40.frozen? ⟨W0.heap.size,2,none⟩=false:=Lib.frozen_of_heap HG40.out 2
   have d3:w40.cell? ⟨W0.heap.size,3,none⟩=some (.int .i64 0):=by rw [Lib.cell_of_heap HG40.out];rfl
   have f3:w40.frozen? ⟨W0.heap.size,3,none⟩=false:=Lib.frozen_of_heap HG40.out 3
   have hbb:=HBb2.out;refine wpAnyH_ready (rs:=[14]) (by kernel_rfl) (by simp) ?_
   refine AllReadyH.cons rfl (fun K9 hK=> ?_) AllReadyH.nil;rw [if_pos (by kernel_rfl)]
   go_simp
   go_wp2_with fail
   have HQe:=hid (below4_19 (g:=W0.heap.size) HQ40.out hbb (.slice a36 M.length c36) (.slice a39 N.length c39) (.bool false) (.int .i64 age));refine hK.out _ _ HQe.out (fun hHeld2=> ?_);clear hK K9 hHeld
   rename _=>hHeld
   refine wpAnyH_done (by kernel_rfl) ?_ _
   refine HK.out _ _ _ _ _ _ _ _ _ _ _ _ _ _ _ _ _ _ _ (set4_19 HG40.out) ?_ ?_ hbb HLM39.out HQe.out
   ·exact own_base19 (ownsRow_same HM40.out (fun g hg=>far4_19 (fun e=>kind_ne19 HM40.out hg HG40.out (by decide) e.symm) _ _ _ _)) HBs35.out
   ·exact own_base19 (ownsRow_same HN40.out (fun g hg=>far4_19 (fun e=>kind_ne19 HN40.out hg HG40.out (by decide) e.symm) _ _ _ _)) HBs38.out

end Go.Proofs.YtolioccofbhliaaGreatDoor
