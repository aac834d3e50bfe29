/-
  Walks and plain facts that this claim leans on, put together out of 1 texts: Eju.
-/
import Derived.Test.YtolioccofbhliaaGreatDoorProg
import Derived.Test.YtolioccofbhliaaGreatDoorQp1
import Derived.Test.YtolioccofbhliaaGreatDoorQp2
import Derived.Test.YtolioccofbhliaaGreatDoorQp3
import Derived.Test.YtolioccofbhliaaGreatDoorQp4
import Derived.Test.YtolioccofbhliaaGreatDoorQp5
import Derived.Test.YtolioccofbhliaaGreatDoorQp6
import Derived.Test.YtolioccofbhliaaGreatDoorQp7
import Derived.Test.YtolioccofbhliaaGreatDoorQp8
import Derived.Test.YtolioccofbhliaaGreatDoorQp9
import Derived.Test.YtolioccofbhliaaGreatDoorQp10
import Derived.Test.YtolioccofbhliaaGreatDoorQp11
import Derived.Test.YtolioccofbhliaaGreatDoorQp12
import Derived.Test.YtolioccofbhliaaGreatDoorQp13
import Derived.Test.YtolioccofbhliaaGreatDoorQp14
import Derived.Test.YtolioccofbhliaaGreatDoorQp15
import Derived.Test.YtolioccofbhliaaGreatDoorQp16
import Derived.Test.YtolioccofbhliaaGreatDoorQp17
import Derived.Test.YtolioccofbhliaaGreatDoorQp18
import Derived.Test.YtolioccofbhliaaGreatDoorQp19
import Derived.Test.YtolioccofbhliaaGreatDoorQp20
import Derived.Test.YtolioccofbhliaaGreatDoorQp21
import Derived.Test.YtolioccofbhliaaGreatDoorQp22
import Derived.Test.YtolioccofbhliaaGreatDoorQp23
import Derived.Test.YtolioccofbhliaaGreatDoorQp24
import Derived.Test.YtolioccofbhliaaGreatDoorQp25
import Derived.Test.YtolioccofbhliaaGreatDoorQp26
import Derived.Test.YtolioccofbhliaaGreatDoorQp27
import Derived.Test.YtolioccofbhliaaGreatDoorQp28
import Derived.Test.YtolioccofbhliaaGreatDoorQk1
import Derived.Test.YtolioccofbhliaaGreatDoorQk2
import Derived.Test.YtolioccofbhliaaGreatDoorQk3
import Derived.BigRegion
import Derived.Deep.RegionHeld
import Derived.Deep.RegionHeldLaw
import Derived.Deep.RegionLaw
import Derived.Deep.QuietTactic
import Derived.BigQuiet
import Derived.Laws.IdiomStrings
import Derived.Lib.IndexAny
import Derived.WalkKit
import Derived.Lib.UnsafeStr
import Derived.Lib.BufferRead
import Derived.Lib.RuneBytes
import Derived.Laws.RangeAny
import Derived.Deep.LoopGhost
import Derived.Maps.OwnSet
import Derived.Maps.OwnOps
import Derived.Maps.AppendAt
import Derived.StringKeys
import Derived.LoopN
import Derived.RegionTactic
import Derived.Deep.RegionWith
import Derived.WalkSpells
import Derived.WalkLawsBesides
import Derived.Lib.FieldsP
import Derived.Lib.DecodeN
import Derived.Lib.IndexMore
import Derived.Lib.Join
import Derived.Lib.SmallJoins
import Derived.Laws.CopyOwn
import Derived.Laws.ResultCell
import Derived.Deep.MidRow
import Derived.Laws.OwnMore
import Derived.Below
import Derived.WalkSmall
import Derived.Lib.LaidTab
import Derived.Lib.AppendIntMem
import Derived.Laws.AppendOwn
import Derived.Laws.Runes
import Derived.Lib.OthersKept
import Derived.Lib.FrozenHead2
import Derived.Lib.Builder
import Derived.Lib.AppendStr
import Derived.Lib.Replace
import Derived.Shelf.GgClosure.GivesRunes
import Derived.Laws.BitsAll
import Derived.Laws.Shifts
import Derived.Deep.DeepAppendRoom
import Derived.Laws.BytesString
import Derived.Laws.CopyRow
import Derived.Sort.OwnSorted
import Derived.Lib.SlicesCompact
import Derived.Shelf.Slices.In.SortNone
import Derived.Shelf.Slices.CompactS
import Derived.Lib.SliceRun
import Derived.Sort.KeysCollected
import Derived.Lib.Case
import Derived.Deep.Cut
import Derived.Lib.LastIndexByte
import Derived.Lib.Strings
import Derived.Laws.BitsAllLaws
import Derived.Lib.Bytealg
import Derived.Lib.BufferMore
import Derived.OwnWalk
import Derived.Shelf.Strings.Builder1
import Derived.Shelf.Strings.Builder2
import Derived.Shelf.Strings.OnBuilder
import Derived.Shelf.Strings.Trim
import Derived.Shelf.Small.Utf8
import Derived.Shelf.Small.Bits
import Derived.Shelf.Small.Strs
import Derived.Shelf.Small.Wraps
import Derived.Shelf.Strings.BuilderF
import Derived.Shelf.Strings.BuilderK
import Derived.Shelf.Strings.Builder2Cap
import Derived.Shelf.Strconv.Itoa0
import Derived.Shelf.Strconv.Itoa1
import Derived.Shelf.LaysM
import Derived.Shelf.Strconv.Itoa2
import Derived.Shelf.Strconv.Itoa3
import Derived.Shelf.Strings.Search1
import Derived.Shelf.Strings.Search2
import Derived.Shelf.Strings.Cut
import Derived.Shelf.Strings.Shaped
import Derived.Shelf.Sort.Plain
import Derived.Shelf.Strings.Prefix
import Derived.Shelf.Strings.Runes
import Derived.Shelf.Strings.IndexAny
import Derived.Shelf.Strings.AsciiSet
import Derived.Shelf.Strings.IndexAnyAll
import Derived.Shelf.Unicode.DecodeSlow
import Derived.Shelf.Unicode.DecodeAny
import Derived.Shelf.Unicode.DecodeLast
import Derived.Ground.SlgnProg
import Derived.Shelf.SlicesE.Compact
import Derived.Ground.SlgfProg
import Derived.Shelf.SlicesE.IndexFunc
import Derived.Shelf.SlicesE.DeleteFunc
import Derived.Laws.AppendOwnNone
import Derived.Scope
import Derived.ScopeJumps
import Derived.WalkMore
import Derived.Lib.TrimByte
import Derived.Lib.ItoaNum
import Derived.Deep.WholeRow
import Derived.Lib.SlTrimSet
import Derived.Shelf.Strings.SlTrimAscii
import Derived.Deep.CutRange
import Derived.Laws.Rows
import Derived.Laws.MakeOwn
import Derived.Shelf.Spec.SearchS
import Derived.Sort.Walk0
set_option linter.unusedSimpArgs false
set_option linter.unusedVariables false

namespace Go.Proofs.YtolioccofbhliaaGreatDoor
open Go.RowKit

theorem kk19_1:rdB (textO (ofT [104,116,116,112,115,58,47,47,97])) false [80,85,84] [] 200 [⟨nAO,[42]⟩,⟨nAM,[80,85,84,44,32,88]⟩,⟨nAH,[97,44,32,98]⟩]=true:=by decide +kernel

theorem kk19_2:rdG (textO (ofT [104,116,116,112,115,58,47,47,97])) false [80,85,84] [] 200 [⟨nAO,[42]⟩,⟨nAM,[80,85,84,44,32,88]⟩,⟨nAH,[97,44,32,98]⟩]=⟨[[80,85,84],[88]],[[97],[98]],false,5⟩:=by
 rw [rd_yes kk19_1,show grM [⟨nAO,[42]⟩,⟨nAM,[80,85,84,44,32,88]⟩,⟨nAH,[97,44,32,98]⟩]=[[80,85,84],[88]] by decide +kernel,show grN [⟨nAO,[42]⟩,⟨nAM,[80,85,84,44,32,88]⟩,⟨nAH,[97,44,32,98]⟩]=[[97],[98]] by decide +kernel,show allG false [⟨nAO,[42]⟩,⟨nAM,[80,85,84,44,32,88]⟩,⟨nAH,[97,44,32,98]⟩]=false by decide +kernel,show grA [⟨nAO,[42]⟩,⟨nAM,[80,85,84,44,32,88]⟩,⟨nAH,[97,44,32,98]⟩]=5 by decide +kernel]

theorem kk19_3:alwT [115] [117] false [71,69,84] [[97]] 0 (putsT 5 0 (rtsV [115] [117] false [[80,85,84],[88]] [[97],[98]] false) [])=true:=by decide +kernel

theorem kk19_4:OrgOk (ofT [104,116,116,112,115,58,47,47,97]):=orgOk_of (by decide +kernel)

theorem cellsT_cS19 (L:List (List UInt8)):cellsT L=cS (L.map fun x=>⟨x.toArray⟩):=by simp [cellsT,cS,Function.comp_def]

theorem own_kp19 {w:World} {B n:Nat} {v:Value} {L:List (List UInt8)} (h:w.ownsRow B 9 1 v n (cellsT L)):KpL 1 9 w B v n (L.map fun x=>⟨x.toArray⟩):=own_kp (by rw [← cellsT_cS19];exact h)

def SpT (g m:Nat) (w w':World):Prop:=w.grownBy w' (some g) ∧ ∃ cur,w'.heap[g]? = some (.cells cur 9 (0,0))∧m≤cur.size

theorem SpT.set {g m:Nat} {w w':World} (h:SpT g m w w') (i:Nat) (v:Value):SpT g m w (w'.setCell ⟨g,i,none⟩ v):=by
 obtain ⟨⟨h1,h2,h3,h4,h5⟩,cur,hc,hm⟩:=h
 exact ⟨⟨h1,h2,h3,by simp [World.setCell] at h4 ⊢;exact h4,fun k hk hne=>(heap_setCell_other w' ⟨g,i,none⟩ k v (fun e=>hne (by rw [e]))).trans (h5 k hk hne)⟩,_,Lib.heap_setCell_same hc (i:=i) v,by simpa using hm⟩

theorem SpT.cell {g m:Nat} {w w':World} (h:SpT g m w w') (i:Nat) (hi:i<m):(∃ x,w'.cell? ⟨g,i,none⟩=some x)∧w'.frozen? ⟨g,i,none⟩=false:=by
 obtain ⟨_,cur,hc,hm⟩:=h
 exact ⟨⟨cur[i],by rw [Lib.cell_of_heap hc];simp⟩,Lib.frozen_of_heap hc i⟩

theorem own_blk19 {w:World} {B K n cap:Nat} {T:TypeId} {a:Option Addr} {xs:List Value} (h:w.ownsRow B T K (.slice a n cap) n xs) (hn:0<n): ∃ g cur,a=some ⟨g,0,none⟩∧B≤g∧w.heap[g]? = some (.cells cur T (0,0))∧n*K≤cur.size:=by
 rcases h.2 with ⟨_,h0⟩ | ⟨g,c',cur,hv,hg,hrow,hnc,hcm,hcs,_⟩
 ·omega
 ·injection hv with h1 h2 h3
  exact ⟨g,cur,h1,hg,hrow,by rw [hcs];exact Nat.mul_le_mul_right _ hnc⟩

theorem kept_at19 {w w':World} {k:Nat} {o:Obj} (hb:Below w.heap.size w w') (h:w.heap[k]? = some o):w'.heap[k]? = some o:=(hb.block k (Array.getElem?_eq_some_iff.1 h).1).trans h

theorem bt_kept19 {T:TypeId} {p B k:Nat} {w w':World} {cur:Array Value} {V:TypeId} {fz:Nat×Nat} (h:Bt T p B w w') (hk:w.heap[k]? = some (.cells cur V fz)) (hp:k≠p) (hT:V≠T):w'.heap[k]? = some (.cells cur V fz):=
 (h.2 k (Array.getElem?_eq_some_iff.1 hk).1 hp (fun c f e=>by
   rw [hk] at e;injection e with e
   injection e with _ e _
   exact hT e)).trans hk

theorem bt_own19 {T V:TypeId} {p B B' K n:Nat} {v:Value} {xs:List Value} {w w':World} (h:Bt T p B w w') (ho:w.ownsRow B' V K v n xs) (hp:p<B') (hT:V≠T):w'.ownsRow B' V K v n xs:=
 ownsRow_same ho fun g hg=>by
  obtain ⟨c,hc⟩:=ownsRow_kind ho g hg
  exact (bt_kept19 h hc (by have:=(ho.lt g hg).1;omega) hT).trans hc.symm

noncomputable def rg_p19a : Code := (Tryz.f6.body.bind (regOf 6)).getD .skip

set_option maxHeartbeats 40000000 in
set_option maxRecDepth 100000 in
theorem rr_p19a (t0 t1 t3 t4 t5 t6 t7 t8 t9 t10 t11 t12 t13 t14 t15 t16 t17 t18 t19 t20 t21 t22 t23 t24 t25 t26 t27 t28 t29 t30 t31 t32 t33 t34 t35 t36 t37 t38 t39 t40 t41 t42 t43 t44 t45 t46 t47 t48 t49 t50 t51 t52 t53 t54 t55 t56 t57 t58 t59 t60 t61:Value) (wr:World) (rb:Nat) (st:Int) (va ba:Option Addr) (vn vc bn bc:Nat) (AS AH:ByteArray) (ap:Int) (ao:Bool) (M N:List (List UInt8)) (al bok:Bool) (ag:Int)
 (hr:wr.heap[rb]? = some (.cells #[.int .i64 st,.slice va vn vc,.slice ba bn bc] 30 (0,0)))
 (HOf:Hid (∀ Y,Calls Tryz.prog 29 #[.string ⟨#[104,116,116,112,115,58,47,47,97]⟩] Y fun e w'=>e = .returned (.agg #[.string AS,.string AH,.int .i64 ap,.bool ao])∧Below Y.heap.size Y w'))
 (HRd:Hid (∀ Y,Below wr.heap.size wr Y→Calls Tryz.prog 31 #[.agg #[.string AS,.string AH,.int .i64 ap,.bool ao],.bool false,.string ⟨#[80,85,84]⟩,.slice none 0 0,.agg #[.int .i64 st,.slice va vn vc,.slice ba bn bc]] Y (RdPost ⟨M,N,al,ag⟩ bok Y)))
 (K:Act→World→Prop)
 (HK:Hid (∀ (u20 u21 u22 u19 u23 u24:Value) (b cM cN:Nat) (aM aN:Option Addr) (w2:World),w2.heap[b]? = some (.cells #[.slice aM M.length cM,.slice aN N.length cN,.bool al,.int .i64 ag] 60 (0,0))→w2.ownsRow wr.heap.size 9 1 (.slice aM M.length cM) M.length (cellsT M)→w2.ownsRow wr.heap.size 9 1 (.slice aN N.length cN) N.length (cellsT N)→wr.heap.size≤b→(∀ g,(Value.slice aM M.length cM).ownBlock=some g → ∀ g',(Value.slice aN N.length cN).ownBlock=some g'→g≠g')→Below wr.heap.size wr w2→K ⟨#[t0,t1,.pointer (some ⟨rb,0,none⟩),t3,.pointer (some ⟨b,0,none⟩),.bool bok,t6,t7,t8,t9,t10,t11,t12,t13,t14,t15,t16,t17,t18,u19,u20,u21,u22,u23,u24,t25,t26,t27,t28,t29,t30,t31,t32,t33,t34,t35,t36,t37,t38,t39,t40,t41,t42,t43,t44,t45,t46,t47,t48,t49,t50,t51,t52,t53,t54,t55,t56,t57,t58,t59,t60,t61],[]⟩ w2)):
 Code.wp Tryz.prog rg_p19a (Exit.then K fun _ _ _=>False) ⟨#[t0,t1,.pointer (some ⟨rb,0,none⟩),t3,t4,t5,t6,t7,t8,t9,t10,t11,t12,t13,t14,t15,t16,t17,t18,t19,t20,t21,t22,t23,t24,t25,t26,t27,t28,t29,t30,t31,t32,t33,t34,t35,t36,t37,t38,t39,t40,t41,t42,t43,t44,t45,t46,t47,t48,t49,t50,t51,t52,t53,t54,t55,t56,t57,t58,t59,t60,t61],[]⟩ wr:=by
 have HRg:=hid (fun (wx:World) (hx:Below wr.heap.size wr wx)=>range_row_Cb (cs:=[.int .i64 st,.slice va vn vc,.slice ba bn bc]) ((hx.block rb (Array.getElem?_eq_some_iff.1 hr).1).trans hr));clear hr;unfold RdPost at HRd;dsimp only at HRd;have HQ0:=hid (show Below wr.heap.size wr wr.drew from (Below.refl _ wr).drew)
 conv=>arg 2;whnf
 refine wp_region_held_drew (S:=(fun wx=>Below wr.heap.size wr wx)) (by kernel_rfl) HQ0.out (fun hHeld=> ?_)
 generalize wr.drew=W0 at HQ0 hHeld ⊢;refine wpAnyH_to (fuel':=9) (listed':= #[false,false,false,false,false,false,false,false,false]) rfl rfl ?_;refine wpAnyH_take (i:=1) (oi:=⟨some 21,_,_,_,_,_⟩) rfl (by kernel_rfl) (by kernel_rfl) (by kernel_rfl) (fun _ _ _ h=>h) (yieldsIf_load_mid (by kernel_rfl) 30 (.tmp 2) rfl (rb) 0 rfl [.int .i64 st,.slice va vn vc,.slice ba bn bc] _ HRg.out Tryz.underlying30 rfl sizeRp19) (by assumption) ?_
 (try simp only [Act.put,List.setIfInBounds_toArray,List.set_cons_zero,List.set_cons_succ])
 refine wpAnyH_ready (rs:=[0,6]) (by kernel_rfl) (by simp) ?_
 refine AllReadyH.cons rfl (fun K9 hK=> ?_) (AllReadyH.cons rfl (fun K9 hK=> ?_) AllReadyH.nil)
 ·as_aux_lemma=>
   rw [if_pos (by kernel_rfl)]
   go_simp
   go_wp2_with (go_at_call 29;refine (HOf.out _).mono ?_;rintro e w1 ⟨rfl,hb1⟩)
   have HQ1:=hid (below2 HQ0.out hb1);clear hb1;refine hK.out _ _ HQ1.out (fun hHeld2=> ?_);clear hK K9 hHeld
   rename _=>hHeld
   refine wpAnyH_ready (rs:=[2,6]) (by kernel_rfl) (by simp) ?_
   refine AllReadyH.cons rfl (fun K9 hK=> ?_) (AllReadyH.cons rfl (fun K9 hK=> ?_) AllReadyH.nil)
   ·as_aux_lemma=>
     rw [if_pos (by kernel_rfl)]
     go_simp
     go_wp2_with (go_at_call 31;refine (HRd.out _ HQ1.out).mono ?_;rintro e w2 ⟨aM,cM,aN,cN,rfl,hoM2,hoN2,hne2,hb2⟩)
     have HQ2:=hid (below2 HQ1.out hb2);have HM2:=hid hoM2;have HN2:=hid hoN2;have HNe:=hid hne2;have HBs2:=hid (show wr.heap.size≤w1.heap.size from HQ1.out.size);clear hoM2 hoN2 hne2 hb2;refine hK.out _ _ HQ2.out (fun hHeld2=> ?_);clear hK K9 hHeld
     rename _=>hHeld
     refine' wpAnyH_take (i:=3) (oi:=⟨some 19,_,_,_,_,_⟩) (v:=_) rfl (by kernel_rfl) (by kernel_rfl) (by kernel_rfl) (fun _ _ _ h=>h) (Or.inl ⟨by kernel_rfl,?hypa1⟩) (by assumption) ?restpa1
     case hypa1=>(intro wx hSw;(try dsimp only at hSw);go_simp;first | done | with_reducible rfl)
     (try simp only [Act.put,List.setIfInBounds_toArray,List.set_cons_zero,List.set_cons_succ])
     refine' wpAnyH_take (i:=4) (oi:=⟨some 23,_,_,_,_,_⟩) (v:=_) rfl (by kernel_rfl) (by kernel_rfl) (by kernel_rfl) (fun _ _ _ h=>h) (Or.inl ⟨by kernel_rfl,?hypa2⟩) (by assumption) ?restpa2
     case hypa2=>(intro wx hSw;(try dsimp only at hSw);go_simp;first | done | with_reducible rfl)
     (try simp only [Act.put,List.setIfInBounds_toArray,List.set_cons_zero,List.set_cons_succ])
     refine' wpAnyH_take (i:=5) (oi:=⟨some 24,_,_,_,_,_⟩) (v:=_) rfl (by kernel_rfl) (by kernel_rfl) (by kernel_rfl) (fun _ _ _ h=>h) (Or.inl ⟨by kernel_rfl,?hypa3⟩) (by assumption) ?restpa3
     case hypa3=>(intro wx hSw;(try dsimp only at hSw);go_simp;first | done | with_reducible rfl)
     (try simp only [Act.put,List.setIfInBounds_toArray,List.set_cons_zero,List.set_cons_succ])
     refine wpAnyH_ready (rs:=[6]) (by kernel_rfl) (by simp) ?_
     refine AllReadyH.cons rfl (fun K9 hK=> ?_) AllReadyH.nil;rw [if_pos (by kernel_rfl)]
     go_simp
     have hb3:Below w2.heap.size w2 (w2.alloc (.cells #[.slice none 0 0,.slice none 0 0,.bool false,.int .i64 0] 60)):=(Below.refl _ w2).alloc (Nat.le_refl _) _;have hx3:(w2.alloc (.cells #[.slice none 0 0,.slice none 0 0,.bool false,.int .i64 0] 60)).heap[w2.heap.size]? = some (.cells #[.slice none 0 0,.slice none 0 0,.bool false,.int .i64 0] 60 (0,0)):=heap_alloc_new w2 _;have HBb3:=hid (show wr.heap.size≤w2.heap.size from HQ2.out.size);generalize (w2.alloc (.cells #[.slice none 0 0,.slice none 0 0,.bool false,.int .i64 0] 60))=w3 at hb3 hx3 ⊢;have HQ3:=hid (below2 HQ2.out hb3)
     have HG3:=hid hx3;have HM3:=hid (own_same HM2.out hb3);have HN3:=hid (own_same HN2.out hb3);clear hb3 hx3;refine hK.out _ _ HQ3.out (fun hHeld2=> ?_);clear hK K9 hHeld
     rename _=>hHeld
     have d0:w3.cell? ⟨w2.heap.size,0,none⟩=some (.slice none 0 0):=by rw [Lib.cell_of_heap HG3.out];rfl
     have f0:w3.frozen? ⟨w2.heap.size,0,none⟩=false:=Lib.frozen_of_heap HG3.out 0
     have d1:w3.cell? ⟨w2.heap.size,1,none⟩=some (.slice none 0 0):=by rw [Lib.cell_of_heap HG3.out];rfl
     have f1:w3.frozen? ⟨w2.heap.size,1,none⟩=false:=Lib.frozen_of_heap HG3.out 1
     have d2:w3.cell? ⟨w2.heap.size,2,none⟩=some (.bool false):=by rw [Lib.cell_of_heap HG3.out];rfl
     have f2:w3.frozen? ⟨w2.heap.size,2,none⟩=false:=Lib.frozen_of_heap HG3.out 2
     have d3:w3.cell? ⟨w2.heap.size,3,none⟩=some (.int .i64 0):=by rw [Lib.cell_of_heap HG3.out];rfl
     have f3:w3.frozen? ⟨w2.heap.size,3,none⟩=false:=Lib.frozen_of_heap HG3.out 3
     have hbb:=HBb3.out;refine wpAnyH_ready (rs:=[7]) (by kernel_rfl) (by simp) ?_
     refine AllReadyH.cons rfl (fun K9 hK=> ?_) AllReadyH.nil;rw [if_pos (by kernel_rfl)]
     go_simp
     go_wp2_with fail
     have HQe:=hid (below4_19 (g:=w2.heap.size) HQ3.out hbb (.slice aM M.length cM) (.slice aN N.length cN) (.bool al) (.int .i64 ag));refine hK.out _ _ HQe.out (fun hHeld2=> ?_);clear hK K9 hHeld
     rename _=>hHeld
     refine' wpAnyH_take (i:=8) (oi:=⟨some 5,_,_,_,_,_⟩) (v:=_) rfl (by kernel_rfl) (by kernel_rfl) (by kernel_rfl) (fun _ _ _ h=>h) (Or.inl ⟨by kernel_rfl,?hypa4⟩) (by assumption) ?restpa4
     case hypa4=>(intro wx hSw;(try dsimp only at hSw);go_simp;first | done | with_reducible rfl)
     (try simp only [Act.put,List.setIfInBounds_toArray,List.set_cons_zero,List.set_cons_succ])
     refine wpAnyH_done (by kernel_rfl) ?_ _
     refine HK.out _ _ _ _ _ _ _ _ _ _ _ _ (set4_19 HG3.out) ?_ ?_ hbb HNe.out HQe.out
     ·exact own_base19 (ownsRow_same HM3.out (fun g hg=>far4_19 (fun e=>kind_ne19 HM3.out hg HG3.out (by decide) e.symm) _ _ _ _)) HBs2.out
     ·exact own_base19 (ownsRow_same HN3.out (fun g hg=>far4_19 (fun e=>kind_ne19 HN3.out hg HG3.out (by decide) e.symm) _ _ _ _)) HBs2.out
   ·as_aux_lemma=>
     rw [if_pos (by kernel_rfl)]
     go_simp
     have hb4:Below w1.heap.size w1 (w1.alloc (.cells #[.slice none 0 0,.slice none 0 0,.bool false,.int .i64 0] 60)):=(Below.refl _ w1).alloc (Nat.le_refl _) _;have hx4:(w1.alloc (.cells #[.slice none 0 0,.slice none 0 0,.bool false,.int .i64 0] 60)).heap[w1.heap.size]? = some (.cells #[.slice none 0 0,.slice none 0 0,.bool false,.int .i64 0] 60 (0,0)):=heap_alloc_new w1 _;have HBb4:=hid (show wr.heap.size≤w1.heap.size from HQ1.out.size);generalize (w1.alloc (.cells #[.slice none 0 0,.slice none 0 0,.bool false,.int .i64 0] 60))=w4 at hb4 hx4 ⊢;have HQ4:=hid (below2 HQ1.out hb4)
     have HG4:=hid hx4;clear hb4 hx4;refine hK.out _ _ HQ4.out (fun hHeld2=> ?_);clear hK K9 hHeld
     rename _=>hHeld
     refine wpAnyH_ready (rs:=[2]) (by kernel_rfl) (by simp) ?_
     refine AllReadyH.cons rfl (fun K9 hK=> ?_) AllReadyH.nil;rw [if_pos (by kernel_rfl)]
     go_simp
     go_wp2_with (go_at_call 31;refine (HRd.out _ HQ4.out).mono ?_;rintro e w5 ⟨aM,cM,aN,cN,rfl,hoM5,hoN5,hne5,hb5⟩)
     have HQ5:=hid (below2 HQ4.out hb5);have HM5:=hid hoM5;have HN5:=hid hoN5;have HNe:=hid hne5;have HBs5:=hid (show wr.heap.size≤w4.heap.size from HQ4.out.size);have HG5:=hid ((hb5.block w1.heap.size (Array.getElem?_eq_some_iff.1 HG4.out).1).trans HG4.out);clear hoM5 hoN5 hne5 hb5;refine hK.out _ _ HQ5.out (fun hHeld2=> ?_);clear hK K9 hHeld
     rename _=>hHeld
     refine' wpAnyH_take (i:=3) (oi:=⟨some 19,_,_,_,_,_⟩) (v:=_) rfl (by kernel_rfl) (by kernel_rfl) (by kernel_rfl) (fun _ _ _ h=>h) (Or.inl ⟨by kernel_rfl,?hypa5⟩) (by assumption) ?restpa5
     case hypa5=>(intro wx hSw;(try dsimp only at hSw);go_simp;first | done | with_reducible rfl)
     (try simp only [Act.put,List.setIfInBounds_toArray,List.set_cons_zero,List.set_cons_succ])
     refine' wpAnyH_take (i:=4) (oi:=⟨some 23,_,_,_,_,_⟩) (v:=_) rfl (by kernel_rfl) (by kernel_rfl) (by kernel_rfl) (fun _ _ _ h=>h) (Or.inl ⟨by kernel_rfl,?hypa6⟩) (by assumption) ?restpa6
     case hypa6=>(intro wx hSw;(try dsimp only at hSw);go_simp;first | done | with_reducible rfl)
     (try simp only [Act.put,List.setIfInBounds_toArray,List.set_cons_zero,List.set_cons_succ])
     refine' wpAnyH_take (i:=5) (oi:=⟨some 24,_,_,_,_,_⟩) (v:=_) rfl (by kernel_rfl) (by kernel_rfl) (by kernel_rfl) (fun _ _ _ h=>h) (Or.inl ⟨by kernel_rfl,?hypa7⟩) (by assumption) ?restpa7
     case hypa7=>(intro wx hSw;(try dsimp only at hSw);go_simp;first | done | with_reducible rfl)
     (try simp only [Act.put,List.setIfInBounds_toArray,List.set_cons_zero,List.set_cons_succ])
     have d0:w5.cell? ⟨w1.heap.size,0,none⟩=some (.slice none 0 0):=by rw [Lib.cell_of_heap HG5.out];rfl
     have f0:w5.frozen? ⟨w1.heap.size,0,none⟩=false:=Lib.frozen_of_heap HG5.out 0
     have d1:w5.cell? ⟨w1.heap.size,1,none⟩=some (.slice none 0 0):=by rw [Lib.cell_of_heap HG5.out];rfl
     have f1:w5.frozen? ⟨w1.heap.size,1,none⟩=false:=Lib.frozen_of_heap HG5.out 1
     have d2:w5.cell? ⟨w1.heap.size,2,none⟩=some (.bool false):=by rw [Lib.cell_of_heap HG5.out];rfl
     have f2:w5.frozen? ⟨w1.heap.size,2,none⟩=false:=Lib.frozen_of_heap HG5.out 2
     have d3:w5.cell? ⟨w1.heap.size,3,none⟩=some (.int .i64 0):=by rw [Lib.cell_of_heap HG5.out];rfl
     have f3:w5.frozen? ⟨w1.heap.size,3,none⟩=false:=Lib.frozen_of_heap HG5.out 3
     have hbb:=HBb4.out;refine wpAnyH_ready (rs:=[7]) (by kernel_rfl) (by simp) ?_
     refine AllReadyH.cons rfl (fun K9 hK=> ?_) AllReadyH.nil;rw [if_pos (by kernel_rfl)]
     go_simp
     go_wp2_with fail
     have HQe:=hid (below4_19 (g:=w1.heap.size) HQ5.out hbb (.slice aM M.length cM) (.slice aN N.length cN) (.bool al) (.int .i64 ag));refine hK.out _ _ HQe.out (fun hHeld2=> ?_);clear hK K9 hHeld
     rename _=>hHeld
     refine' wpAnyH_take (i:=8) (oi:=⟨some 5,_,_,_,_,_⟩) (v:=_) rfl (by kernel_rfl) (by kernel_rfl) (by kernel_rfl) (fun _ _ _ h=>h) (Or.inl ⟨by kernel_rfl,?hypa8⟩) (by assumption) ?restpa8
     case hypa8=>(intro wx hSw;(try dsimp only at hSw);go_simp;first | done | with_reducible rfl)
     (try simp only [Act.put,List.setIfInBounds_toArray,List.set_cons_zero,List.set_cons_succ])
     refine wpAnyH_done (by kernel_rfl) ?_ _
     refine HK.out _ _ _ _ _ _ _ _ _ _ _ _ (set4_19 HG5.out) ?_ ?_ hbb HNe.out HQe.out
     ·exact own_base19 (ownsRow_same HM5.out (fun g hg=>far4_19 (fun e=>kind_ne19 HM5.out hg HG5.out (by decide) e.symm) _ _ _ _)) HBs5.out
     ·exact own_base19 (ownsRow_same HN5.out (fun g hg=>far4_19 (fun e=>kind_ne19 HN5.out hg HG5.out (by decide) e.symm) _ _ _ _)) HBs5.out
 ·as_aux_lemma=>
   rw [if_pos (by kernel_rfl)]
   go_simp
   have hb6:Below W0.heap.size W0 (W0.alloc (.cells #[.slice none 0 0,.slice none 0 0,.bool false,.int .i64 0] 60)):=(Below.refl _ W0).alloc (Nat.le_refl _) _;have hx6:(W0.alloc (.cells #[.slice none 0 0,.slice none 0 0,.bool false,.int .i64 0] 60)).heap[W0.heap.size]? = some (.cells #[.slice none 0 0,.slice none 0 0,.bool false,.int .i64 0] 60 (0,0)):=heap_alloc_new W0 _;have HBb6:=hid (show wr.heap.size≤W0.heap.size from HQ0.out.size);generalize (W0.alloc (.cells #[.slice none 0 0,.slice none 0 0,.bool false,.int .i64 0] 60))=w6 at hb6 hx6 ⊢;have HQ6:=hid (below2 HQ0.out hb6)
   have HG6:=hid hx6;clear hb6 hx6;refine hK.out _ _ HQ6.out (fun hHeld2=> ?_);clear hK K9 hHeld
   rename _=>hHeld
   refine wpAnyH_ready (rs:=[0]) (by kernel_rfl) (by simp) ?_
   refine AllReadyH.cons rfl (fun K9 hK=> ?_) AllReadyH.nil;rw [if_pos (by kernel_rfl)]
   go_simp
   go_wp2_with (go_at_call 29;refine (HOf.out _).mono ?_;rintro e w7 ⟨rfl,hb7⟩)
   have HQ7:=hid (below2 HQ6.out hb7);have HG7:=hid ((hb7.block W0.heap.size (Array.getElem?_eq_some_iff.1 HG6.out).1).trans HG6.out);clear hb7;refine hK.out _ _ HQ7.out (fun hHeld2=> ?_);clear hK K9 hHeld
   rename _=>hHeld
   refine wpAnyH_ready (rs:=[2]) (by kernel_rfl) (by simp) ?_
   refine AllReadyH.cons rfl (fun K9 hK=> ?_) AllReadyH.nil;rw [if_pos (by kernel_rfl)]
   go_simp
   go_wp2_with (go_at_call 31;refine (HRd.out _ HQ7.out).mono ?_;rintro e w8 ⟨aM,cM,aN,cN,rfl,hoM8,hoN8,hne8,hb8⟩)
   have HQ8:=hid (below2 HQ7.out hb8);have HM8:=hid hoM8;have HN8:=hid hoN8;have HNe:=hid hne8;have HBs8:=hid (show wr.heap.size≤w7.heap.size from HQ7.out.size);have HG8:=hid ((hb8.block W0.heap.size (Array.getElem?_eq_some_iff.1 HG7.out).1).trans HG7.out);clear hoM8 hoN8 hne8 hb8;refine hK.out _ _ HQ8.out (fun hHeld2=> ?_);clear hK K9 hHeld
   rename _=>hHeld
   refine' wpAnyH_take (i:=3) (oi:=⟨some 19,_,_,_,_,_⟩) (v:=_) rfl (by kernel_rfl) (by kernel_rfl) (by kernel_rfl) (fun _ _ _ h=>h) (Or.inl ⟨by kernel_rfl,?hypa9⟩) (by assumption) ?restpa9
   case hypa9=>(intro wx hSw;(try dsimp only at hSw);go_simp;first | done | with_reducible rfl)
   (try simp only [Act.put,List.setIfInBounds_toArray,List.set_cons_zero,List.set_cons_succ])
   refine' wpAnyH_take (i:=4) (oi:=⟨some 23,_,_,_,_,_⟩) (v:=_) rfl (by kernel_rfl) (by kernel_rfl) (by kernel_rfl) (fun _ _ _ h=>h) (Or.inl ⟨by kernel_rfl,?hypa10⟩) (by assumption) ?restpa10
   case hypa10=>(intro wx hSw;(try dsimp only at hSw);go_simp;first | done | with_reducible rfl)
   (try simp only [Act.put,List.setIfInBounds_toArray,List.set_cons_zero,List.set_cons_succ])
   refine' wpAnyH_take (i:=5) (oi:=⟨some 24,_,_,_,_,_⟩) (v:=_) rfl (by kernel_rfl) (by kernel_rfl) (by kernel_rfl) (fun _ _ _ h=>h) (Or.inl ⟨by kernel_rfl,?hypa11⟩) (by assumption) ?restpa11
   case hypa11=>(intro wx hSw;(try dsimp only at hSw);go_simp;first | done | with_reducible rfl)
   (try simp only [Act.put,List.setIfInBounds_toArray,List.set_cons_zero,List.set_cons_succ])
   have d0:w8.cell? ⟨W0.heap.size,0,none⟩=some (.slice none 0 0):=by rw [Lib.cell_of_heap HG8.out];rfl
   have f0:w8.frozen? ⟨W0.heap.size,0,none⟩=false:=Lib.frozen_of_heap HG8.out 0
   have d1:w8.cell? ⟨W0.heap.size,1,none⟩=some (.slice none 0 0):=by rw [Lib.cell_of_heap HG8.out];rfl
   have f1:w8.frozen? ⟨W0.heap.size,1,none⟩=false:=Lib.frozen_of_heap HG8.out 1
   have d2:w8.cell? ⟨W0.heap.size,2,none⟩=some (.bool false):=by rw [Lib.cell_of_heap HG8.out];rfl
   have f2:w8.frozen? ⟨W0.heap.size,2,none⟩=false:=Lib.frozen_of_heap HG8.out 2
   have d3:w8.cell? ⟨W0.heap.size,3,none⟩=some (.int .i64 0):=by rw [Lib.cell_of_heap HG8.out];rfl
   have f3:w8.frozen? ⟨W0.heap.size,3,none⟩=false:=Lib.frozen_of_heap HG8.out 3
   have hbb:=HBb6.out;refine wpAnyH_ready (rs:=[7]) (by kernel_rfl) (by simp) ?_
   refine AllReadyH.cons rfl (fun K9 hK=> ?_) AllReadyH.nil;rw [if_pos (by kernel_rfl)]
   go_simp
   go_wp2_with fail
   have HQe:=hid (below4_19 (g:=W0.heap.size) HQ8.out hbb (.slice aM M.length cM) (.slice aN N.length cN) (.bool al) (.int .i64 ag));refine hK.out _ _ HQe.out (fun hHeld2=> ?_);clear hK K9 hHeld
   rename _=>hHeld
   refine' wpAnyH_take (i:=8) (oi:=⟨some 5,_,_,_,_,_⟩) (v:=_) rfl (by kernel_rfl) (by kernel_rfl) (by kernel_rfl) (fun _ _ _ h=>h) (Or.inl ⟨by kernel_rfl,?hypa12⟩) (by assumption) ?restpa12
   case hypa12=>(intro wx hSw;(try dsimp only at hSw);go_simp;first | done | with_reducible rfl)
   (try simp only [Act.put,List.setIfInBounds_toArray,List.set_cons_zero,List.set_cons_succ])
   refine wpAnyH_done (by kernel_rfl) ?_ _
   refine HK.out _ _ _ _ _ _ _ _ _ _ _ _ (set4_19 HG8.out) ?_ ?_ hbb HNe.out HQe.out
   ·exact own_base19 (ownsRow_same HM8.out (fun g hg=>far4_19 (fun e=>kind_ne19 HM8.out hg HG8.out (by decide) e.symm) _ _ _ _)) HBs8.out
   ·exact own_base19 (ownsRow_same HN8.out (fun g hg=>far4_19 (fun e=>kind_ne19 HN8.out hg HG8.out (by decide) e.symm) _ _ _ _)) HBs8.out

noncomputable def rg_p19b : Code := (Tryz.f6.body.bind (regOf 17)).getD .skip

set_option maxHeartbeats 40000000 in
set_option maxRecDepth 100000 in
theorem rr_p19b (t0 t1 t3 t4 t5 t6 t7 t8 t9 t10 t11 t12 t13 t14 t15 t16 t17 t18 t19 t20 t21 t22 t23 t24 t25 t26 t27 t28 t29 t30 t31 t32 t33 t34 t35 t36 t37 t38 t39 t40 t41 t42 t43 t44 t45 t46 t47 t48 t49 t50 t51 t52 t53 t54 t55 t56 t57 t58 t59 t60 t61:Value) (wr:World) (rb:Nat) (st:Int) (va ba:Option Addr) (vn vc bn bc:Nat) (AS AH:ByteArray) (ap:Int) (ao:Bool) (M N:List (List UInt8)) (al bok:Bool) (ag:Int)
 (hr:wr.heap[rb]? = some (.cells #[.int .i64 st,.slice va vn vc,.slice ba bn bc] 30 (0,0)))
 (HOf:Hid (∀ Y,Calls Tryz.prog 29 #[.string ⟨#[104,116,116,112,115,58,47,47,97]⟩] Y fun e w'=>e = .returned (.agg #[.string AS,.string AH,.int .i64 ap,.bool ao])∧Below Y.heap.size Y w'))
 (HRd:Hid (∀ Y,Below wr.heap.size wr Y→Calls Tryz.prog 31 #[.agg #[.string AS,.string AH,.int .i64 ap,.bool ao],.bool false,.string ⟨#[80,85,84]⟩,.slice none 0 0,.agg #[.int .i64 st,.slice va vn vc,.slice ba bn bc]] Y (RdPost ⟨M,N,al,ag⟩ bok Y)))
 (K:Act→World→Prop)
 (HK:Hid (∀ (u47 u48 u49 u46 u50 u51:Value) (b cM cN:Nat) (aM aN:Option Addr) (w2:World),w2.heap[b]? = some (.cells #[.slice aM M.length cM,.slice aN N.length cN,.bool al,.int .i64 ag] 60 (0,0))→w2.ownsRow wr.heap.size 9 1 (.slice aM M.length cM) M.length (cellsT M)→w2.ownsRow wr.heap.size 9 1 (.slice aN N.length cN) N.length (cellsT N)→wr.heap.size≤b→(∀ g,(Value.slice aM M.length cM).ownBlock=some g → ∀ g',(Value.slice aN N.length cN).ownBlock=some g'→g≠g')→Below wr.heap.size wr w2→K ⟨#[t0,t1,.pointer (some ⟨rb,0,none⟩),t3,t4,t5,t6,t7,.pointer (some ⟨b,0,none⟩),.bool bok,t10,t11,t12,t13,t14,t15,t16,t17,t18,t19,t20,t21,t22,t23,t24,t25,t26,t27,t28,t29,t30,t31,t32,t33,t34,t35,t36,t37,t38,t39,t40,t41,t42,t43,t44,t45,u46,u47,u48,u49,u50,u51,t52,t53,t54,t55,t56,t57,t58,t59,t60,t61],[]⟩ w2)):
 Code.wp Tryz.prog rg_p19b (Exit.then K fun _ _ _=>False) ⟨#[t0,t1,.pointer (some ⟨rb,0,none⟩),t3,t4,t5,t6,t7,t8,t9,t10,t11,t12,t13,t14,t15,t16,t17,t18,t19,t20,t21,t22,t23,t24,t25,t26,t27,t28,t29,t30,t31,t32,t33,t34,t35,t36,t37,t38,t39,t40,t41,t42,t43,t44,t45,t46,t47,t48,t49,t50,t51,t52,t53,t54,t55,t56,t57,t58,t59,t60,t61],[]⟩ wr:=by
 have HRg:=hid (fun (wx:World) (hx:Below wr.heap.size wr wx)=>range_row_Cb (cs:=[.int .i64 st,.slice va vn vc,.slice ba bn bc]) ((hx.block rb (Array.getElem?_eq_some_iff.1 hr).1).trans hr));clear hr;unfold RdPost at HRd;dsimp only at HRd;have HQ0:=hid (show Below wr.heap.size wr wr.drew from (Below.refl _ wr).drew)
 conv=>arg 2;whnf
 refine wp_region_held_drew (S:=(fun wx=>Below wr.heap.size wr wx)) (by kernel_rfl) HQ0.out (fun hHeld=> ?_)
 generalize wr.drew=W0 at HQ0 hHeld ⊢;refine wpAnyH_to (fuel':=9) (listed':= #[false,false,false,false,false,false,false,false,false]) rfl rfl ?_;refine wpAnyH_take (i:=1) (oi:=⟨some 48,_,_,_,_,_⟩) rfl (by kernel_rfl) (by kernel_rfl) (by kernel_rfl) (fun _ _ _ h=>h) (yieldsIf_load_mid (by kernel_rfl) 30 (.tmp 2) rfl (rb) 0 rfl [.int .i64 st,.slice va vn vc,.slice ba bn bc] _ HRg.out Tryz.underlying30 rfl sizeRp19) (by assumption) ?_
 (try simp only [Act.put,List.setIfInBounds_toArray,List.set_cons_zero,List.set_cons_succ])
 refine wpAnyH_ready (rs:=[0,6]) (by kernel_rfl) (by simp) ?_
 refine AllReadyH.cons rfl (fun K9 hK=> ?_) (AllReadyH.cons rfl (fun K9 hK=> ?_) AllReadyH.nil)
 ·as_aux_lemma=>
   rw [if_pos (by kernel_rfl)]
   go_simp
   go_wp2_with (go_at_call 29;refine (HOf.out _).mono ?_;rintro e w1 ⟨rfl,hb1⟩)
   have HQ1:=hid (below2 HQ0.out hb1);clear hb1;refine hK.out _ _ HQ1.out (fun hHeld2=> ?_);clear hK K9 hHeld
   rename _=>hHeld
   refine wpAnyH_ready (rs:=[2,6]) (by kernel_rfl) (by simp) ?_
   refine AllReadyH.cons rfl (fun K9 hK=> ?_) (AllReadyH.cons rfl (fun K9 hK=> ?_) AllReadyH.nil)
   ·as_aux_lemma=>
     rw [if_pos (by kernel_rfl)]
     go_simp
     go_wp2_with (go_at_call 31;refine (HRd.out _ HQ1.out).mono ?_;rintro e w2 ⟨aM,cM,aN,cN,rfl,hoM2,hoN2,hne2,hb2⟩)
     have HQ2:=hid (below2 HQ1.out hb2);have HM2:=hid hoM2;have HN2:=hid hoN2;have HNe:=hid hne2;have HBs2:=hid (show wr.heap.size≤w1.heap.size from HQ1.out.size);clear hoM2 hoN2 hne2 hb2;refine hK.out _ _ HQ2.out (fun hHeld2=> ?_);clear hK K9 hHeld
     rename _=>hHeld
     refine' wpAnyH_take (i:=3) (oi:=⟨some 46,_,_,_,_,_⟩) (v:=_) rfl (by kernel_rfl) (by kernel_rfl) (by kernel_rfl) (fun _ _ _ h=>h) (Or.inl ⟨by kernel_rfl,?hypb1⟩) (by assumption) ?restpb1
     case hypb1=>(intro wx hSw;(try dsimp only at hSw);go_simp;first | done | with_reducible rfl)
     (try simp only [Act.put,List.setIfInBounds_toArray,List.set_cons_zero,List.set_cons_succ])
     refine' wpAnyH_take (i:=4) (oi:=⟨some 50,_,_,_,_,_⟩) (v:=_) rfl (by kernel_rfl) (by kernel_rfl) (by kernel_rfl) (fun _ _ _ h=>h) (Or.inl ⟨by kernel_rfl,?hypb2⟩) (by assumption) ?restpb2
     case hypb2=>(intro wx hSw;(try dsimp only at hSw);go_simp;first | done | with_reducible rfl)
     (try simp only [Act.put,List.setIfInBounds_toArray,List.set_cons_zero,List.set_cons_succ])
     refine' wpAnyH_take (i:=5) (oi:=⟨some 51,_,_,_,_,_⟩) (v:=_) rfl (by kernel_rfl) (by kernel_rfl) (by kernel_rfl) (fun _ _ _ h=>h) (Or.inl ⟨by kernel_rfl,?hypb3⟩) (by assumption) ?restpb3
     case hypb3=>(intro wx hSw;(try dsimp only at hSw);go_simp;first | done | with_reducible rfl)
     (try simp only [Act.put,List.setIfInBounds_toArray,List.set_cons_zero,List.set_cons_succ])
     refine wpAnyH_ready (rs:=[6]) (by kernel_rfl) (by simp) ?_
     refine AllReadyH.cons rfl (fun K9 hK=> ?_) AllReadyH.nil;rw [if_pos (by kernel_rfl)]
     go_simp
     have hb3:Below w2.heap.size w2 (w2.alloc (.cells #[.slice none 0 0,.slice none 0 0,.bool false,.int .i64 0] 60)):=(Below.refl _ w2).alloc (Nat.le_refl _) _;have hx3:(w2.alloc (.cells #[.slice none 0 0,.slice none 0 0,.bool false,.int .i64 0] 60)).heap[w2.heap.size]? = some (.cells #[.slice none 0 0,.slice none 0 0,.bool false,.int .i64 0] 60 (0,0)):=heap_alloc_new w2 _;have HBb3:=hid (show wr.heap.size≤w2.heap.size from HQ2.out.size);generalize (w2.alloc (.cells #[.slice none 0 0,.slice none 0 0,.bool false,.int .i64 0] 60))=w3 at hb3 hx3 ⊢;have HQ3:=hid (below2 HQ2.out hb3)
     have HG3:=hid hx3;have HM3:=hid (own_same HM2.out hb3);have HN3:=hid (own_same HN2.out hb3);clear hb3 hx3;refine hK.out _ _ HQ3.out (fun hHeld2=> ?_);clear hK K9 hHeld
     rename _=>hHeld
     have d0:w3.cell? ⟨w2.heap.size,0,none⟩=some (.slice none 0 0):=by rw [Lib.cell_of_heap HG3.out];rfl
     have f0:w3.frozen? ⟨w2.heap.size,0,none⟩=false:=Lib.frozen_of_heap HG3.out 0
     have d1:w3.cell? ⟨w2.heap.size,1,none⟩=some (.slice none 0 0):=by rw [Lib.cell_of_heap HG3.out];rfl
     have f1:w3.frozen? ⟨w2.heap.size,1,none⟩=false:=Lib.frozen_of_heap HG3.out 1
     have d2:w3.cell? ⟨w2.heap.size,2,none⟩=some (.bool false):=by rw [Lib.cell_of_heap HG3.out];rfl
     have f2:w3.frozen? ⟨w2.heap.size,2,none⟩=false:=Lib.frozen_of_heap HG3.out 2
     have d3:w3.cell? ⟨w2.heap.size,3,none⟩=some (.int .i64 0):=by rw [Lib.cell_of_heap HG3.out];rfl
     have f3:w3.frozen? ⟨w2.heap.size,3,none⟩=false:=Lib.frozen_of_heap HG3.out 3
     have hbb:=HBb3.out;refine wpAnyH_ready (rs:=[7]) (by kernel_rfl) (by simp) ?_
     refine AllReadyH.cons rfl (fun K9 hK=> ?_) AllReadyH.nil;rw [if_pos (by kernel_rfl)]
     go_simp
     go_wp2_with fail
     have HQe:=hid (below4_19 (g:=w2.heap.size) HQ3.out hbb (.slice aM M.length cM) (.slice aN N.length cN) (.bool al) (.int .i64 ag));refine hK.out _ _ HQe.out (fun hHeld2=> ?_);clear hK K9 hHeld
     rename _=>hHeld
     refine' wpAnyH_take (i:=8) (oi:=⟨some 9,_,_,_,_,_⟩) (v:=_) rfl (by kernel_rfl) (by kernel_rfl) (by kernel_rfl) (fun _ _ _ h=>h) (Or.inl ⟨by kernel_rfl,?hypb4⟩) (by assumption) ?restpb4
     case hypb4=>(intro wx hSw;(try dsimp only at hSw);go_simp;first | done | with_reducible rfl)
     (try simp only [Act.put,List.setIfInBounds_toArray,List.set_cons_zero,List.set_cons_succ])
     refine wpAnyH_done (by kernel_rfl) ?_ _
     refine HK.out _ _ _ _ _ _ _ _ _ _ _ _ (set4_19 HG3.out) ?_ ?_ hbb HNe.out HQe.out
     ·exact own_base19 (ownsRow_same HM3.out (fun g hg=>far4_19 (fun e=>kind_ne19 HM3.out hg HG3.out (by decide) e.symm) _ _ _ _)) HBs2.out
     ·exact own_base19 (ownsRow_same HN3.out (fun g hg=>far4_19 (fun e=>kind_ne19 HN3.out hg HG3.out (by decide) e.symm) _ _ _ _)) HBs2.out
   ·as_aux_lemma=>
     rw [if_pos (by kernel_rfl)]
     go_simp
     have hb4:Below w1.heap.size w1 (w1.alloc (.cells #[.slice none 0 0,.slice none 0 0,.bool false,.int .i64 0] 60)):=(Below.refl _ w1).alloc (Nat.le_refl _) _;have hx4:(w1.alloc (.cells #[.slice none 0 0,.slice none 0 0,.bool false,.int .i64 0] 60)).heap[w1.heap.size]? = some (.cells #[.slice none 0 0,.slice none 0 0,.bool false,.int .i64 0] 60 (0,0)):=heap_alloc_new w1 _;have HBb4:=hid (show wr.heap.size≤w1.heap.size from HQ1.out.size);generalize (w1.alloc (.cells #[.slice none 0 0,.slice none 0 0,.bool false,.int .i64 0] 60))=w4 at hb4 hx4 ⊢;have HQ4:=hid (below2 HQ1.out hb4)
     have HG4:=hid hx4;clear hb4 hx4;refine hK.out _ _ HQ4.out (fun hHeld2=> ?_);clear hK K9 hHeld
     rename _=>hHeld
     refine wpAnyH_ready (rs:=[2]) (by kernel_rfl) (by simp) ?_
     refine AllReadyH.cons rfl (fun K9 hK=> ?_) AllReadyH.nil;rw [if_pos (by kernel_rfl)]
     go_simp
     go_wp2_with (go_at_call 31;refine (HRd.out _ HQ4.out).mono ?_;rintro e w5 ⟨aM,cM,aN,cN,rfl,hoM5,hoN5,hne5,hb5⟩)
     have HQ5:=hid (below2 HQ4.out hb5);have HM5:=hid hoM5;have HN5:=hid hoN5;have HNe:=hid hne5;have HBs5:=hid (show wr.heap.size≤w4.heap.size from HQ4.out.size);have HG5:=hid ((hb5.block w1.heap.size (Array.getElem?_eq_some_iff.1 HG4.out).1).trans HG4.out);clear hoM5 hoN5 hne5 hb5;refine hK.out _ _ HQ5.out (fun hHeld2=> ?_);clear hK K9 hHeld
     rename _=>hHeld
     refine' wpAnyH_take (i:=3) (oi:=⟨some 46,_,_,_,_,_⟩) (v:=_) rfl (by kernel_rfl) (by kernel_rfl) (by kernel_rfl) (fun _ _ _ h=>h) (Or.inl ⟨by kernel_rfl,?hypb5⟩) (by assumption) ?restpb5
     case hypb5=>(intro wx hSw;(try dsimp only at hSw);go_simp;first | done | with_reducible rfl)
     (try simp only [Act.put,List.setIfInBounds_toArray,List.set_cons_zero,List.set_cons_succ])
     refine' wpAnyH_take (i:=4) (oi:=⟨some 50,_,_,_,_,_⟩) (v:=_) rfl (by kernel_rfl) (by kernel_rfl) (by kernel_rfl) (fun _ _ _ h=>h) (Or.inl ⟨by kernel_rfl,?hypb6⟩) (by assumption) ?restpb6
     case hypb6=>(intro wx hSw;(try dsimp only at hSw);go_simp;first | done | with_reducible rfl)
     (try simp only [Act.put,List.setIfInBounds_toArray,List.set_cons_zero,List.set_cons_succ])
     refine' wpAnyH_take (i:=5) (oi:=⟨some 51,_,_,_,_,_⟩) (v:=_) rfl (by kernel_rfl) (by kernel_rfl) (by kernel_rfl) (fun _ _ _ h=>h) (Or.inl ⟨by kernel_rfl,?hypb7⟩) (by assumption) ?restpb7
     case hypb7=>(intro wx hSw;(try dsimp only at hSw);go_simp;first | done | with_reducible rfl)
     (try simp only [Act.put,List.setIfInBounds_toArray,List.set_cons_zero,List.set_cons_succ])
     have d0:w5.cell? ⟨w1.heap.size,0,none⟩=some (.slice none 0 0):=by rw [Lib.cell_of_heap HG5.out];rfl
     have f0:w5.frozen? ⟨w1.heap.size,0,none⟩=false:=Lib.frozen_of_heap HG5.out 0
     have d1:w5.cell? ⟨w1.heap.size,1,none⟩=some (.slice none 0 0):=by rw [Lib.cell_of_heap HG5.out];rfl
     have f1:w5.frozen? ⟨w1.heap.size,1,none⟩=false:=Lib.frozen_of_heap HG5.out 1
     have d2:w5.cell? ⟨w1.heap.size,2,none⟩=some (.bool false):=by rw [Lib.cell_of_heap HG5.out];rfl
     have f2:w5.frozen? ⟨w1.heap.size,2,none⟩=false:=Lib.frozen_of_heap HG5.out 2
     have d3:w5.cell? ⟨w1.heap.size,3,none⟩=some (.int .i64 0):=by rw [Lib.cell_of_heap HG5.out];rfl
     have f3:w5.frozen? ⟨w1.heap.size,3,none⟩=false:=Lib.frozen_of_heap HG5.out 3
     have hbb:=HBb4.out;refine wpAnyH_ready (rs:=[7]) (by kernel_rfl) (by simp) ?_
     refine AllReadyH.cons rfl (fun K9 hK=> ?_) AllReadyH.nil;rw [if_pos (by kernel_rfl)]
     go_simp
     go_wp2_with fail
     have HQe:=hid (below4_19 (g:=w1.heap.size) HQ5.out hbb (.slice aM M.length cM) (.slice aN N.length cN) (.bool al) (.int .i64 ag));refine hK.out _ _ HQe.out (fun hHeld2=> ?_);clear hK K9 hHeld
     rename _=>hHeld
     refine' wpAnyH_take (i:=8) (oi:=⟨some 9,_,_,_,_,_⟩) (v:=_) rfl (by kernel_rfl) (by kernel_rfl) (by kernel_rfl) (fun _ _ _ h=>h) (Or.inl ⟨by kernel_rfl,?hypb8⟩) (by assumption) ?restpb8
     case hypb8=>(intro wx hSw;(try dsimp only at hSw);go_simp;first | done | with_reducible rfl)
     (try simp only [Act.put,List.setIfInBounds_toArray,List.set_cons_zero,List.set_cons_succ])
     refine wpAnyH_done (by kernel_rfl) ?_ _
     refine HK.out _ _ _ _ _ _ _ _ _ _ _ _ (set4_19 HG5.out) ?_ ?_ hbb HNe.out HQe.out
     ·exact own_base19 (ownsRow_same HM5.out (fun g hg=>far4_19 (fun e=>kind_ne19 HM5.out hg HG5.out (by decide) e.symm) _ _ _ _)) HBs5.out
     ·exact own_base19 (ownsRow_same HN5.out (fun g hg=>far4_19 (fun e=>kind_ne19 HN5.out hg HG5.out (by decide) e.symm) _ _ _ _)) HBs5.out
 ·as_aux_lemma=>
   rw [if_pos (by kernel_rfl)]
   go_simp
   have hb6:Below W0.heap.size W0 (W0.alloc (.cells #[.slice none 0 0,.slice none 0 0,.bool false,.int .i64 0] 60)):=(Below.refl _ W0).alloc (Nat.le_refl _) _;have hx6:(W0.alloc (.cells #[.slice none 0 0,.slice none 0 0,.bool false,.int .i64 0] 60)).heap[W0.heap.size]? = some (.cells #[.slice none 0 0,.slice none 0 0,.bool false,.int .i64 0] 60 (0,0)):=heap_alloc_new W0 _;have HBb6:=hid (show wr.heap.size≤W0.heap.size from HQ0.out.size);generalize (W0.alloc (.cells #[.slice none 0 0,.slice none 0 0,.bool false,.int .i64 0] 60))=w6 at hb6 hx6 ⊢;have HQ6:=hid (below2 HQ0.out hb6)
   have HG6:=hid hx6;clear hb6 hx6;refine hK.out _ _ HQ6.out (fun hHeld2=> ?_);clear hK K9 hHeld
   rename _=>hHeld
   refine wpAnyH_ready (rs:=[0]) (by kernel_rfl) (by simp) ?_
   refine AllReadyH.cons rfl (fun K9 hK=> ?_) AllReadyH.nil;rw [if_pos (by kernel_rfl)]
   go_simp
   go_wp2_with (go_at_call 29;refine (HOf.out _).mono ?_;rintro e w7 ⟨rfl,hb7⟩)
   have HQ7:=hid (below2 HQ6.out hb7);have HG7:=hid ((hb7.block W0.heap.size (Array.getElem?_eq_some_iff.1 HG6.out).1).trans HG6.out);clear hb7;refine hK.out _ _ HQ7.out (fun hHeld2=> ?_);clear hK K9 hHeld
   rename _=>hHeld
   refine wpAnyH_ready (rs:=[2]) (by kernel_rfl) (by simp) ?_
   refine AllReadyH.cons rfl (fun K9 hK=> ?_) AllReadyH.nil;rw [if_pos (by kernel_rfl)]
   go_simp
   go_wp2_with (go_at_call 31;refine (HRd.out _ HQ7.out).mono ?_;rintro e w8 ⟨aM,cM,aN,cN,rfl,hoM8,hoN8,hne8,hb8⟩)
   have HQ8:=hid (below2 HQ7.out hb8);have HM8:=hid hoM8;have HN8:=hid hoN8;have HNe:=hid hne8;have HBs8:=hid (show wr.heap.size≤w7.heap.size from HQ7.out.size);have HG8:=hid ((hb8.block W0.heap.size (Array.getElem?_eq_some_iff.1 HG7.out).1).trans HG7.out);clear hoM8 hoN8 hne8 hb8;refine hK.out _ _ HQ8.out (fun hHeld2=> ?_);clear hK K9 hHeld
   rename _=>hHeld
   refine' wpAnyH_take (i:=3) (oi:=⟨some 46,_,_,_,_,_⟩) (v:=_) rfl (by kernel_rfl) (by kernel_rfl) (by kernel_rfl) (fun _ _ _ h=>h) (Or.inl ⟨by kernel_rfl,?hypb9⟩) (by assumption) ?restpb9
   case hypb9=>(intro wx hSw;(try dsimp only at hSw);go_simp;first | done | with_reducible rfl)
   (try simp only [Act.put,List.setIfInBounds_toArray,List.set_cons_zero,List.set_cons_succ])
   refine' wpAnyH_take (i:=4) (oi:=⟨some 50,_,_,_,_,_⟩) (v:=_) rfl (by kernel_rfl) (by kernel_rfl) (by kernel_rfl) (fun _ _ _ h=>h) (Or.inl ⟨by kernel_rfl,?hypb10⟩) (by assumption) ?restpb10
   case hypb10=>(intro wx hSw;(try dsimp only at hSw);go_simp;first | done | with_reducible rfl)
   (try simp only [Act.put,List.setIfInBounds_toArray,List.set_cons_zero,List.set_cons_succ])
   refine' wpAnyH_take (i:=5) (oi:=⟨some 51,_,_,_,_,_⟩) (v:=_) rfl (by kernel_rfl) (by kernel_rfl) (by kernel_rfl) (fun _ _ _ h=>h) (Or.inl ⟨by kernel_rfl,?hypb11⟩) (by assumption) ?restpb11
   case hypb11=>(intro wx hSw;(try dsimp only at hSw);go_simp;first | done | with_reducible rfl)
   (try simp only [Act.put,List.setIfInBounds_toArray,List.set_cons_zero,List.set_cons_succ])
   have d0:w8.cell? ⟨W0.heap.size,0,none⟩=some (.slice none 0 0):=by rw [Lib.cell_of_heap HG8.out];rfl
   have f0:w8.frozen? ⟨W0.heap.size,0,none⟩=false:=Lib.frozen_of_heap HG8.out 0
   have d1:w8.cell? ⟨W0.heap.size,1,none⟩=some (.slice none 0 0):=by rw [Lib.cell_of_heap HG8.out];rfl
   have f1:w8.frozen? ⟨W0.heap.size,1,none⟩=false:=Lib.frozen_of_heap HG8.out 1
   have d2:w8.cell? ⟨W0.heap.size,2,none⟩=some (.bool false):=by rw [Lib.cell_of_heap HG8.out];rfl
   have f2:w8.frozen? ⟨W0.heap.size,2,none⟩=false:=Lib.frozen_of_heap HG8.out 2
   have d3:w8.cell? ⟨W0.heap.size,3,none⟩=some (.int .i64 0):=by rw [Lib.cell_of_heap HG8.out];rfl
   have f3:w8.frozen? ⟨W0.heap.size,3,none⟩=false:=Lib.frozen_of_heap HG8.out 3
   have hbb:=HBb6.out;refine wpAnyH_ready (rs:=[7]) (by kernel_rfl) (by simp) ?_
   refine AllReadyH.cons rfl (fun K9 hK=> ?_) AllReadyH.nil;rw [if_pos (by kernel_rfl)]
   go_simp
   go_wp2_with fail
   have HQe:=hid (below4_19 (g:=W0.heap.size) HQ8.out hbb (.slice aM M.length cM) (.slice aN N.length cN) (.bool al) (.int .i64 ag));refine hK.out _ _ HQe.out (fun hHeld2=> ?_);clear hK K9 hHeld
   rename _=>hHeld
   refine' wpAnyH_take (i:=8) (oi:=⟨some 9,_,_,_,_,_⟩) (v:=_) rfl (by kernel_rfl) (by kernel_rfl) (by kernel_rfl) (fun _ _ _ h=>h) (Or.inl ⟨by kernel_rfl,?hypb12⟩) (by assumption) ?restpb12
   case hypb12=>(intro wx hSw;(try dsimp only at hSw);go_simp;first | done | with_reducible rfl)
   (try simp only [Act.put,List.setIfInBounds_toArray,List.set_cons_zero,List.set_cons_succ])
   refine wpAnyH_done (by kernel_rfl) ?_ _
   refine HK.out _ _ _ _ _ _ _ _ _ _ _ _ (set4_19 HG8.out) ?_ ?_ hbb HNe.out HQe.out
   ·exact own_base19 (ownsRow_same HM8.out (fun g hg=>far4_19 (fun e=>kind_ne19 HM8.out hg HG8.out (by decide) e.symm) _ _ _ _)) HBs8.out
   ·exact own_base19 (ownsRow_same HN8.out (fun g hg=>far4_19 (fun e=>kind_ne19 HN8.out hg HG8.out (by decide) e.symm) _ _ _ _)) HBs8.out

def KqI (w:World) (rb hb i:Nat) (wr:World):Prop:=KBs wr w.heap.size w.heap.size (2*i) (fun g=>g<wr.heap.size)∧w.heap.size<wr.heap.size∧Below w.heap.size w wr∧wr.heap[rb]? = some (.cells #[.int .i64 200,.slice (some ⟨hb,0,none⟩) 3 3,.slice none 0 0] 30 (0,0))∧wr.heap[hb]? = some (.cells (cellsH [⟨nAO,[42]⟩,⟨nAM,[80,85,84,44,32,88]⟩,⟨nAH,[97,44,32,98]⟩]).toArray 45 (0,0))

theorem hd_blk19 {w:World} {b:Nat} {L:List Hd} {n:Nat} (h:w.heap[b]? = some (.cells (cellsH L).toArray 45 (0,0))) (hn:L.length=n) (hl:n≤1000):HdAt w (.slice (some ⟨b,0,none⟩) n n) L:=by
 subst hn;refine own_hd (B:=0) ⟨cellsH_len L,.inr ⟨b,L.length,_,rfl,Nat.zero_le _,h,Nat.le_refl _,by unfold maxLen;omega,by rw [List.size_toArray,cellsH_len],?_⟩⟩;rw [List.toList_toArray];exact List.take_of_length_le (by rw [cellsH_len];exact Nat.le_refl _)

set_option maxHeartbeats 32000000 in
set_option maxRecDepth 100000 in
theorem preflightKept_walk (w:World) (hg:Gd w):Calls Tryz.prog 6 #[] w fun e w'=>e = .returned (.bool true)∧Below w.heap.size w w':=by
 have HO:=hid (of19_at (⟨#[104,116,116,112,115,58,47,47,97]⟩:ByteArray) _ rfl (by decide));have k1:=kk19_1;have k2:=kk19_2;have k5:=kk19_4;generalize hO:ofT (⟨#[104,116,116,112,115,58,47,47,97]⟩:ByteArray).data.toList=O at *
 have HRd:=hid (read19_at O false (⟨#[80,85,84]⟩:ByteArray) [] 200 [⟨nAO,[42]⟩,⟨nAM,[80,85,84,44,32,88]⟩,⟨nAH,[97,44,32,98]⟩] _ _ (hO ▸ k2) (hO ▸ k1) (hO ▸ k5) (by decide) rfl (by decide) (by decide) (by decide));have HG:=hid hg;clear k1 k2 k5 hO hg;obtain ⟨sa,ah,ap,ao⟩:=O
 obtain ⟨AS,rfl⟩: ∃ X:ByteArray,sa=X.data.toList:=⟨⟨sa.toArray⟩,rfl⟩
 obtain ⟨AH,rfl⟩: ∃ X:ByteArray,ah=X.data.toList:=⟨⟨ah.toArray⟩,rfl⟩
 rw [show orgVal ⟨AS.data.toList,AH.data.toList,ap,ao⟩ = .agg #[.string AS,.string AH,.int .i64 ap,.bool ao] from rfl] at HO HRd;obtain ⟨w1,hW1⟩: ∃ X,w.alloc (.cells #[.slice none 0 0,.slice none 0 0,.int .i64 0,.bool false] 76)=X:=⟨_,rfl⟩
 have hbk1:KBs w1 w.heap.size w.heap.size 0 (fun g=>g<w1.heap.size):=by rw [← hW1];exact books w _
 have hb1:Below w.heap.size w w1:=by rw [← hW1];exact (Below.refl _ w).alloc (Nat.le_refl _) _
 have hs1:w1.heap.size=w.heap.size+1:=by rw [← hW1];simp
 go_enter Tryz.func6,Tryz.ntmps6
 go_wp2_with fail
 refine (h19_any _ _ _).mono ?_;rintro e w2 ⟨rfl,hb2⟩
 go_wp2_with fail
 refine (h19_any _ _ _).mono ?_;rintro e w3 ⟨rfl,hb3⟩
 go_wp2_with fail
 refine (h19_any _ _ _).mono ?_;rintro e w4 ⟨rfl,hb4⟩
 have hb14:=below2 (below2 hb2 hb3) hb4;obtain ⟨hb,hhb⟩: ∃ b,b=w4.heap.size:=⟨_,rfl⟩
 obtain ⟨w5,hW5⟩: ∃ X,w4.alloc (.cells #[.string ⟨#[97,99,99,101,115,115,45,99,111,110,116,114,111,108,45,97,108,108,111,119,45,111,114,105,103,105,110]⟩,.string ⟨#[42]⟩,.string ⟨#[97,99,99,101,115,115,45,99,111,110,116,114,111,108,45,97,108,108,111,119,45,109,101,116,104,111,100,115]⟩,.string ⟨#[80,85,84,44,32,88]⟩,.string ⟨#[97,99,99,101,115,115,45,99,111,110,116,114,111,108,45,97,108,108,111,119,45,104,101,97,100,101,114,115]⟩,.string ⟨#[97,44,32,98]⟩] 45)=X:=⟨_,rfl⟩
 obtain ⟨rb,hrb⟩: ∃ b,b=w5.heap.size:=⟨_,rfl⟩
 obtain ⟨w6,hW6⟩: ∃ X,w5.alloc (.cells #[.int .i64 200,.slice (some ⟨w4.heap.size,0,none⟩) 3 3,.slice none 0 0] 30)=X:=⟨_,rfl⟩
 have hb45:Below w4.heap.size w4 w5:=by rw [← hW5];exact (Below.refl _ w4).alloc (Nat.le_refl _) _
 have hb56:Below w5.heap.size w5 w6:=by rw [← hW6];exact (Below.refl _ w5).alloc (Nat.le_refl _) _
 have hx5:w5.heap[hb]? = some (.cells (cellsH [⟨nAO,[42]⟩,⟨nAM,[80,85,84,44,32,88]⟩,⟨nAH,[97,44,32,98]⟩]).toArray 45 (0,0)):=by rw [← hW5,hhb];exact heap_alloc_new w4 _
 have hx6:w6.heap[rb]? = some (.cells #[.int .i64 200,.slice (some ⟨hb,0,none⟩) 3 3,.slice none 0 0] 30 (0,0)):=by rw [← hW6,hrb,hhb];exact heap_alloc_new w5 _
 have hb16:=below2 (below2 hb14 hb45) hb56;have hne1:w.heap.size<hb∧w.heap.size<rb:=by have:=hb14.size;have:=hb45.size;omega
 have HNe:=hid hne1;have H0:=hid (show KqI w rb hb 0 w6 from ⟨(hbk1.below hb16).more (Nat.le_refl _) (fun g h=>by have h:g<w1.heap.size:=h;have:=hb16.size;show g<w6.heap.size;omega),by have:=hb16.size;omega,hb1.trans (hb16.mono (by omega)),hx6,kept_at19 hb56 hx5⟩);have HW6:=hid hW6;have HHb:=hid hhb.symm;have HRb:=hid hrb.symm;clear hW6 hbk1 hb1 hb2 hb3 hb4 hb14 hb45 hb56 hx5 hx6 hb16 hne1 hhb hrb hs1
 go_wp2_with fail
 rw [HW6.out,HRb.out]
 go_loopw [3] (fun v3 wr=> ∃ i:Nat,i≤2∧v3 = .int .i64 i∧Hid (KqI w rb hb i wr)) (fun v3 _=>2 - (intOf v3).toNat)
 case atStart=>exact ⟨0,by omega,rfl,H0.out⟩
 case round=>
  clear H0 hW5 hW1 HW6;obtain ⟨i,hi,rfl,HR⟩:=hrel
  by_cases hlt:i<2
  ·have hin:(i:Int)<2:=by omega
   obtain ⟨WR,hWR⟩: ∃ W,W=wr:=⟨_,rfl⟩
   subst hWR;have hrp:=HR.out.2.2.2.1
   go_upto_region 6 with fail
   refine wp_reg (rr_p19a _ _ _ _ _ _ _ _ _ _ _ _ _ _ _ _ _ _ _ _ _ _ _ _ _ _ _ _ _ _ _ _ _ _ _ _ _ _ _ _ _ _ _ _ _ _ _ _ _ _ _ _ _ _ _ _ _ _ _ _ _ WR rb 200 (some ⟨hb,0,none⟩) none 3 3 0 0 AS AH ap ao [[80,85,84],[88]] [[97],[98]] false true 5 hrp HO (hid (fun Y hY=>HRd.out _ _ none 0 0 Y (HG.out.kept (HR.out.2.2.1.trans (hY.mono (by have:=HR.out.2.1;omega)))) (tx_nil _) (hd_blk19 (kept_at19 hY HR.out.2.2.2.2) rfl (by decide)))) _ ?hk)
   case hk=>
    intro u20 u21 u22 u19 u23 u24 b cM cN aM aN v1 hgr hoM hoN hbb hne hbv;obtain ⟨gN,curN,haN,hgN,hrN,hzN⟩:=own_blk19 hoN (by decide)
    subst haN;have HQ1:=hid hbv;have HGr:=hid hgr;have HM:=hid hoM;have HN:=hid hoN;have HNn:=hid (show WR.heap.size≤gN∧2≤curN.size∧WR.heap.size≤b from ⟨hgN,by simpa using hzN,hbb⟩);have HrN:=hid hrN;clear hgr hoM hoN hbb hne hbv hrp hgN hrN hzN;dsimp only [List.length_cons,List.length_nil] at HGr HM HN
    go_wp2_with fail
    refine (new19_any _).mono ?_;rintro e v2 ⟨rfl,hI2,hbv2⟩
    have HQ2:=hid (below2 HQ1.out hbv2);have hg2:=kept_at19 hbv2 HGr.out;have HG2:=hid hg2;have HTn:=hid (show WR.heap.size≤v1.heap.size from HQ1.out.size);have HP:=hid (put19_at v1.heap.size [] (putsT 5 0 (rtsV [115] [117] false [[80,85,84],[88]] [[97],[98]] false) []) (⟨#[115]⟩:ByteArray) (⟨#[117]⟩:ByteArray) false [[80,85,84],[88]] [[97],[98]] false 5 0 rfl (by decide) (by decide) (by decide) (by decide) (by decide) (.slice aM 2 cM) (.slice (some ⟨gN,0,none⟩) 2 cN) v2 hI2 (own_txT (own_same HM.out hbv2)) (own_txT (own_same HN.out hbv2)));have HrN2:=hid (kept_at19 hbv2 HrN.out)
    have g0:v2.cell? ⟨b,0,none⟩=some (.slice aM 2 cM):=by rw [Lib.cell_of_heap hg2];rfl
    have g1:v2.cell? ⟨b,1,none⟩=some (.slice (some ⟨gN,0,none⟩) 2 cN):=by rw [Lib.cell_of_heap hg2];rfl
    have g2:v2.cell? ⟨b,2,none⟩=some (.bool false):=by rw [Lib.cell_of_heap hg2];rfl
    have g3:v2.cell? ⟨b,3,none⟩=some (.int .i64 5):=by rw [Lib.cell_of_heap hg2];rfl
    clear hI2 hbv2 hg2
    go_wp2_with fail
    refine HP.out.mono ?_;rintro e v3 ⟨rfl,hI3,hq3⟩
    have HI3:=hid hI3;have HQ3:=hid (HQ2.out.trans (hq3.1.mono HTn.out));have HG3:=hid (tq_kept hq3 HG2.out (by decide) (by decide));have HrN3:=hid (tq_kept hq3 HrN2.out (by decide) (by decide));have HS0:=hid (show SpT gN 2 v3 v3 from ⟨⟨rfl,rfl,rfl,Nat.le_refl _,fun _ _ _=>rfl⟩,curN,HrN3.out,HNn.out.2.1⟩);have HbN:=hid (fun e:b=gN=>(by
     have h1:=HG3.out;have h2:=HrN3.out;rw [e,h2] at h1
     injection h1 with h1
     injection h1 with _ h1 _
     exact absurd h1 (by decide):False))
    clear hI3 hq3 g0 g1 g2 g3
    go_wp2_with fail
    go_loopw [7] (fun v7 wr=> ∃ k:Nat,k≤2∧v7 = .int .i64 k∧Hid (SpT gN 2 v3 wr)) (fun v7 _=>2 - (intOf v7).toNat)
    case atStart=>exact ⟨0,by omega,rfl,HS0.out⟩
    case round=>
     clear HS0;obtain ⟨k,hk,rfl,HSp⟩:=hrel
     have hgq:=(HSp.out.1.block b (Array.getElem?_eq_some_iff.1 HG3.out).1 (fun e=>HbN.out (by injection e))).trans HG3.out;have g1:wr.cell? ⟨b,1,none⟩=some (.slice (some ⟨gN,0,none⟩) 2 cN):=by rw [Lib.cell_of_heap hgq];rfl
     clear hgq;by_cases hlk:k<2
     ·have hink:(k:Int)<2:=by omega
      obtain ⟨⟨x,hx⟩,hf⟩:=HSp.out.cell k hlk
      have HSn:=hid (HSp.out.set k (.string ⟨#[115,112,111,105,108,116]⟩));clear HSp
      go_wp2_with fail
      go_roundw
      case rel=>
       first
        | exact ⟨k+1,by omega,by go_num,HSn.out⟩
        | ((repeat apply Exists.intro);refine ⟨?_,rfl⟩;exact ⟨k+1,by omega,by go_num,HSn.out⟩)
        | ((repeat apply Exists.intro);exact ⟨⟨k+1,by omega,by go_num,HSn.out⟩,rfl⟩)
      case measure=>simp [intOf];omega
     ·obtain rfl:k=2:=by omega
      obtain ⟨v4,hv4⟩: ∃ W,W=wr:=⟨_,rfl⟩
      subst hv4;have hq4:Tq 9 9 WR.heap.size v3 v4:=Tq.grown HSp.out.1 (fun g hg=>by injection hg with hg;subst hg;exact ⟨HNn.out.1,_,_,HrN3.out⟩) HQ3.out.size;have HI4:=hid (HI3.out.tq hq4 (by decide) (by decide));have HQ4:=hid (show Below WR.heap.size WR v4 from HQ3.out.trans hq4.1);obtain ⟨v5,hV5⟩: ∃ X,v4.alloc (.cells #[.string ⟨#[97]⟩] 9)=X:=⟨_,rfl⟩
      have hb5:Below v4.heap.size v4 v5:=by rw [← hV5];exact (Below.refl _ v4).alloc (Nat.le_refl _) _
      have HQ5:=hid (below2 HQ4.out hb5);have HAl:=hid (allows19_at v1.heap.size (putsT 5 0 (rtsV [115] [117] false [[80,85,84],[88]] [[97],[98]] false) []) (⟨#[115]⟩:ByteArray) (⟨#[117]⟩:ByteArray) (⟨#[71,69,84]⟩:ByteArray) false [[97]] 0 _ kk19_3 (by decide) (by decide) (by decide) (by decide) (.slice (some ⟨v4.heap.size,0,none⟩) 1 1) v5 (HI4.out.kept hb5) (by rw [← hV5];exact txl_lit19 v4 [[97]] 1 rfl (by decide)));clear hq4 hb5 hk hlk HSp
      go_wp2_with fail
      clear g1;refine HAl.out.mono ?_;rintro e v6 ⟨rfl,hb6⟩
      have HQ6:=hid (below2 HQ5.out hb6);have hrp6:=kept_at19 HQ6.out HR.out.2.2.2.1;have HB6:=hid (show Below w.heap.size w v6 from HR.out.2.2.1.trans (HQ6.out.mono (by have:=HR.out.2.1;omega)));have hhd6:=kept_at19 HQ6.out HR.out.2.2.2.2;have HHd6:=hid hhd6;have HRp6:=hid hrp6;have HKb6:=hid (HR.out.1.below HQ6.out);have HS6:=hid (show WR.heap.size≤v6.heap.size∧w.heap.size<WR.heap.size from ⟨HQ6.out.size,HR.out.2.1⟩);clear hb6 hhd6 hV5 HAl HI3 HI4 HG3 HG2 HM HN HrN HrN2 HrN3 HP
      go_upto_region 17 with fail
      refine wp_reg (rr_p19b _ _ _ _ _ _ _ _ _ _ _ _ _ _ _ _ _ _ _ _ _ _ _ _ _ _ _ _ _ _ _ _ _ _ _ _ _ _ _ _ _ _ _ _ _ _ _ _ _ _ _ _ _ _ _ _ _ _ _ _ _ v6 rb 200 (some ⟨hb,0,none⟩) none 3 3 0 0 AS AH ap ao [[80,85,84],[88]] [[97],[98]] false true 5 hrp6 HO (hid (fun Y hY=>HRd.out _ _ none 0 0 Y (HG.out.kept (HB6.out.trans (hY.mono (by have:=HS6.out;omega)))) (tx_nil _) (hd_blk19 (kept_at19 hY HHd6.out) rfl (by decide)))) _ ?hk2)
      case hk2=>
       intro u47 u48 u49 u46 u50 u51 b2 cM2 cN2 aM2 aN2 v7 hgr hoM hoN hbb hne hbv;have HQ7:=hid hbv;have HM:=hid hoM;have HN:=hid hoN;have HNN:=hid hne;have HGr:=hid hgr;have HB7:=hid (show Below w.heap.size w v7 from HB6.out.trans (hbv.mono (by have:=HS6.out;omega)));have h0:v7.cell? ⟨b2,0,none⟩=some (.slice aM2 2 cM2):=by rw [Lib.cell_of_heap hgr];rfl
       have HKp1:=hid (keeps w.heap.size w.heap.size (2*i) 2 (fun g=>g<WR.heap.size) (.slice aM2 2 cM2) _ v7 (HKb6.out.below hbv) ((own_kp19 hoM).lower (by have:=HS6.out;omega)) (fun g hg hlt2=>by have:=(hoM.lt g hg).1;have h7:g<WR.heap.size:=hlt2;have:=HS6.out;omega) (by decide) (by omega) (by have:=HS6.out;have:=hbv.size;omega));have HBb:=hid (show w.heap.size<b2 by have:=HS6.out;omega);clear hgr hoM hoN hbb hne hbv hrp6
       go_wp2_with fail
       refine HKp1.out.mono ?_;rintro e v8 ⟨rfl,hk8,hbt8⟩
       have hg8:=bt_kept19 hbt8 HGr.out (by have:=HBb.out;omega) (by decide)
       have h1:v8.cell? ⟨b2,1,none⟩=some (.slice aN2 2 cN2):=by rw [Lib.cell_of_heap hg8];rfl
       have hN8:=bt_own19 hbt8 HN.out (by have:=HS6.out;omega) (by decide)
       have HKp2:=hid (keeps w.heap.size w.heap.size (2*i+1) 2 _ (.slice aN2 2 cN2) _ v8 hk8 ((own_kp19 hN8).lower (by have:=HS6.out;omega)) (fun g hg hor=>by
        have:=(hN8.lt g hg).1;rcases hor with h7 | h7
        ·have h7:g<WR.heap.size:=h7;have:=HS6.out;omega
        ·exact HNN.out g h7 g hg rfl) (by decide) (by omega) (by have:=HS6.out;have:=HQ7.out.size;have:=hbt8.1.size;omega))
       have HMl:=hid (fun g (hg:(Value.slice aM2 2 cM2).ownBlock=some g)=>(HM.out.lt g hg).2);have HNl:=hid (fun g (hg:(Value.slice aN2 2 cN2).ownBlock=some g)=>(hN8.lt g hg).2);have HRp8:=hid (bt_kept19 hbt8 (kept_at19 HQ7.out HRp6.out) (by have:=HNe.out;omega) (by decide));have HHd8:=hid (bt_kept19 hbt8 (kept_at19 HQ7.out HHd6.out) (by have:=HNe.out;omega) (by decide));have HB8:=hid (HB7.out.trans hbt8.1);have HSz8:=hid (show v7.heap.size≤v8.heap.size∧v6.heap.size≤v7.heap.size from ⟨hbt8.1.size,HQ7.out.size⟩);clear h0 hg8 hN8 hk8 hbt8
       go_wp2_with fail
       refine HKp2.out.mono ?_;rintro e v9 ⟨rfl,hk9,hbt9⟩
       have HF:=hid (show KqI w rb hb (i+1) v9 from
        ⟨hk9.more (by omega) (fun g hg=>by
          have hs:=hbt9.1.size;have h8:=HSz8.out;have h6:=HS6.out;rcases hg with (h7 | h7) | h7
          ·have h7:g<WR.heap.size:=h7;show g<v9.heap.size;omega
          ·have:=HMl.out g h7;show g<v9.heap.size;omega
          ·have:=HNl.out g h7;show g<v9.heap.size;omega),
         by have:=HS6.out;have:=HSz8.out;have:=hbt9.1.size;omega,HB8.out.trans hbt9.1,bt_kept19 hbt9 HRp8.out (by have:=HNe.out;omega) (by decide),bt_kept19 hbt9 HHd8.out (by have:=HNe.out;omega) (by decide)⟩)
       clear h1 hk9 hbt9 HKp1 HKp2
       go_wp2_with fail
       go_roundw
       case rel=>
        first
         | exact ⟨i+1,by omega,by go_num,HF.out⟩
         | ((repeat apply Exists.intro);refine ⟨?_,rfl⟩;exact ⟨i+1,by omega,by go_num,HF.out⟩)
         | ((repeat apply Exists.intro);exact ⟨⟨i+1,by omega,by go_num,HF.out⟩,rfl⟩)
       case measure=>simp [intOf];omega
  ·obtain rfl:i=2:=by omega
   clear hi hlt;obtain ⟨h,A',Y,xs,ys,hl,_,hbk⟩:=HR.out.1
   have HAP:=hid (aparts _ _ h A' Y xs ys wr hbk (by omega) (by have:=HR.out.2.1;omega));have HBr:=hid HR.out.2.2.1;clear hbk HR
   go_wp2_with fail
   refine HAP.out.mono ?_;rintro e w5 ⟨rfl,hb5⟩
   have HB5:=hid (HBr.out.trans hb5.1);have HKN:=hid (known19_any w5 (HG.out.kept HB5.out));clear hb5 HAP
   go_wp2_with fail
   refine HKN.out.mono ?_;rintro e w7 ⟨rfl,hb7⟩
   have HB7:=hid (below2 HB5.out hb7);clear hb7 HKN
   go_wp2_with fail
   go_ret
   exact ⟨rfl,HB7.out⟩

end Go.Proofs.YtolioccofbhliaaGreatDoor
