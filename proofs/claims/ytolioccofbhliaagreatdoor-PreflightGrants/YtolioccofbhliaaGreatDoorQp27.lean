/-
  Walks and plain facts that this claim leans on, put together out of 2 texts: Ejr, Ehw.
-/
import Derived.Test.YtolioccofbhliaaGreatDoorProg
import Derived.Test.YtolioccofbhliaaGreatDoorQp1
import Derived.Test.YtolioccofbhliaaGreatDoorQp2
import Derived.Test.YtolioccofbhliaaGreatDoorQp3
import Derived.Test.YtolioccofbhliaaGreatDoorQp4
import Derived.Test.YtolioccofbhliaaGreatDoorQp8
import Derived.Test.YtolioccofbhliaaGreatDoorQp11
import Derived.Test.YtolioccofbhliaaGreatDoorQp13
import Derived.Test.YtolioccofbhliaaGreatDoorQp14
import Derived.Test.YtolioccofbhliaaGreatDoorQp15
import Derived.Test.YtolioccofbhliaaGreatDoorQp16
import Derived.Test.YtolioccofbhliaaGreatDoorQp17
import Derived.Test.YtolioccofbhliaaGreatDoorQp18
import Derived.Test.YtolioccofbhliaaGreatDoorQp19
import Derived.Test.YtolioccofbhliaaGreatDoorQp20
import Derived.Test.YtolioccofbhliaaGreatDoorQp21
import Derived.Test.YtolioccofbhliaaGreatDoorQp23
import Derived.Test.YtolioccofbhliaaGreatDoorQp25
import Derived.Test.YtolioccofbhliaaGreatDoorQp26
import Derived.BigRegion
import Derived.Deep.RegionHeld
import Derived.Deep.RegionHeldLaw
import Derived.Lib.IndexAny
import Derived.WalkKit
import Derived.Lib.UnsafeStr
import Derived.Lib.BufferRead
import Derived.Lib.RuneBytes
import Derived.Laws.RangeAny
import Derived.Deep.LoopGhost
import Derived.Maps.OwnSet
import Derived.Maps.OwnOps
import Derived.Maps.AppendAt
import Derived.StringKeys
import Derived.BigQuiet
import Derived.Deep.QuietTactic
import Derived.LoopN
import Derived.RegionTactic
import Derived.Deep.RegionLaw
import Derived.Deep.RegionWith
import Derived.WalkSpells
import Derived.WalkLawsBesides
import Derived.Lib.FieldsP
import Derived.Lib.DecodeN
import Derived.Lib.IndexMore
import Derived.Lib.Join
import Derived.Lib.SmallJoins
import Derived.Laws.CopyOwn
import Derived.Laws.ResultCell
import Derived.Deep.MidRow
import Derived.Laws.OwnMore
import Derived.Below
import Derived.WalkSmall
import Derived.Lib.LaidTab
import Derived.Lib.AppendIntMem
import Derived.Laws.AppendOwn
import Derived.Laws.Runes
import Derived.Lib.OthersKept
import Derived.Lib.FrozenHead2
import Derived.Lib.Builder
import Derived.Lib.AppendStr
import Derived.Lib.Replace
import Derived.Shelf.GgClosure.GivesRunes
import Derived.Laws.BitsAll
import Derived.Laws.Shifts
import Derived.Deep.DeepAppendRoom
import Derived.Laws.IdiomStrings
import Derived.Laws.BytesString
import Derived.Laws.CopyRow
import Derived.Sort.OwnSorted
import Derived.Lib.SlicesCompact
import Derived.Shelf.Slices.In.SortNone
import Derived.Shelf.Slices.CompactS
import Derived.Lib.SliceRun
import Derived.Sort.KeysCollected
import Derived.Lib.Case
import Derived.Deep.Cut
import Derived.Lib.LastIndexByte
import Derived.Lib.Strings
import Derived.Laws.BitsAllLaws
import Derived.Lib.Bytealg
import Derived.Lib.BufferMore
import Derived.OwnWalk
import Derived.Shelf.Strings.Builder1
import Derived.Shelf.Strings.Builder2
import Derived.Shelf.Strings.OnBuilder
import Derived.Shelf.Strings.Trim
import Derived.Shelf.Small.Utf8
import Derived.Shelf.Small.Bits
import Derived.Shelf.Small.Strs
import Derived.Shelf.Small.Wraps
import Derived.Shelf.Strings.BuilderF
import Derived.Shelf.Strings.BuilderK
import Derived.Shelf.Strings.Builder2Cap
import Derived.Shelf.Strconv.Itoa0
import Derived.Shelf.Strconv.Itoa1
import Derived.Shelf.LaysM
import Derived.Shelf.Strconv.Itoa2
import Derived.Shelf.Strconv.Itoa3
import Derived.Shelf.Strings.Search1
import Derived.Shelf.Strings.Search2
import Derived.Shelf.Strings.Cut
import Derived.Shelf.Strings.Shaped
import Derived.Shelf.Sort.Plain
import Derived.Shelf.Strings.Prefix
import Derived.Shelf.Strings.Runes
import Derived.Shelf.Strings.IndexAny
import Derived.Shelf.Strings.AsciiSet
import Derived.Shelf.Strings.IndexAnyAll
import Derived.Shelf.Unicode.DecodeSlow
import Derived.Shelf.Unicode.DecodeAny
import Derived.Shelf.Unicode.DecodeLast
import Derived.Ground.SlgnProg
import Derived.Shelf.SlicesE.Compact
import Derived.Ground.SlgfProg
import Derived.Shelf.SlicesE.IndexFunc
import Derived.Shelf.SlicesE.DeleteFunc
import Derived.Laws.AppendOwnNone
import Derived.Scope
import Derived.ScopeJumps
import Derived.WalkMore
import Derived.Lib.TrimByte
import Derived.Lib.ItoaNum
import Derived.Deep.WholeRow
import Derived.Lib.SlTrimSet
import Derived.Shelf.Strings.SlTrimAscii
import Derived.Deep.CutRange
import Derived.Laws.Rows
import Derived.Laws.MakeOwn
import Derived.Shelf.Spec.SearchS
import Derived.Sort.Walk0
set_option linter.unusedSimpArgs false
set_option linter.unusedVariables false

namespace Go.Proofs.YtolioccofbhliaaGreatDoor
open Go.RowKit

theorem one_read19 (s:List UInt8):(adrOf (readV s none)).scheme=sBlob→(adrOf (readV s none)).opq=true → ∃ x,(adrOf (readV s none)).path=[x]:=by
 cases hr:readV s none with
 | ok v=>
   intro _ h;exact read_one hr h
 | error e=>intro h;exact absurd (show Adr.zero.scheme=sBlob from h) (by decide)

set_option maxHeartbeats 8000000 in
set_option maxRecDepth 100000 in
theorem of19_any (S:ByteArray) (w:World) (hs:S.size≤9223372036854775807):
 Calls Tryz.prog 29 #[.string S] w fun e w'=>e = .returned (orgVal (ofT S.data.toList))∧Below w.heap.size w w':=by
 have HU:=hid (fun w=>url_k S w hs);have ht:TrOk (adrOf (urlV S.data.toList)):=tr_read _;have HOf:=hid (fun (pv:Value) (X:World) (hp:PathAt X pv (adrOf (urlV S.data.toList)).path)=>rof4_any (adrOf (urlV S.data.toList)) pv X hp ht (one_read19 _));unfold ofT;generalize urlV S.data.toList=ru at HU HOf ⊢;unfold UPost at HU;unfold OfPost at HOf;generalize adrOf ru=A at HU HOf ⊢;obtain ⟨O,hO⟩: ∃ O,orgV A=O:=⟨_,rfl⟩
 rw [hO] at HOf ⊢;obtain ⟨sa,ah,ap,ao⟩:=O
 obtain ⟨AS,rfl⟩: ∃ X:ByteArray,sa=X.data.toList:=⟨⟨sa.toArray⟩,rfl⟩
 obtain ⟨AH,rfl⟩: ∃ X:ByteArray,ah=X.data.toList:=⟨⟨ah.toArray⟩,rfl⟩
 have hval:orgVal ⟨AS.data.toList,AH.data.toList,ap,ao⟩ = .agg #[.string AS,.string AH,.int .i64 ap,.bool ao]:=rfl
 have HVal:=hid hval;rw [hval] at HOf;have h0:OrgIn (w.alloc (.cells (orgCells Org.nil).toArray 56)) w.heap.size Org.nil:=heap_alloc_new w _;have hb0:Below w.heap.size w (w.alloc (.cells (orgCells Org.nil).toArray 56)):=(Below.refl _ w).alloc (Nat.le_refl _) _;have H0:=hid h0;have HB0:=hid hb0;clear ht hO h0 hb0 hval
 go_enter Tryz.func29,Tryz.ntmps29
 go_wp2_with fail
 refine (HU.out _).mono ?_;rintro e w1 ⟨pv,rfl,hown,hb1⟩
 obtain ⟨da,dn,dc,rfl⟩:=own_sl hown
 obtain ⟨d0,d1,d2,d3,d4,d5,d6,d8,d9,d10,d11,hxd⟩:=adr_cells A da dn dc
 have hvd:adrVal A (.slice da dn dc) = .agg #[.string d0,.string d1,.string d2,.string d3,.bool d4,.int .i64 d5,.bool d6,.slice da dn dc,.string d8,.string d9,.bool d10,.bool d11]:=by unfold adrVal;rw [hxd]
 rw [hvd];obtain ⟨W2,hW2⟩: ∃ X,(w1.alloc (.cells #[.string d0,.string d1,.string d2,.string d3,.bool d4,.int .i64 d5,.bool d6,.slice da dn dc,.string d8,.string d9,.bool d10,.bool d11] 130))=X:=⟨_,rfl⟩
 have hbW2:Below w1.heap.size w1 W2:=by rw [← hW2];exact (Below.refl _ w1).alloc (Nat.le_refl _) _
 have hsW2:W2.heap.size=w1.heap.size+1:=by rw [← hW2];simp
 have hAW2:AdrIn W2 w1.heap.size A (.slice da dn dc):=by
  unfold AdrIn;rw [hxd,← hW2]
  exact heap_alloc_new w1 _
 have hb12:=below2 hb1 hbW2;have HB2:=hid (below2 HB0.out hb12);have H2:=hid (H0.out.kept hb12);have HOc:=hid (HOf.out _ W2 ((own_path hown).kept hbW2));rw [hvd] at HOc;obtain ⟨y0,y1,y2,y3,y4,y5,y6,y7,y8,y9,y10,y11⟩:=adr_twelve hxd hAW2
 clear hown hb1 hbW2 hAW2 hxd hvd hsW2 hb12 HU HOf
 go_wp2_with fail
 refine HOc.out.mono ?_;rintro e w3 ⟨rfl,hb3⟩
 have HB3:=hid (below2 HB2.out hb3);have H3:=hid (H2.out.kept hb3);have ry0:=H3.out.cell 0 _ rfl;have rz0:=H3.out.frozen 0;have ry1:=H3.out.cell 1 _ rfl;have rz1:=H3.out.frozen 1;have ry2:=H3.out.cell 2 _ rfl;have rz2:=H3.out.frozen 2;have ry3:=H3.out.cell 3 _ rfl;have rz3:=H3.out.frozen 3;clear hb3 y0 y1 y2 y3 y4 y5 y6 y7 y8 y9 y10 y11
 go_wp2_with fail
 have hrg:=range_row (H3.out.store (p:=⟨AS.data.toList,AH.data.toList,ap,ao⟩));have hbl:=below_setCells (B:=w.heap.size) (b:=w.heap.size) (Nat.le_refl _) (orgCells ⟨AS.data.toList,AH.data.toList,ap,ao⟩) 0 _ HB3.out;refine bodyPost_ret (results_o1 rfl _ _ w.heap.size ⟨AS.data.toList,AH.data.toList,ap,ao⟩ rfl ?_) rfl ⟨?_,?_⟩
 ·exact hrg
 ·rfl
 ·exact hbl

theorem of19_at (S:ByteArray) (O:Org) (h:ofT S.data.toList=O) (hs:S.size≤9223372036854775807): ∀ w,Calls Tryz.prog 29 #[.string S] w fun e w'=>e = .returned (orgVal O)∧Below w.heap.size w w':=fun w=>by
 have:=of19_any S w hs;rw [h] at this;exact this

theorem hd_lit19 (w:World) (L:List Hd) (n:Nat) (hn:L.length=n) (h:n≤1000):HdAt (w.alloc (.cells (cellsH L).toArray 45)) (.slice (some ⟨w.heap.size,0,none⟩) n n) L:=by
 subst hn;have h1:=World.ownsRow_lit (base:=w.heap.size) (e:=45) (size:=2) w (cellsH L).toArray L.length (Nat.le_refl _) (by unfold maxLen;omega) (by rw [List.size_toArray,cellsH_len])
 rw [List.toList_toArray] at h1;exact own_hd h1

theorem txl_own19 (w:World) (L:List (List UInt8)) (n:Nat) (hn:L.length=n) (h:n≤1000):(w.alloc (.cells (cellsT L).toArray 9)).ownsRow w.heap.size 9 1 (.slice (some ⟨w.heap.size,0,none⟩) n n) n (cellsT L):=by
 subst hn;have h1:=World.ownsRow_lit (base:=w.heap.size) (e:=9) (size:=1) w (cellsT L).toArray L.length (Nat.le_refl _) (by unfold maxLen;omega) (by rw [List.size_toArray,cellsT_len,Nat.mul_one])
 rw [List.toList_toArray] at h1;exact h1

theorem txl_lit19 (w:World) (L:List (List UInt8)) (n:Nat) (hn:L.length=n) (h:n≤1000):TxAt (w.alloc (.cells (cellsT L).toArray 9)) (.slice (some ⟨w.heap.size,0,none⟩) n n) L:=by
 subst hn;exact own_txt' (txl_own19 w L _ rfl h)

theorem txl_T19 (w:World) (L:List (List UInt8)) (n:Nat) (hn:L.length=n) (h:n≤1000):TxT (w.alloc (.cells (cellsT L).toArray 9)) (.slice (some ⟨w.heap.size,0,none⟩) n n) L:=by
 subst hn;exact own_txT (txl_own19 w L _ rfl h)

theorem h19_any (n v:ByteArray) (w:World):Calls Tryz.prog 30 #[.string n,.string v] w fun e w'=>e = .returned (.agg #[.string n,.string v])∧Below w.heap.size w w':=by
 have HB:=hid ((Below.refl w.heap.size w).alloc (Nat.le_refl _) (.cells #[.string n,.string v] 45));have HR:=hid (range_row_Cb (cs:=[.string n,.string v]) (heap_alloc_new w (.cells #[.string n,.string v] 45)))
 go_enter Tryz.func30,Tryz.ntmps30
 go_wp2_with fail
 exact bodyPost_ret (results_h1 rfl _ _ w.heap.size n v rfl HR.out) rfl ⟨rfl,HB.out⟩

theorem read19_at (O:Org) (c:Bool) (m:ByteArray) (Q:List (List UInt8)) (st:Int) (L:List Hd) (G:Grn) (b:Bool) (hG:rdG (textO O) c m.data.toList Q st L=G) (hb:rdB (textO O) c m.data.toList Q st L=b) (ho:OrgOk O) (hm:m.size≤1000000) (hq:(Q.all fun x=>decide (x.length≤10000))=true) (hql:Q.length≤1000) (hz:(L.all fun x=>decide (x.name.length≤800)&&decide (x.value.length≤800))=true) (hl:L.length≤1000):
 ∀ (vQ vH:Value) (ba:Option Addr) (bn bc:Nat) (w:World),Gd w→TxAt w vQ Q→HdAt w vH L→Calls Tryz.prog 31 #[orgVal O,.bool c,.string m,vQ,.agg #[.int .i64 st,vH,.slice ba bn bc]] w (RdPost G b w):=fun vQ vH ba bn bc w hg hQ h=>by
 have hs:=szd_all hz;have hbk:=hs.bulk;have hmm:(800+2)*L.length≤802*1000:=Nat.mul_le_mul_left _ hl;have:=read19_any O c m vQ Q st vH L ba bn bc w hg ho (by omega) hQ (by omega) (fun x hx=>by have:=List.all_eq_true.1 hq x hx;simp only [decide_eq_true_eq] at this;omega) h (hs.mono (by decide)) (by omega) (by omega)
 rw [hG,hb] at this
 exact this

theorem sizeRp19:(Tryz.prog.info? 30).map (·.size)=some 3:=by kernel_rfl

noncomputable def rg_k19 : Code := (Tryz.f38.body.bind (regOf 2)).getD .skip

set_option maxHeartbeats 40000000 in
set_option maxRecDepth 100000 in
theorem rr_k19 (t0 t2 t3 t4 t5 t6 t7 t8 t9 t10 t11 t12 t13 t14 t15 t16 t17 t18 t19 t20 t21 t22 t23 t24 t25 t26 t27 t28 t29 t30 t31 t32 t33 t34 t35 t36 t37 t38:Value) (wr:World) (rb:Nat) (st:Int) (va ba:Option Addr) (vn vc bn bc:Nat) (AS AH:ByteArray) (ap:Int) (ao:Bool) (M N:List (List UInt8)) (al bok:Bool) (ag:Int)
 (hr:wr.heap[rb]? = some (.cells #[.int .i64 st,.slice va vn vc,.slice ba bn bc] 30 (0,0)))
 (HOf:Hid (∀ Y,Calls Tryz.prog 29 #[.string ⟨#[104,116,116,112,115,58,47,47,97]⟩] Y fun e w'=>e = .returned (.agg #[.string AS,.string AH,.int .i64 ap,.bool ao])∧Below Y.heap.size Y w'))
 (HRd:Hid (∀ Y,Below wr.heap.size wr Y→Calls Tryz.prog 31 #[.agg #[.string AS,.string AH,.int .i64 ap,.bool ao],.bool false,.string ⟨#[80,85,84]⟩,.slice none 0 0,.agg #[.int .i64 st,.slice va vn vc,.slice ba bn bc]] Y (RdPost ⟨M,N,al,ag⟩ bok Y)))
 (K:Act→World→Prop)
 (HK:Hid (∀ (u10 u11 u12 u9 u13 u14:Value) (b cM cN:Nat) (aM aN:Option Addr) (w2:World),w2.heap[b]? = some (.cells #[.slice aM M.length cM,.slice aN N.length cN,.bool al,.int .i64 ag] 60 (0,0))→w2.ownsRow wr.heap.size 9 1 (.slice aM M.length cM) M.length (cellsT M)→w2.ownsRow wr.heap.size 9 1 (.slice aN N.length cN) N.length (cellsT N)→wr.heap.size≤b→(∀ g,(Value.slice aM M.length cM).ownBlock=some g → ∀ g',(Value.slice aN N.length cN).ownBlock=some g'→g≠g')→Below wr.heap.size wr w2→K ⟨#[t0,.pointer (some ⟨rb,0,none⟩),.pointer (some ⟨b,0,none⟩),.bool bok,t4,t5,t6,t7,t8,u9,u10,u11,u12,u13,u14,t15,t16,t17,t18,t19,t20,t21,t22,t23,t24,t25,t26,t27,t28,t29,t30,t31,t32,t33,t34,t35,t36,t37,t38],[]⟩ w2)):
 Code.wp Tryz.prog rg_k19 (Exit.then K fun _ _ _=>False) ⟨#[t0,.pointer (some ⟨rb,0,none⟩),t2,t3,t4,t5,t6,t7,t8,t9,t10,t11,t12,t13,t14,t15,t16,t17,t18,t19,t20,t21,t22,t23,t24,t25,t26,t27,t28,t29,t30,t31,t32,t33,t34,t35,t36,t37,t38],[]⟩ wr:=by
 have HRg:=hid (fun (wx:World) (hx:Below wr.heap.size wr wx)=>range_row_Cb (cs:=[.int .i64 st,.slice va vn vc,.slice ba bn bc]) ((hx.block rb (Array.getElem?_eq_some_iff.1 hr).1).trans hr));clear hr;unfold RdPost at HRd;dsimp only at HRd;have HQ0:=hid (show Below wr.heap.size wr wr.drew from (Below.refl _ wr).drew)
 conv=>arg 2;whnf
 refine wp_region_held_drew (S:=(fun wx=>Below wr.heap.size wr wx)) (by kernel_rfl) HQ0.out (fun hHeld=> ?_)
 generalize wr.drew=W0 at HQ0 hHeld ⊢;refine wpAnyH_to (fuel':=9) (listed':= #[false,false,false,false,false,false,false,false,false]) rfl rfl ?_;refine wpAnyH_take (i:=1) (oi:=⟨some 11,_,_,_,_,_⟩) rfl (by kernel_rfl) (by kernel_rfl) (by kernel_rfl) (fun _ _ _ h=>h) (yieldsIf_load_mid (by kernel_rfl) 30 (.tmp 1) rfl (rb) 0 rfl [.int .i64 st,.slice va vn vc,.slice ba bn bc] _ HRg.out Tryz.underlying30 rfl sizeRp19) (by assumption) ?_
 (try simp only [Act.put,List.setIfInBounds_toArray,List.set_cons_zero,List.set_cons_succ])
 refine wpAnyH_ready (rs:=[0,6]) (by kernel_rfl) (by simp) ?_
 refine AllReadyH.cons rfl (fun K9 hK=> ?_) (AllReadyH.cons rfl (fun K9 hK=> ?_) AllReadyH.nil)
 ·as_aux_lemma=>
   rw [if_pos (by kernel_rfl)]
   go_simp
   go_wp2_with (go_at_call 29;refine (HOf.out _).mono ?_;rintro e w1 ⟨rfl,hb1⟩)
   have HQ1:=hid (below2 HQ0.out hb1);clear hb1;refine hK.out _ _ HQ1.out (fun hHeld2=> ?_);clear hK K9 hHeld
   rename _=>hHeld
   refine wpAnyH_ready (rs:=[2,6]) (by kernel_rfl) (by simp) ?_
   refine AllReadyH.cons rfl (fun K9 hK=> ?_) (AllReadyH.cons rfl (fun K9 hK=> ?_) AllReadyH.nil)
   ·as_aux_lemma=>
     rw [if_pos (by kernel_rfl)]
     go_simp
     go_wp2_with (go_at_call 31;refine (HRd.out _ HQ1.out).mono ?_;rintro e w2 ⟨aM,cM,aN,cN,rfl,hoM2,hoN2,hne2,hb2⟩)
     have HQ2:=hid (below2 HQ1.out hb2);have HM2:=hid hoM2;have HN2:=hid hoN2;have HNe:=hid hne2;have HBs2:=hid (show wr.heap.size≤w1.heap.size from HQ1.out.size);clear hoM2 hoN2 hne2 hb2;refine hK.out _ _ HQ2.out (fun hHeld2=> ?_);clear hK K9 hHeld
     rename _=>hHeld
     refine' wpAnyH_take (i:=3) (oi:=⟨some 9,_,_,_,_,_⟩) (v:=_) rfl (by kernel_rfl) (by kernel_rfl) (by kernel_rfl) (fun _ _ _ h=>h) (Or.inl ⟨by kernel_rfl,?hykn1⟩) (by assumption) ?restkn1
     case hykn1=>(intro wx hSw;(try dsimp only at hSw);go_simp;first | done | with_reducible rfl)
     (try simp only [Act.put,List.setIfInBounds_toArray,List.set_cons_zero,List.set_cons_succ])
     refine' wpAnyH_take (i:=4) (oi:=⟨some 13,_,_,_,_,_⟩) (v:=_) rfl (by kernel_rfl) (by kernel_rfl) (by kernel_rfl) (fun _ _ _ h=>h) (Or.inl ⟨by kernel_rfl,?hykn2⟩) (by assumption) ?restkn2
     case hykn2=>(intro wx hSw;(try dsimp only at hSw);go_simp;first | done | with_reducible rfl)
     (try simp only [Act.put,List.setIfInBounds_toArray,List.set_cons_zero,List.set_cons_succ])
     refine' wpAnyH_take (i:=5) (oi:=⟨some 14,_,_,_,_,_⟩) (v:=_) rfl (by kernel_rfl) (by kernel_rfl) (by kernel_rfl) (fun _ _ _ h=>h) (Or.inl ⟨by kernel_rfl,?hykn3⟩) (by assumption) ?restkn3
     case hykn3=>(intro wx hSw;(try dsimp only at hSw);go_simp;first | done | with_reducible rfl)
     (try simp only [Act.put,List.setIfInBounds_toArray,List.set_cons_zero,List.set_cons_succ])
     refine wpAnyH_ready (rs:=[6]) (by kernel_rfl) (by simp) ?_
     refine AllReadyH.cons rfl (fun K9 hK=> ?_) AllReadyH.nil;rw [if_pos (by kernel_rfl)]
     go_simp
     have hb3:Below w2.heap.size w2 (w2.alloc (.cells #[.slice none 0 0,.slice none 0 0,.bool false,.int .i64 0] 60)):=(Below.refl _ w2).alloc (Nat.le_refl _) _;have hx3:(w2.alloc (.cells #[.slice none 0 0,.slice none 0 0,.bool false,.int .i64 0] 60)).heap[w2.heap.size]? = some (.cells #[.slice none 0 0,.slice none 0 0,.bool false,.int .i64 0] 60 (0,0)):=heap_alloc_new w2 _;have HBb3:=hid (show wr.heap.size≤w2.heap.size from HQ2.out.size);generalize (w2.alloc (.cells #[.slice none 0 0,.slice none 0 0,.bool false,.int .i64 0] 60))=w3 at hb3 hx3 ⊢;have HQ3:=hid (below2 HQ2.out hb3)
     have HG3:=hid hx3;have HM3:=hid (own_same HM2.out hb3);have HN3:=hid (own_same HN2.out hb3);clear hb3 hx3;refine hK.out _ _ HQ3.out (fun hHeld2=> ?_);clear hK K9 hHeld
     rename _=>hHeld
     have d0:w3.cell? ⟨w2.heap.size,0,none⟩=some (.slice none 0 0):=by rw [Lib.cell_of_heap HG3.out];rfl
     have f0:w3.frozen? ⟨w2.heap.size,0,none⟩=false:=Lib.frozen_of_heap HG3.out 0
     have d1:w3.cell? ⟨w2.heap.size,1,none⟩=some (.slice none 0 0):=by rw [Lib.cell_of_heap HG3.out];rfl
     have f1:w3.frozen? ⟨w2.heap.size,1,none⟩=false:=Lib.frozen_of_heap HG3.out 1
     have d2:w3.cell? ⟨w2.heap.size,2,none⟩=some (.bool false):=by rw [Lib.cell_of_heap HG3.out];rfl
     have f2:w3.frozen? ⟨w2.heap.size,2,none⟩=false:=Lib.frozen_of_heap HG3.out 2
     have d3:w3.cell? ⟨w2.heap.size,3,none⟩=some (.int .i64 0):=by rw [Lib.cell_of_heap HG3.out];rfl
     have f3:w3.frozen? ⟨w2.heap.size,3,none⟩=false:=Lib.frozen_of_heap HG3.out 3
     have hbb:=HBb3.out;refine wpAnyH_ready (rs:=[7]) (by kernel_rfl) (by simp) ?_
     refine AllReadyH.cons rfl (fun K9 hK=> ?_) AllReadyH.nil;rw [if_pos (by kernel_rfl)]
     go_simp
     go_wp2_with fail
     have HQe:=hid (below4_19 (g:=w2.heap.size) HQ3.out hbb (.slice aM M.length cM) (.slice aN N.length cN) (.bool al) (.int .i64 ag));refine hK.out _ _ HQe.out (fun hHeld2=> ?_);clear hK K9 hHeld
     rename _=>hHeld
     refine' wpAnyH_take (i:=8) (oi:=⟨some 3,_,_,_,_,_⟩) (v:=_) rfl (by kernel_rfl) (by kernel_rfl) (by kernel_rfl) (fun _ _ _ h=>h) (Or.inl ⟨by kernel_rfl,?hykn4⟩) (by assumption) ?restkn4
     case hykn4=>(intro wx hSw;(try dsimp only at hSw);go_simp;first | done | with_reducible rfl)
     (try simp only [Act.put,List.setIfInBounds_toArray,List.set_cons_zero,List.set_cons_succ])
     refine wpAnyH_done (by kernel_rfl) ?_ _
     refine HK.out _ _ _ _ _ _ _ _ _ _ _ _ (set4_19 HG3.out) ?_ ?_ hbb HNe.out HQe.out
     ·exact own_base19 (ownsRow_same HM3.out (fun g hg=>far4_19 (fun e=>kind_ne19 HM3.out hg HG3.out (by decide) e.symm) _ _ _ _)) HBs2.out
     ·exact own_base19 (ownsRow_same HN3.out (fun g hg=>far4_19 (fun e=>kind_ne19 HN3.out hg HG3.out (by decide) e.symm) _ _ _ _)) HBs2.out
   ·as_aux_lemma=>
     rw [if_pos (by kernel_rfl)]
     go_simp
     have hb4:Below w1.heap.size w1 (w1.alloc (.cells #[.slice none 0 0,.slice none 0 0,.bool false,.int .i64 0] 60)):=(Below.refl _ w1).alloc (Nat.le_refl _) _;have hx4:(w1.alloc (.cells #[.slice none 0 0,.slice none 0 0,.bool false,.int .i64 0] 60)).heap[w1.heap.size]? = some (.cells #[.slice none 0 0,.slice none 0 0,.bool false,.int .i64 0] 60 (0,0)):=heap_alloc_new w1 _;have HBb4:=hid (show wr.heap.size≤w1.heap.size from HQ1.out.size);generalize (w1.alloc (.cells #[.slice none 0 0,.slice none 0 0,.bool false,.int .i64 0] 60))=w4 at hb4 hx4 ⊢;have HQ4:=hid (below2 HQ1.out hb4)
     have HG4:=hid hx4;clear hb4 hx4;refine hK.out _ _ HQ4.out (fun hHeld2=> ?_);clear hK K9 hHeld
     rename _=>hHeld
     refine wpAnyH_ready (rs:=[2]) (by kernel_rfl) (by simp) ?_
     refine AllReadyH.cons rfl (fun K9 hK=> ?_) AllReadyH.nil;rw [if_pos (by kernel_rfl)]
     go_simp
     go_wp2_with (go_at_call 31;refine (HRd.out _ HQ4.out).mono ?_;rintro e w5 ⟨aM,cM,aN,cN,rfl,hoM5,hoN5,hne5,hb5⟩)
     have HQ5:=hid (below2 HQ4.out hb5);have HM5:=hid hoM5;have HN5:=hid hoN5;have HNe:=hid hne5;have HBs5:=hid (show wr.heap.size≤w4.heap.size from HQ4.out.size);have HG5:=hid ((hb5.block w1.heap.size (Array.getElem?_eq_some_iff.1 HG4.out).1).trans HG4.out);clear hoM5 hoN5 hne5 hb5;refine hK.out _ _ HQ5.out (fun hHeld2=> ?_);clear hK K9 hHeld
     rename _=>hHeld
     refine' wpAnyH_take (i:=3) (oi:=⟨some 9,_,_,_,_,_⟩) (v:=_) rfl (by kernel_rfl) (by kernel_rfl) (by kernel_rfl) (fun _ _ _ h=>h) (Or.inl ⟨by kernel_rfl,?hykn5⟩) (by assumption) ?restkn5
     case hykn5=>(intro wx hSw;(try dsimp only at hSw);go_simp;first | done | with_reducible rfl)
     (try simp only [Act.put,List.setIfInBounds_toArray,List.set_cons_zero,List.set_cons_succ])
     refine' wpAnyH_take (i:=4) (oi:=⟨some 13,_,_,_,_,_⟩) (v:=_) rfl (by kernel_rfl) (by kernel_rfl) (by kernel_rfl) (fun _ _ _ h=>h) (Or.inl ⟨by kernel_rfl,?hykn6⟩) (by assumption) ?restkn6
     case hykn6=>(intro wx hSw;(try dsimp only at hSw);go_simp;first | done | with_reducible rfl)
     (try simp only [Act.put,List.setIfInBounds_toArray,List.set_cons_zero,List.set_cons_succ])
     refine' wpAnyH_take (i:=5) (oi:=⟨some 14,_,_,_,_,_⟩) (v:=_) rfl (by kernel_rfl) (by kernel_rfl) (by kernel_rfl) (fun _ _ _ h=>h) (Or.inl ⟨by kernel_rfl,?hykn7⟩) (by assumption) ?restkn7
     case hykn7=>(intro wx hSw;(try dsimp only at hSw);go_simp;first | done | with_reducible rfl)
     (try simp only [Act.put,List.setIfInBounds_toArray,List.set_cons_zero,List.set_cons_succ])
     have d0:w5.cell? ⟨w1.heap.size,0,none⟩=some (.slice none 0 0):=by rw [Lib.cell_of_heap HG5.out];rfl
     have f0:w5.frozen? ⟨w1.heap.size,0,none⟩=false:=Lib.frozen_of_heap HG5.out 0
     have d1:w5.cell? ⟨w1.heap.size,1,none⟩=some (.slice none 0 0):=by rw [Lib.cell_of_heap HG5.out];rfl
     have f1:w5.frozen? ⟨w1.heap.size,1,none⟩=false:=Lib.frozen_of_heap HG5.out 1
     have d2:w5.cell? ⟨w1.heap.size,2,none⟩=some (.bool false):=by rw [Lib.cell_of_heap HG5.out];rfl
     have f2:w5.frozen? ⟨w1.heap.size,2,none⟩=false:=Lib.frozen_of_heap HG5.out 2
     have d3:w5.cell? ⟨w1.heap.size,3,none⟩=some (.int .i64 0):=by rw [Lib.cell_of_heap HG5.out];rfl
     have f3:w5.frozen? ⟨w1.heap.size,3,none⟩=false:=Lib.frozen_of_heap HG5.out 3
     have hbb:=HBb4.out;refine wpAnyH_ready (rs:=[7]) (by kernel_rfl) (by simp) ?_
     refine AllReadyH.cons rfl (fun K9 hK=> ?_) AllReadyH.nil;rw [if_pos (by kernel_rfl)]
     go_simp
     go_wp2_with fail
     have HQe:=hid (below4_19 (g:=w1.heap.size) HQ5.out hbb (.slice aM M.length cM) (.slice aN N.length cN) (.bool al) (.int .i64 ag));refine hK.out _ _ HQe.out (fun hHeld2=> ?_);clear hK K9 hHeld
     rename _=>hHeld
     refine' wpAnyH_take (i:=8) (oi:=⟨some 3,_,_,_,_,_⟩) (v:=_) rfl (by kernel_rfl) (by kernel_rfl) (by kernel_rfl) (fun _ _ _ h=>h) (Or.inl ⟨by kernel_rfl,?hykn8⟩) (by assumption) ?restkn8
     case hykn8=>(intro wx hSw;(try dsimp only at hSw);go_simp;first | done | with_reducible rfl)
     (try simp only [Act.put,List.setIfInBounds_toArray,List.set_cons_zero,List.set_cons_succ])
     refine wpAnyH_done (by kernel_rfl) ?_ _
     refine HK.out _ _ _ _ _ _ _ _ _ _ _ _ (set4_19 HG5.out) ?_ ?_ hbb HNe.out HQe.out
     ·exact own_base19 (ownsRow_same HM5.out (fun g hg=>far4_19 (fun e=>kind_ne19 HM5.out hg HG5.out (by decide) e.symm) _ _ _ _)) HBs5.out
     ·exact own_base19 (ownsRow_same HN5.out (fun g hg=>far4_19 (fun e=>kind_ne19 HN5.out hg HG5.out (by decide) e.symm) _ _ _ _)) HBs5.out
 ·as_aux_lemma=>
   rw [if_pos (by kernel_rfl)]
   go_simp
   have hb6:Below W0.heap.size W0 (W0.alloc (.cells #[.slice none 0 0,.slice none 0 0,.bool false,.int .i64 0] 60)):=(Below.refl _ W0).alloc (Nat.le_refl _) _;have hx6:(W0.alloc (.cells #[.slice none 0 0,.slice none 0 0,.bool false,.int .i64 0] 60)).heap[W0.heap.size]? = some (.cells #[.slice none 0 0,.slice none 0 0,.bool false,.int .i64 0] 60 (0,0)):=heap_alloc_new W0 _;have HBb6:=hid (show wr.heap.size≤W0.heap.size from HQ0.out.size);generalize (W0.alloc (.cells #[.slice none 0 0,.slice none 0 0,.bool false,.int .i64 0] 60))=w6 at hb6 hx6 ⊢;have HQ6:=hid (below2 HQ0.out hb6)
   have HG6:=hid hx6;clear hb6 hx6;refine hK.out _ _ HQ6.out (fun hHeld2=> ?_);clear hK K9 hHeld
   rename _=>hHeld
   refine wpAnyH_ready (rs:=[0]) (by kernel_rfl) (by simp) ?_
   refine AllReadyH.cons rfl (fun K9 hK=> ?_) AllReadyH.nil;rw [if_pos (by kernel_rfl)]
   go_simp
   go_wp2_with (go_at_call 29;refine (HOf.out _).mono ?_;rintro e w7 ⟨rfl,hb7⟩)
   have HQ7:=hid (below2 HQ6.out hb7);have HG7:=hid ((hb7.block W0.heap.size (Array.getElem?_eq_some_iff.1 HG6.out).1).trans HG6.out);clear hb7;refine hK.out _ _ HQ7.out (fun hHeld2=> ?_);clear hK K9 hHeld
   rename _=>hHeld
   refine wpAnyH_ready (rs:=[2]) (by kernel_rfl) (by simp) ?_
   refine AllReadyH.cons rfl (fun K9 hK=> ?_) AllReadyH.nil;rw [if_pos (by kernel_rfl)]
   go_simp
   go_wp2_with (go_at_call 31;refine (HRd.out _ HQ7.out).mono ?_;rintro e w8 ⟨aM,cM,aN,cN,rfl,hoM8,hoN8,hne8,hb8⟩)
   have HQ8:=hid (below2 HQ7.out hb8);have HM8:=hid hoM8;have HN8:=hid hoN8;have HNe:=hid hne8;have HBs8:=hid (show wr.heap.size≤w7.heap.size from HQ7.out.size);have HG8:=hid ((hb8.block W0.heap.size (Array.getElem?_eq_some_iff.1 HG7.out).1).trans HG7.out);clear hoM8 hoN8 hne8 hb8;refine hK.out _ _ HQ8.out (fun hHeld2=> ?_);clear hK K9 hHeld
   rename _=>hHeld
   refine' wpAnyH_take (i:=3) (oi:=⟨some 9,_,_,_,_,_⟩) (v:=_) rfl (by kernel_rfl) (by kernel_rfl) (by kernel_rfl) (fun _ _ _ h=>h) (Or.inl ⟨by kernel_rfl,?hykn9⟩) (by assumption) ?restkn9
   case hykn9=>(intro wx hSw;(try dsimp only at hSw);go_simp;first | done | with_reducible rfl)
   (try simp only [Act.put,List.setIfInBounds_toArray,List.set_cons_zero,List.set_cons_succ])
   refine' wpAnyH_take (i:=4) (oi:=⟨some 13,_,_,_,_,_⟩) (v:=_) rfl (by kernel_rfl) (by kernel_rfl) (by kernel_rfl) (fun _ _ _ h=>h) (Or.inl ⟨by kernel_rfl,?hykn10⟩) (by assumption) ?restkn10
   case hykn10=>(intro wx hSw;(try dsimp only at hSw);go_simp;first | done | with_reducible rfl)
   (try simp only [Act.put,List.setIfInBounds_toArray,List.set_cons_zero,List.set_cons_succ])
   refine' wpAnyH_take (i:=5) (oi:=⟨some 14,_,_,_,_,_⟩) (v:=_) rfl (by kernel_rfl) (by kernel_rfl) (by kernel_rfl) (fun _ _ _ h=>h) (Or.inl ⟨by kernel_rfl,?hykn11⟩) (by assumption) ?restkn11
   case hykn11=>(intro wx hSw;(try dsimp only at hSw);go_simp;first | done | with_reducible rfl)
   (try simp only [Act.put,List.setIfInBounds_toArray,List.set_cons_zero,List.set_cons_succ])
   have d0:w8.cell? ⟨W0.heap.size,0,none⟩=some (.slice none 0 0):=by rw [Lib.cell_of_heap HG8.out];rfl
   have f0:w8.frozen? ⟨W0.heap.size,0,none⟩=false:=Lib.frozen_of_heap HG8.out 0
   have d1:w8.cell? ⟨W0.heap.size,1,none⟩=some (.slice none 0 0):=by rw [Lib.cell_of_heap HG8.out];rfl
   have f1:w8.frozen? ⟨W0.heap.size,1,none⟩=false:=Lib.frozen_of_heap HG8.out 1
   have d2:w8.cell? ⟨W0.heap.size,2,none⟩=some (.bool false):=by rw [Lib.cell_of_heap HG8.out];rfl
   have f2:w8.frozen? ⟨W0.heap.size,2,none⟩=false:=Lib.frozen_of_heap HG8.out 2
   have d3:w8.cell? ⟨W0.heap.size,3,none⟩=some (.int .i64 0):=by rw [Lib.cell_of_heap HG8.out];rfl
   have f3:w8.frozen? ⟨W0.heap.size,3,none⟩=false:=Lib.frozen_of_heap HG8.out 3
   have hbb:=HBb6.out;refine wpAnyH_ready (rs:=[7]) (by kernel_rfl) (by simp) ?_
   refine AllReadyH.cons rfl (fun K9 hK=> ?_) AllReadyH.nil;rw [if_pos (by kernel_rfl)]
   go_simp
   go_wp2_with fail
   have HQe:=hid (below4_19 (g:=W0.heap.size) HQ8.out hbb (.slice aM M.length cM) (.slice aN N.length cN) (.bool al) (.int .i64 ag));refine hK.out _ _ HQe.out (fun hHeld2=> ?_);clear hK K9 hHeld
   rename _=>hHeld
   refine' wpAnyH_take (i:=8) (oi:=⟨some 3,_,_,_,_,_⟩) (v:=_) rfl (by kernel_rfl) (by kernel_rfl) (by kernel_rfl) (fun _ _ _ h=>h) (Or.inl ⟨by kernel_rfl,?hykn12⟩) (by assumption) ?restkn12
   case hykn12=>(intro wx hSw;(try dsimp only at hSw);go_simp;first | done | with_reducible rfl)
   (try simp only [Act.put,List.setIfInBounds_toArray,List.set_cons_zero,List.set_cons_succ])
   refine wpAnyH_done (by kernel_rfl) ?_ _
   refine HK.out _ _ _ _ _ _ _ _ _ _ _ _ (set4_19 HG8.out) ?_ ?_ hbb HNe.out HQe.out
   ·exact own_base19 (ownsRow_same HM8.out (fun g hg=>far4_19 (fun e=>kind_ne19 HM8.out hg HG8.out (by decide) e.symm) _ _ _ _)) HBs8.out
   ·exact own_base19 (ownsRow_same HN8.out (fun g hg=>far4_19 (fun e=>kind_ne19 HN8.out hg HG8.out (by decide) e.symm) _ _ _ _)) HBs8.out

set_option maxHeartbeats 4000000 in
theorem same19_any (vM vN vM' vN':Value) (M N:List (List UInt8)) (al:Bool) (ag:Int) (w:World) (h1:TxAt w vM M) (h2:TxAt w vN N) (h3:TxAt w vM' M) (h4:TxAt w vN' N) (hl:M.length≤1000∧N.length≤1000):
 Calls Tryz.prog 35 #[.agg #[vM,vN,.bool al,.int .i64 ag],.agg #[vM',vN',.bool al,.int .i64 ag]] w fun e w'=>e = .returned (.bool true)∧Below w.heap.size w w':=by
 have HS1:=hid (fun (Y:World) (hY:Below w.heap.size w Y)=>sameT_any vM vM' M M Y (h1.kept hY) (h3.kept hY) (by omega) (by omega));have HS2:=hid (fun (Y:World) (hY:Below w.heap.size w Y)=>sameT_any vN vN' N N Y (h2.kept hY) (h4.kept hY) (by omega) (by omega));rw [show decide (M=M)=true from decide_eq_true rfl] at HS1;rw [show decide (N=N)=true from decide_eq_true rfl] at HS2;obtain ⟨ma,mc,rfl,_,_,_⟩:=h1.view
 obtain ⟨na,nc,rfl,_,_,_⟩:=h2.view
 obtain ⟨ma',mc',rfl,_,_,_⟩:=h3.view
 obtain ⟨na',nc',rfl,_,_,_⟩:=h4.view
 obtain ⟨mn,hmn⟩: ∃ k,k=M.length:=⟨_,rfl⟩
 obtain ⟨nn,hnn⟩: ∃ k,k=N.length:=⟨_,rfl⟩
 rw [← hmn] at HS1 ⊢;rw [← hnn] at HS2 ⊢;clear hmn hnn;obtain ⟨W1,hW1⟩: ∃ X,w.alloc (.cells #[.slice ma mn mc,.slice na nn nc,.bool al,.int .i64 ag] 60)=X:=⟨_,rfl⟩
 obtain ⟨W2,hW2⟩: ∃ X,W1.alloc (.cells #[.slice ma' mn mc',.slice na' nn nc',.bool al,.int .i64 ag] 68)=X:=⟨_,rfl⟩
 have hb1:Below w.heap.size w W1:=by rw [← hW1];exact (Below.refl _ w).alloc (Nat.le_refl _) _
 have hb12:Below W1.heap.size W1 W2:=by rw [← hW2];exact (Below.refl _ W1).alloc (Nat.le_refl _) _
 have x1:W1.heap[w.heap.size]? = some (.cells #[.slice ma mn mc,.slice na nn nc,.bool al,.int .i64 ag] 60 (0,0)):=by rw [← hW1];exact heap_alloc_new w _
 have x2:W2.heap[W1.heap.size]? = some (.cells #[.slice ma' mn mc',.slice na' nn nc',.bool al,.int .i64 ag] 68 (0,0)):=by rw [← hW2];exact heap_alloc_new W1 _
 have y1:=(hb12.block _ (Array.getElem?_eq_some_iff.1 x1).1).trans x1;have HX:=hid (And.intro y1 x2);have HB:=hid (below2 hb1 hb12);have k0:W2.cell? ⟨w.heap.size,0,none⟩=some (.slice ma mn mc):=by rw [Lib.cell_of_heap y1];rfl
 have k1:W2.cell? ⟨w.heap.size,1,none⟩=some (.slice na nn nc):=by rw [Lib.cell_of_heap y1];rfl
 have k2:W2.cell? ⟨w.heap.size,2,none⟩=some (.bool al):=by rw [Lib.cell_of_heap y1];rfl
 have k3:W2.cell? ⟨w.heap.size,3,none⟩=some (.int .i64 ag):=by rw [Lib.cell_of_heap y1];rfl
 have m0:W2.cell? ⟨W1.heap.size,0,none⟩=some (.slice ma' mn mc'):=by rw [Lib.cell_of_heap x2];rfl
 have m1:W2.cell? ⟨W1.heap.size,1,none⟩=some (.slice na' nn nc'):=by rw [Lib.cell_of_heap x2];rfl
 have m2:W2.cell? ⟨W1.heap.size,2,none⟩=some (.bool al):=by rw [Lib.cell_of_heap x2];rfl
 have m3:W2.cell? ⟨W1.heap.size,3,none⟩=some (.int .i64 ag):=by rw [Lib.cell_of_heap x2];rfl
 clear h1 h2 h3 h4 hl hb1 hb12 x1 x2 y1
 go_enter Tryz.func35,Tryz.ntmps35
 go_wp2_with fail
 refine (HS1.out _ HB.out).mono ?_;rintro e w3 ⟨rfl,hb3⟩
 have HB3:=hid (below2 HB.out hb3);have x3:=(hb3.block _ (Array.getElem?_eq_some_iff.1 HX.out.1).1).trans HX.out.1;have y3:=(hb3.block _ (Array.getElem?_eq_some_iff.1 HX.out.2).1).trans HX.out.2;have HX3:=hid (And.intro x3 y3);clear k0 k1 k2 k3 m0 m1 m2 m3;have k0:w3.cell? ⟨w.heap.size,0,none⟩=some (.slice ma mn mc):=by rw [Lib.cell_of_heap x3];rfl
 have k1:w3.cell? ⟨w.heap.size,1,none⟩=some (.slice na nn nc):=by rw [Lib.cell_of_heap x3];rfl
 have k2:w3.cell? ⟨w.heap.size,2,none⟩=some (.bool al):=by rw [Lib.cell_of_heap x3];rfl
 have k3:w3.cell? ⟨w.heap.size,3,none⟩=some (.int .i64 ag):=by rw [Lib.cell_of_heap x3];rfl
 have m0:w3.cell? ⟨W1.heap.size,0,none⟩=some (.slice ma' mn mc'):=by rw [Lib.cell_of_heap y3];rfl
 have m1:w3.cell? ⟨W1.heap.size,1,none⟩=some (.slice na' nn nc'):=by rw [Lib.cell_of_heap y3];rfl
 have m2:w3.cell? ⟨W1.heap.size,2,none⟩=some (.bool al):=by rw [Lib.cell_of_heap y3];rfl
 have m3:w3.cell? ⟨W1.heap.size,3,none⟩=some (.int .i64 ag):=by rw [Lib.cell_of_heap y3];rfl
 clear x3 y3 hb3
 go_wp2_with fail
 refine (HS2.out _ HB3.out).mono ?_;rintro e w4 ⟨rfl,hb4⟩
 have HB4:=hid (below2 HB3.out hb4);have x4:=(hb4.block _ (Array.getElem?_eq_some_iff.1 HX3.out.1).1).trans HX3.out.1;have y4:=(hb4.block _ (Array.getElem?_eq_some_iff.1 HX3.out.2).1).trans HX3.out.2;clear k0 k1 k2 k3 m0 m1 m2 m3;have k0:w4.cell? ⟨w.heap.size,0,none⟩=some (.slice ma mn mc):=by rw [Lib.cell_of_heap x4];rfl
 have k1:w4.cell? ⟨w.heap.size,1,none⟩=some (.slice na nn nc):=by rw [Lib.cell_of_heap x4];rfl
 have k2:w4.cell? ⟨w.heap.size,2,none⟩=some (.bool al):=by rw [Lib.cell_of_heap x4];rfl
 have k3:w4.cell? ⟨w.heap.size,3,none⟩=some (.int .i64 ag):=by rw [Lib.cell_of_heap x4];rfl
 have m0:w4.cell? ⟨W1.heap.size,0,none⟩=some (.slice ma' mn mc'):=by rw [Lib.cell_of_heap y4];rfl
 have m1:w4.cell? ⟨W1.heap.size,1,none⟩=some (.slice na' nn nc'):=by rw [Lib.cell_of_heap y4];rfl
 have m2:w4.cell? ⟨W1.heap.size,2,none⟩=some (.bool al):=by rw [Lib.cell_of_heap y4];rfl
 have m3:w4.cell? ⟨W1.heap.size,3,none⟩=some (.int .i64 ag):=by rw [Lib.cell_of_heap y4];rfl
 clear x4 y4 hb4
 go_wp2_with fail
 go_ret
 refine ⟨?_,HB4.out⟩
 first | rfl | simp

theorem kn19_1:rdB (textO (ofT [104,116,116,112,115,58,47,47,97])) false [80,85,84] [] 204 [⟨nAO,[42]⟩,⟨nAM,[80,85,84]⟩]=true:=by decide +kernel

theorem kn19_2:rdG (textO (ofT [104,116,116,112,115,58,47,47,97])) false [80,85,84] [] 204 [⟨nAO,[42]⟩,⟨nAM,[80,85,84]⟩]=⟨[[80,85,84]],[],false,5⟩:=by
 rw [rd_yes kn19_1,show grM [⟨nAO,[42]⟩,⟨nAM,[80,85,84]⟩]=[[80,85,84]] by decide +kernel,show grN [⟨nAO,[42]⟩,⟨nAM,[80,85,84]⟩]=[] by decide +kernel,show allG false [⟨nAO,[42]⟩,⟨nAM,[80,85,84]⟩]=false by decide +kernel,show grA [⟨nAO,[42]⟩,⟨nAM,[80,85,84]⟩]=5 by decide +kernel]

theorem kn19_3:alwT [115] [117] false [80,85,84] [] 14 (putsT 5 10 (rtsV [115] [117] false [[80,85,84]] [] false) [])=true:=by decide +kernel

theorem kn19_4:alwT [115] [117] false [80,85,84] [] 15 (putsT 5 10 (rtsV [115] [117] false [[80,85,84]] [] false) [])=false:=by decide +kernel

theorem kn19_5:OrgOk (ofT [104,116,116,112,115,58,47,47,97]):=orgOk_of (by decide +kernel)

theorem allows19_at (p:Nat) (T:List RwP) (S U m:ByteArray) (c:Bool) (Q:List (List UInt8)) (now:Int) (r:Bool) (hr:alwT S.data.toList U.data.toList c m.data.toList Q now T=r) (hl:T.length≤1000) (hm:m.size≤1000000) (hq:(Q.all fun x=>decide (x.length≤10000))=true) (hql:Q.length≤1000):
 ∀ (v:Value) (w:World),TbI w p T→TxAt w v Q→Calls Tryz.prog 36 #[.pointer (some ⟨p,0,none⟩),.string S,.string U,.bool c,.string m,v,.int .i64 now] w fun e w'=>e = .returned (.bool r)∧Below w.heap.size w w':=fun v w hI hv=>by
 have:=allows19_any p T S U m c v Q now w hI hl (by omega) hv (by omega) (fun x hx=>by have:=List.all_eq_true.1 hq x hx;simp only [decide_eq_true_eq] at this;omega)
 rw [hr] at this;exact this

theorem put19_at (p:Nat) (T T':List RwP) (S U:ByteArray) (c:Bool) (M N:List (List UInt8)) (al:Bool) (age now:Int) (hT:putsT age now (rtsV S.data.toList U.data.toList c M N al) T=T') (hl:T.length≤32) (hml:M.length≤1000∧N.length≤1000) (hns:(N.all fun x=>decide (x.length≤10000))=true) (h1:0≤now∧now≤1000000) (h2:0≤age∧age≤1000000):
 ∀ (vM vN:Value) (w:World),TbI w p T→TxT w vM M→TxT w vN N→Calls Tryz.prog 34 #[.pointer (some ⟨p,0,none⟩),.string S,.string U,.bool c,.agg #[vM,vN,.bool al,.int .i64 age],.int .i64 now] w fun e w'=>e = .returned (.tuple #[])∧TbI w' p T'∧TqP p w w':=fun vM vN w hI hM hN=>by
 have:=put_any19 p T S U c vM vN M N al age now w hI hl hM hN (by omega) (by omega) (fun x hx=>by have:=List.all_eq_true.1 hns x hx;simp only [decide_eq_true_eq] at this;omega) (by omega) (by omega)
 rw [hT] at this;exact this

set_option maxHeartbeats 16000000 in
set_option maxRecDepth 100000 in
theorem known19_any (w:World) (hg:Gd w):Calls Tryz.prog 38 #[] w fun e w'=>e = .returned (.bool true)∧Below w.heap.size w w':=by
 have HO:=hid (of19_at (⟨#[104,116,116,112,115,58,47,47,97]⟩:ByteArray) _ rfl (by decide));have k1:=kn19_1;have k2:=kn19_2;have k5:=kn19_5;generalize hO:ofT (⟨#[104,116,116,112,115,58,47,47,97]⟩:ByteArray).data.toList=O at *
 have HRd:=hid (read19_at O false (⟨#[80,85,84]⟩:ByteArray) [] 204 [⟨nAO,[42]⟩,⟨nAM,[80,85,84]⟩] _ _ (hO ▸ k2) (hO ▸ k1) (hO ▸ k5) (by decide) rfl (by decide) (by decide) (by decide));have HG:=hid hg;clear k1 k2 k5 hO hg;obtain ⟨sa,ah,ap,ao⟩:=O
 obtain ⟨AS,rfl⟩: ∃ X:ByteArray,sa=X.data.toList:=⟨⟨sa.toArray⟩,rfl⟩
 obtain ⟨AH,rfl⟩: ∃ X:ByteArray,ah=X.data.toList:=⟨⟨ah.toArray⟩,rfl⟩
 rw [show orgVal ⟨AS.data.toList,AH.data.toList,ap,ao⟩ = .agg #[.string AS,.string AH,.int .i64 ap,.bool ao] from rfl] at HO HRd
 go_enter Tryz.func38,Tryz.ntmps38
 go_wp2_with fail
 refine (h19_any _ _ _).mono ?_;rintro e w1 ⟨rfl,hb1⟩
 have HB1:=hid hb1;clear hb1
 go_wp2_with fail
 refine (h19_any _ _ _).mono ?_;rintro e w2 ⟨rfl,hb2⟩
 have HB2:=hid (below2 HB1.out hb2);clear hb2;obtain ⟨w3,hW3⟩: ∃ X,w2.alloc (.cells #[.string ⟨#[97,99,99,101,115,115,45,99,111,110,116,114,111,108,45,97,108,108,111,119,45,111,114,105,103,105,110]⟩,.string ⟨#[42]⟩,.string ⟨#[97,99,99,101,115,115,45,99,111,110,116,114,111,108,45,97,108,108,111,119,45,109,101,116,104,111,100,115]⟩,.string ⟨#[80,85,84]⟩] 45)=X:=⟨_,rfl⟩
 obtain ⟨w4,hW4⟩: ∃ X,w3.alloc (.cells #[.int .i64 204,.slice (some ⟨w2.heap.size,0,none⟩) 2 2,.slice none 0 0] 30)=X:=⟨_,rfl⟩
 have hh3:HdAt w3 (.slice (some ⟨w2.heap.size,0,none⟩) 2 2) [⟨nAO,[42]⟩,⟨nAM,[80,85,84]⟩]:=by rw [← hW3];exact hd_lit19 w2 [⟨nAO,[42]⟩,⟨nAM,[80,85,84]⟩] 2 rfl (by decide)
 have hb23:Below w2.heap.size w2 w3:=by rw [← hW3];exact (Below.refl _ w2).alloc (Nat.le_refl _) _
 have hb34:Below w3.heap.size w3 w4:=by rw [← hW4];exact (Below.refl _ w3).alloc (Nat.le_refl _) _
 have hr4:w4.heap[w3.heap.size]? = some (.cells #[.int .i64 204,.slice (some ⟨w2.heap.size,0,none⟩) 2 2,.slice none 0 0] 30 (0,0)):=by rw [← hW4];exact heap_alloc_new w3 _
 have hb4:=below2 (below2 HB2.out hb23) hb34;have HB4:=hid hb4;have HH4:=hid (hh3.kept hb34);have HW4:=hid hW4;clear hh3 hb23 hb34 hb4 hW4
 go_upto_region 2 with fail
 rw [HW4.out];refine wp_reg (rr_k19 _ _ _ _ _ _ _ _ _ _ _ _ _ _ _ _ _ _ _ _ _ _ _ _ _ _ _ _ _ _ _ _ _ _ _ _ _ _ w4 w3.heap.size 204 (some ⟨w2.heap.size,0,none⟩) none 2 2 0 0 AS AH ap ao [[80,85,84]] [] false true 5 hr4 HO (hid (fun Y hY=>HRd.out _ _ none 0 0 Y (HG.out.kept (below2 HB4.out hY)) (tx_nil _) (HH4.out.kept hY))) _ ?hk)
 case hk=>
  intro u10 u11 u12 u9 u13 u14 b cM cN aM aN w5 hgr hoM hoN hbb hne hb5;have HB5:=hid (below2 HB4.out hb5);have HGr:=hid hgr;have HM:=hid hoM;have HN:=hid hoN;clear hgr hoM hoN hbb hne hb5 hr4 hW3 HW4;dsimp only [List.length_cons,List.length_nil] at HGr HM HN
  go_wp2_with fail
  refine (new19_any _).mono ?_;rintro e w6 ⟨rfl,hI6,hb6⟩
  have HI6:=hid hI6;have HB6:=hid (below2 HB5.out hb6);have hg6:=(hb6.block _ (Array.getElem?_eq_some_iff.1 HGr.out).1).trans HGr.out;have HG6:=hid hg6;have HM6:=hid (own_same HM.out hb6);have HN6:=hid (own_same HN.out hb6);have g0:w6.cell? ⟨b,0,none⟩=some (.slice aM 1 cM):=by rw [Lib.cell_of_heap hg6];rfl
  have g1:w6.cell? ⟨b,1,none⟩=some (.slice aN 0 cN):=by rw [Lib.cell_of_heap hg6];rfl
  have g2:w6.cell? ⟨b,2,none⟩=some (.bool false):=by rw [Lib.cell_of_heap hg6];rfl
  have g3:w6.cell? ⟨b,3,none⟩=some (.int .i64 5):=by rw [Lib.cell_of_heap hg6];rfl
  obtain ⟨w7,hW7⟩: ∃ X,w6.alloc (.cells #[.string ⟨#[80,85,84]⟩] 9)=X:=⟨_,rfl⟩
  have hb67:Below w6.heap.size w6 w7:=by rw [← hW7];exact (Below.refl _ w6).alloc (Nat.le_refl _) _
  have HSm:=hid (same19_any (.slice aM 1 cM) (.slice aN 0 cN) (.slice (some ⟨w6.heap.size,0,none⟩) 1 1) (.slice none 0 0) [[80,85,84]] [] false 5 w7 (own_txt' (own_same HM6.out hb67)) (own_txt' (own_same HN6.out hb67)) (by rw [← hW7];exact txl_lit19 w6 [[80,85,84]] 1 rfl (by decide)) (tx_nil _) (by decide));have HB7:=hid (below2 HB6.out hb67);have HB67:=hid hb67;clear hI6 hb6 hg6 hb67
  go_wp2_with fail
  refine HSm.out.mono ?_;rintro e w8 ⟨rfl,hb8⟩
  have hb68:=below2 HB67.out hb8;have HB8:=hid (below2 HB6.out hb68);have hg8:=(hb68.block _ (Array.getElem?_eq_some_iff.1 HG6.out).1).trans HG6.out;have HP:=hid (put19_at w5.heap.size [] _ (⟨#[115]⟩:ByteArray) (⟨#[117]⟩:ByteArray) false [[80,85,84]] [] false 5 10 rfl (by decide) (by decide) (by decide) (by decide) (by decide) (.slice aM 1 cM) (.slice aN 0 cN) w8 (HI6.out.kept hb68) (own_txT (own_same HM6.out hb68)) (own_txT (own_same HN6.out hb68)));clear g0 g1 g2 g3 hb8 hb68;have g0:w8.cell? ⟨b,0,none⟩=some (.slice aM 1 cM):=by rw [Lib.cell_of_heap hg8];rfl
  have g1:w8.cell? ⟨b,1,none⟩=some (.slice aN 0 cN):=by rw [Lib.cell_of_heap hg8];rfl
  have g2:w8.cell? ⟨b,2,none⟩=some (.bool false):=by rw [Lib.cell_of_heap hg8];rfl
  have g3:w8.cell? ⟨b,3,none⟩=some (.int .i64 5):=by rw [Lib.cell_of_heap hg8];rfl
  clear hg8
  go_wp2_with fail
  refine HP.out.mono ?_;rintro e w9 ⟨rfl,hI9,hq9⟩
  have HB9:=hid (show Below w.heap.size w w9 from HB8.out.trans (hq9.1.mono HB5.out.size));have HI9:=hid hI9;have HA1:=hid (allows19_at w5.heap.size _ (⟨#[115]⟩:ByteArray) (⟨#[117]⟩:ByteArray) (⟨#[80,85,84]⟩:ByteArray) false [] 14 _ kn19_3 (by decide) (by decide) rfl (by decide) (.slice none 0 0) w9 hI9 (tx_nil _));clear g0 g1 g2 g3 hI9 hq9
  go_wp2_with fail
  refine HA1.out.mono ?_;rintro e w10 ⟨rfl,hb10⟩
  have HB10:=hid (below2 HB9.out hb10);have HA2:=hid (allows19_at w5.heap.size _ (⟨#[115]⟩:ByteArray) (⟨#[117]⟩:ByteArray) (⟨#[80,85,84]⟩:ByteArray) false [] 15 _ kn19_4 (by decide) (by decide) rfl (by decide) (.slice none 0 0) w10 (HI9.out.kept hb10) (tx_nil _));clear hb10
  go_wp2_with fail
  refine HA2.out.mono ?_;rintro e w11 ⟨rfl,hb11⟩
  have HB11:=hid (below2 HB10.out hb11);clear hb11
  go_wp2_with fail
  go_ret
  exact ⟨rfl,HB11.out⟩

end Go.Proofs.YtolioccofbhliaaGreatDoor

namespace Go.Proofs.YtolioccofbhliaaGreatDoor
open Go.RowKit

theorem n_within_mod_Ehw (n m:Int) (hm:1≤m):0 - m<n.tmod m∧n.tmod m<m:=by
 have h1:=Int.tmod_lt_of_pos n (b:=m) (by omega)
 have h2:=Int.tmod_lt_of_pos (-n) (b:=m) (by omega)
 rw [Int.neg_tmod] at h2;omega

def n_withinI_Ehw (n lo hi:Int):Int:=if n.tmod (hi - lo+1)<0 then lo+(n.tmod (hi - lo+1)+hi - lo+1) else lo+n.tmod (hi - lo+1)

theorem n_withinI_bounds_Ehw (n lo hi:Int) (h:lo≤hi):lo≤n_withinI_Ehw n lo hi∧n_withinI_Ehw n lo hi≤hi:=by
 have:=n_within_mod_Ehw n (hi - lo+1) (by omega)
 unfold n_withinI_Ehw;split<;>omega

set_option maxHeartbeats 400000 in
theorem n_within_any_Ehw (n lo hi:Int) (w:World) (h0: -9223372036854775808≤n) (h1:n≤9223372036854775807) (hlo:0≤lo) (hlh:lo≤hi) (hhi:hi≤1099511627776):
 Calls Tryz.prog 40 #[.int .i64 n,.int .i64 lo,.int .i64 hi] w fun e w'=>e = .returned (.int .i64 (n_withinI_Ehw n lo hi))∧w=w':=by
 have hb:=n_within_mod_Ehw n (hi - lo+1) (by omega)
 have hm0:(hi - lo+1==0)=false:=by simp;omega
 obtain ⟨b1,b2⟩:=hb
 by_cases hneg:n.tmod (hi - lo+1)<0
 ·have HW:=hid (show n_withinI_Ehw n lo hi=lo+(n.tmod (hi - lo+1)+hi - lo+1) by unfold n_withinI_Ehw;rw [if_pos hneg])
  go_enter Tryz.func40,Tryz.ntmps40
  go_wp2
  go_ret
  exact ⟨ret_int HW.out.symm,rfl⟩
 ·have HW:=hid (show n_withinI_Ehw n lo hi=lo+n.tmod (hi - lo+1) by unfold n_withinI_Ehw;rw [if_neg hneg])
  go_enter Tryz.func40,Tryz.ntmps40
  go_wp2
  go_ret
  exact ⟨ret_int HW.out.symm,rfl⟩

end Go.Proofs.YtolioccofbhliaaGreatDoor
