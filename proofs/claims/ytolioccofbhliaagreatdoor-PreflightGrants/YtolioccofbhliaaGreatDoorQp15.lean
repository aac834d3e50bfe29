/-
  Walks and plain facts that this claim leans on, put together out of 2 texts: Ezb, Ewk.
-/
import Derived.Test.YtolioccofbhliaaGreatDoorProg
import Derived.Test.YtolioccofbhliaaGreatDoorQp1
import Derived.Test.YtolioccofbhliaaGreatDoorQp2
import Derived.Test.YtolioccofbhliaaGreatDoorQp3
import Derived.Test.YtolioccofbhliaaGreatDoorQp4
import Derived.Test.YtolioccofbhliaaGreatDoorQp5
import Derived.Test.YtolioccofbhliaaGreatDoorQp8
import Derived.Test.YtolioccofbhliaaGreatDoorQp11
import Derived.Test.YtolioccofbhliaaGreatDoorQp13
import Derived.Test.YtolioccofbhliaaGreatDoorQp14
import Derived.Deep.Cut
import Derived.Deep.QuietTactic
import Derived.BigQuiet
import Derived.BigRegion
import Derived.Deep.RegionHeld
import Derived.Lib.IndexMore
import Derived.Lib.Join
import Derived.Lib.LastIndexByte
import Derived.WalkKit
import Derived.Lib.Strings
import Derived.Lib.UnsafeStr
import Derived.Laws.IdiomStrings
import Derived.Laws.AppendOwn
import Derived.Laws.BitsAllLaws
import Derived.Lib.Bytealg
import Derived.Lib.BufferMore
import Derived.Lib.BufferRead
import Derived.Lib.RuneBytes
import Derived.Laws.RangeAny
import Derived.LoopN
import Derived.RegionTactic
import Derived.Deep.RegionWith
import Derived.OwnWalk
import Derived.Deep.RegionLaw
import Derived.Laws.OwnMore
import Derived.Deep.LoopGhost
import Derived.Shelf.Strings.Builder1
import Derived.Shelf.Strings.Builder2
import Derived.Shelf.Strings.OnBuilder
import Derived.Shelf.Strings.Trim
import Derived.Shelf.Small.Utf8
import Derived.Shelf.Small.Bits
import Derived.Shelf.Small.Strs
import Derived.Shelf.Small.Wraps
import Derived.Shelf.Strings.BuilderF
import Derived.Shelf.Strings.BuilderK
import Derived.Shelf.Strings.Builder2Cap
import Derived.Shelf.Strconv.Itoa0
import Derived.Shelf.Strconv.Itoa1
import Derived.Shelf.LaysM
import Derived.Shelf.Strconv.Itoa2
import Derived.Shelf.Strconv.Itoa3
import Derived.Shelf.Strings.Search1
import Derived.Shelf.Strings.Search2
import Derived.Shelf.Strings.Cut
import Derived.Shelf.Strings.Shaped
import Derived.Shelf.Sort.Plain
import Derived.Shelf.Strings.Prefix
import Derived.Shelf.Strings.Runes
import Derived.Shelf.Strings.IndexAny
import Derived.Shelf.Strings.AsciiSet
import Derived.Shelf.Strings.IndexAnyAll
import Derived.Shelf.Unicode.DecodeSlow
import Derived.Shelf.Unicode.DecodeAny
import Derived.Shelf.Unicode.DecodeLast
import Derived.Shelf.Slices.CompactS
import Derived.Shelf.Slices.In.SortNone
import Derived.Ground.SlgnProg
import Derived.Shelf.SlicesE.Compact
import Derived.Ground.SlgfProg
import Derived.Shelf.SlicesE.IndexFunc
import Derived.Shelf.SlicesE.DeleteFunc
import Derived.Laws.AppendOwnNone
import Derived.Scope
import Derived.ScopeJumps
import Derived.WalkMore
import Derived.Lib.IndexAny
import Derived.Lib.Replace
import Derived.Lib.TrimByte
import Derived.Lib.ItoaNum
import Derived.Lib.DecodeN
import Derived.Lib.OthersKept
import Derived.Laws.BytesString
import Derived.Deep.WholeRow
import Derived.Lib.AppendStr
import Derived.WalkSpells
import Derived.WalkLawsBesides
import Derived.Lib.AppendIntMem
import Derived.Lib.SmallJoins
import Derived.WalkSmall
import Derived.Laws.CopyOwn
import Derived.Laws.ResultCell
import Derived.Deep.MidRow
import Derived.Lib.FrozenHead2
import Derived.Lib.Builder
import Derived.Lib.SlTrimSet
import Derived.Below
import Derived.Shelf.Strings.SlTrimAscii
import Derived.Laws.Runes
set_option linter.unusedSimpArgs false
set_option linter.unusedVariables false

namespace Go.Proofs.YtolioccofbhliaaGreatDoor
open Go.RowKit

theorem inn_not4 {u:Adr} (h:u.scheme≠sBlob):innV u=Adr.zero:=by
 unfold innV;rw [if_neg (fun e=>h e.1)]

theorem orgA_not4 {u:Adr} (h:u.scheme≠sBlob):orgA u=u:=orgA_out (by rw [inn_not4 h];decide)

theorem wq_opq (u:Adr) (q:List UInt8):(withQuery u q).opq=u.opq∧(withQuery u q).path=u.path:=by
 unfold withQuery;split<;>exact ⟨rfl,rfl⟩

theorem wp_opq (u:Adr) (L:List (List UInt8)) (r:List UInt8):(withPath u L r).opq=u.opq:=(wq_opq _ _).1

theorem wa_opq {u v:Adr} {r:List UInt8} (e:withAuth u r = .ok v):v.opq=u.opq:=by
 unfold withAuth at e;split at e
 ·cases e
 ·injection e with e
  rw [← e,wp_opq]

theorem read_one {s:List UInt8} {u:Adr} (e:readV s none = .ok u) (h:u.opq=true): ∃ x,u.path=[x]:=by
 unfold readV at e;split at e
 ·cases e
 ·simp only at e
  split at e
  ·cases e
  ·have h0:(beginU s).1.opq=false:=rfl
   generalize (beginU s).1=b at e h0;generalize (beginU s).2=r at e;unfold startV at e;split at e
   ·have:=wa_opq e;rw [h,h0] at this;cases this
   ·split at e
    ·have:=wa_opq e;rw [h,h0] at this;cases this
    ·split at e
     ·injection e with e
      have:=wp_opq b [] r;rw [e,h,h0] at this;cases this
     ·injection e with e
      have:=(wq_opq { b with opq:=true,path:=[pct 1 (aheadV [63] r).1] } (aheadV [63] r).2).2;rw [e] at this;exact ⟨_,this⟩

theorem web_blob {s:List UInt8} (h:webV s=true):s≠sBlob:=fun e=>by subst e;revert h;decide

theorem org_inn {u v:Adr} (e:innV u=v) (h:webV v.scheme=true):orgV u=orgV v:=by
 have h1:orgA u=v:=by rw [orgA_in (by rw [e];exact h),e]
 have h2:orgA v=v:=orgA_not4 (web_blob h);unfold orgV;rw [h1,h2]

theorem org_named4 (o:Org): ∃ (s h:ByteArray) (p:Int) (q:Bool),orgVal o = .agg #[.string s,.string h,.int .i64 p,.bool q]∧orgCells o=[.string s,.string h,.int .i64 p,.bool q]:=⟨_,_,_,_,rfl,rfl⟩

theorem org_out_no {u:Adr} (h:webV (innV u).scheme=false) (hs:specV u.scheme=false):orgV u=Org.none:=orgV_no (by rw [orgA_out h];exact hs)

theorem org_out_yes {u:Adr} (h:webV (innV u).scheme=false) (hs:specV u.scheme=true):orgV u=⟨u.scheme,u.host,hasP u,false⟩:=by
 rw [orgV_yes (by rw [orgA_out h];exact hs),orgA_out h]

set_option maxHeartbeats 16000000 in
set_option maxRecDepth 100000 in
theorem rof4_step (u:Adr) (pv:Value) (w:World) (hp:PathAt w pv u.path) (hf:u.path.flatten.length≤100000) (h1:u.scheme=sBlob→u.opq=true → ∃ x,u.path=[x])
 (hb: ∀ v,u.scheme=sBlob→u.opq=true→readV u.path.flatten none = .ok v→webV v.scheme=true → ∀ (qv:Value) (X:World),PathAt X qv v.path→Calls Tryz.prog 79 #[adrVal v qv] X (OfPost (orgV v) X)):
 Calls Tryz.prog 79 #[adrVal u pv] w (OfPost (orgV u) w):=by
 obtain ⟨da,dn,dc,rfl⟩:=path_sl hp
 obtain ⟨d0,d1,d2,d3,d4,d5,d6,d8,d9,d10,d11,hxd,hx0,hx3,-,hx6⟩:=adr_named u da dn dc
 have hvd:adrVal u (.slice da dn dc) = .agg #[.string d0,.string d1,.string d2,.string d3,.bool d4,.int .i64 d5,.bool d6,.slice da dn dc,.string d8,.string d9,.bool d10,.bool d11]:=by unfold adrVal;rw [hxd]
 rw [hvd];obtain ⟨W1,hW1⟩: ∃ X,(w.alloc (.cells #[.string d0,.string d1,.string d2,.string d3,.bool d4,.int .i64 d5,.bool d6,.slice da dn dc,.string d8,.string d9,.bool d10,.bool d11] 130))=X:=⟨_,rfl⟩
 have hbW1:Below w.heap.size w W1:=by rw [← hW1];exact (Below.refl _ w).alloc (Nat.le_refl _) _
 have hsW1:W1.heap.size=w.heap.size+1:=by rw [← hW1];simp
 have hAW1:AdrIn W1 w.heap.size u (.slice da dn dc):=by
  unfold AdrIn;rw [hxd,← hW1]
  exact heap_alloc_new w _
 obtain ⟨W2,hW2⟩: ∃ W2,(W1.alloc (.cells #[.string ⟨#[]⟩,.string ⟨#[]⟩,.int .i64 0,.bool false] 56))=W2:=⟨_,rfl⟩
 have hb2:Below W1.heap.size W1 W2:=by rw [← hW2];exact (Below.refl _ W1).alloc (Nat.le_refl _) _
 have hR2:OrgIn W2 W1.heap.size Org.nil:=by rw [← hW2];exact heap_alloc_new W1 _
 rw [hsW1] at hR2;have HB2:=hid (below2 hbW1 hb2);have HA2:=hid (hAW1.kept hb2);have HO2:=hid hR2;have HP2:=hid (hp.kept HB2.out);have HP0:=hid hp;have HXd:=hid hxd;have HVd:=hid hvd;have HSp:=hid (fun w=>rspecial_any d0 w);rw [hx0] at HSp;obtain ⟨sp,hsp⟩: ∃ q,specV u.scheme=q:=⟨_,rfl⟩
 rw [hsp] at HSp;have HSPe:=hid hsp;have HX0:=hid hx0;have HX3:=hid hx3;obtain ⟨q5,eq5⟩: ∃ q,(d0.toList==[98,108,111,98])=q:=⟨_,rfl⟩
 have HBl:=hid (show (u.scheme=sBlob) ↔ q5=true by rw [← eq5,beq_iff_eq,Lib.toList_data,hx0];rfl);have HO6:=hid hx6;obtain ⟨hn,hone⟩:=path_one4 HP2.out
 have HN:=hid hn;have HOn:=hid hone;have HIn:=hid hb;have HFl:=hid hf;have H1:=hid h1;clear hbW1 hAW1 hb2 hR2 hxd hvd hp hsp hx0 hx3 hx6 hn hone hb hf h1
 cases q5 with
 | false=>
   have HWb:=hid (show webV (innV u).scheme=false by
    rw [inn_not4 (fun h=>by have:=HBl.out.1 h;cases this)];decide)
   obtain ⟨y0,y1,y2,y3,y4,y5,y6,y7,y8,y9,y10,y11⟩:=adr_twelve HXd.out HA2.out
   go_enter Tryz.func79,Tryz.ntmps79
   go_upto_region 5 with fail
   clear y0 y1 y2 y3 y4 y5 y6 y7 y8 y9 y10 y11;obtain ⟨y0,y1,y2,y3,y4,y5,y6,y7,y8,y9,y10,y11⟩:=adr_twelve HXd.out HA2.out
   have ry0:=HO2.out.cell 0 _ rfl;have rz0:=HO2.out.frozen 0;have ry1:=HO2.out.cell 1 _ rfl;have rz1:=HO2.out.frozen 1;have ry2:=HO2.out.cell 2 _ rfl;have rz2:=HO2.out.frozen 2;have ry3:=HO2.out.cell 3 _ rfl;have rz3:=HO2.out.frozen 3
   cases sp with
   | false=>
     have HV:=hid (org_out_no HWb.out HSPe.out)
     go_wp2_with (go_at_call 129;refine (HSp.out _).mono ?_;rintro e wz ⟨rfl,hwz⟩;rw [← hwz];clear hwz)
     have hrg:=range_row (HO2.out.store (p:=Org.none));have hbl:=below_setCells (B:=w.heap.size) (b:=w.heap.size+1) (Nat.le_succ _) (orgCells Org.none) 0 _ HB2.out;rw [HV.out];refine bodyPost_ret (results_o1 rfl _ _ (w.heap.size+1) Org.none rfl ?_) rfl ⟨?_,?_⟩
     ·exact hrg
     ·rfl
     ·exact hbl
   | true=>
     have HV:=hid (org_out_yes HWb.out HSPe.out);clear y0 y1 y2 y3 y4 y5 y6 y7 y8 y9 y10 y11 ry0 rz0 ry1 rz1 ry2 rz2 ry3 rz3;obtain ⟨y0,y1,y2,y3,y4,y5,y6,y7,y8,y9,y10,y11⟩:=adr_twelve HXd.out HA2.out
     go_upto_region 7 with (go_at_call 129;refine (HSp.out _).mono ?_;rintro e wz ⟨rfl,hwz⟩;rw [← hwz];clear hwz)
     clear y0 y1 y2 y3 y4 y5 y6 y7 y8 y9 y10 y11;have HRd:=hid (show ∀ Z,Below w.heap.size w Z∧AdrIn Z w.heap.size u (.slice da dn dc)→Z.rangeAt w.heap.size 0 [.string d0,.string d1,.string d2,.string d3,.bool d4,.int .i64 d5,.bool d6,.slice da dn dc,.string d8,.string d9,.bool d10,.bool d11] from fun Z hZ=>by
      have:=range_row hZ.2;rw [HXd.out] at this;exact this)
     have HKF:=hid (show ∀ Z,Below w.heap.size w Z∧AdrIn Z w.heap.size u (.slice da dn dc)→Z.cell? ⟨w.heap.size,0,none⟩=some (.string d0)∧Z.cell? ⟨w.heap.size,3,none⟩=some (.string d3) from fun Z hZ=>by
      have ha:=HRd.out Z hZ;exact ⟨ha 0 _ rfl,ha 3 _ rfl⟩)
     have HPt:=hid (fun (Z:World) (hZ:Below w.heap.size w Z∧AdrIn Z w.heap.size u (.slice da dn dc))=>rport_any u (.slice da dn dc) Z (HP0.out.kept hZ.1));rw [HVd.out] at HPt;obtain ⟨hp9,hHP⟩: ∃ p,hasP u=p:=⟨_,rfl⟩
     rw [hHP] at HPt HV;have HQ0:=hid (show Below w.heap.size w W2.drew∧AdrIn W2.drew w.heap.size u (.slice da dn dc) from ⟨HB2.out.drew,HA2.out⟩);have HO8:=hid (show OrgIn W2.drew (w.heap.size+1) Org.nil from HO2.out);clear hHP;refine wp_region_held_drew (S:=(fun wx=>Below w.heap.size w wx∧AdrIn wx w.heap.size u (.slice da dn dc))) (by kernel_rfl) HQ0.out (fun hHeld=> ?_)
     refine wpAnyH_to (fuel':=8) (listed':= #[false,false,false,false,false,false,false,false]) rfl rfl ?_
     refine' wpAnyH_take (i:=0) (oi:=⟨some 45,_,_,_,_,_⟩) (v:=_) rfl (by kernel_rfl) (by kernel_rfl) (by kernel_rfl) (fun _ _ _ h=>h) (Or.inl ⟨by kernel_rfl,?hyt2x1y1⟩) (by assumption) ?restt2x1y1
     case hyt2x1y1=>(intro wx hSw;(try dsimp only at hSw);obtain ⟨c0,c3⟩:=HKF.out _ hSw;go_simp;first | done | with_reducible rfl)
     (try simp only [Act.put,List.setIfInBounds_toArray,List.set_cons_zero,List.set_cons_succ])
     refine' wpAnyH_take (i:=1) (oi:=⟨some 46,_,_,_,_,_⟩) (v:=_) rfl (by kernel_rfl) (by kernel_rfl) (by kernel_rfl) (fun _ _ _ h=>h) (Or.inl ⟨by kernel_rfl,?hyt2x1y2⟩) (by assumption) ?restt2x1y2
     case hyt2x1y2=>(intro wx hSw;(try dsimp only at hSw);obtain ⟨c0,c3⟩:=HKF.out _ hSw;go_simp;first | done | with_reducible rfl)
     (try simp only [Act.put,List.setIfInBounds_toArray,List.set_cons_zero,List.set_cons_succ])
     refine' wpAnyH_take (i:=2) (oi:=⟨some 47,_,_,_,_,_⟩) (v:=_) rfl (by kernel_rfl) (by kernel_rfl) (by kernel_rfl) (fun _ _ _ h=>h) (Or.inl ⟨by kernel_rfl,?hyt2x1y3⟩) (by assumption) ?restt2x1y3
     case hyt2x1y3=>(intro wx hSw;(try dsimp only at hSw);obtain ⟨c0,c3⟩:=HKF.out _ hSw;go_simp;first | done | with_reducible rfl)
     (try simp only [Act.put,List.setIfInBounds_toArray,List.set_cons_zero,List.set_cons_succ])
     refine' wpAnyH_take (i:=3) (oi:=⟨some 48,_,_,_,_,_⟩) (v:=_) rfl (by kernel_rfl) (by kernel_rfl) (by kernel_rfl) (fun _ _ _ h=>h) (Or.inl ⟨by kernel_rfl,?hyt2x1y4⟩) (by assumption) ?restt2x1y4
     case hyt2x1y4=>(intro wx hSw;(try dsimp only at hSw);obtain ⟨c0,c3⟩:=HKF.out _ hSw;go_simp;first | done | with_reducible rfl)
     (try simp only [Act.put,List.setIfInBounds_toArray,List.set_cons_zero,List.set_cons_succ])
     refine wpAnyH_take (i:=4) (oi:=⟨some 49,_,_,_,_,_⟩) rfl (by kernel_rfl) (by kernel_rfl) (by kernel_rfl) (fun _ _ _ h=>h) (yieldsIf_load_mid (by kernel_rfl) 130 (.tmp 1) rfl (w.heap.size) 0 rfl [.string d0,.string d1,.string d2,.string d3,.bool d4,.int .i64 d5,.bool d6,.slice da dn dc,.string d8,.string d9,.bool d10,.bool d11] _ HRd.out Tryz.underlying130 rfl sizeU) (by assumption) ?_
     (try simp only [Act.put,List.setIfInBounds_toArray,List.set_cons_zero,List.set_cons_succ])
     refine wpAnyH_ready (rs:=[5]) (by kernel_rfl) (by simp) ?_
     refine AllReadyH.cons rfl (fun K9 hK=> ?_) AllReadyH.nil;rw [if_pos (by kernel_rfl)]
     go_simp
     go_wp2_with (go_at_call 130;refine (HPt.out _ HQ0.out).mono ?_;rintro e w21 ⟨rfl,hba⟩)
     have HQ21:=hid (show Below w.heap.size w w21∧AdrIn w21 w.heap.size u (.slice da dn dc) from ⟨below2 HQ0.out.1 hba,HQ0.out.2.kept hba⟩);have HO9:=hid (HO8.out.kept hba);clear hba;refine hK.out _ _ HQ21.out (fun hHeld2=> ?_);clear hK K9 hHeld
     rename _=>hHeld
     refine' wpAnyH_take (i:=6) (oi:=⟨some 51,_,_,_,_,_⟩) (v:=_) rfl (by kernel_rfl) (by kernel_rfl) (by kernel_rfl) (fun _ _ _ h=>h) (Or.inl ⟨by kernel_rfl,?hyt2x1y5⟩) (by assumption) ?restt2x1y5
     case hyt2x1y5=>(intro wx hSw;(try dsimp only at hSw);obtain ⟨c0,c3⟩:=HKF.out _ hSw;go_simp;first | done | with_reducible rfl)
     (try simp only [Act.put,List.setIfInBounds_toArray,List.set_cons_zero,List.set_cons_succ])
     have ty0:=HO9.out.cell 0 _ rfl;have tz0:=HO9.out.frozen 0;have ty1:=HO9.out.cell 1 _ rfl;have tz1:=HO9.out.frozen 1;have ty2:=HO9.out.cell 2 _ rfl;have tz2:=HO9.out.frozen 2;have ty3:=HO9.out.cell 3 _ rfl;have tz3:=HO9.out.frozen 3;refine wpAnyH_ready (rs:=[7]) (by kernel_rfl) (by simp) ?_
     refine AllReadyH.cons rfl (fun K9 hK=> ?_) AllReadyH.nil;rw [if_pos (by kernel_rfl)]
     go_simp
     have HC:=hid (show orgCells ⟨u.scheme,u.host,hp9,false⟩=[.string d0,.string d3,.int .i64 hp9,.bool false] by unfold orgCells;rw [← HX0.out,← HX3.out]);have HQ22:=hid (show Below w.heap.size w (w21.setCells (w.heap.size+1) 0 (orgCells ⟨u.scheme,u.host,hp9,false⟩))∧AdrIn (w21.setCells (w.heap.size+1) 0 (orgCells ⟨u.scheme,u.host,hp9,false⟩)) w.heap.size u (.slice da dn dc) from
      ⟨below_setCells (B:=w.heap.size) (b:=w.heap.size+1) (Nat.le_succ _) _ 0 _ HQ21.out.1,AdrIn.fars (by omega) _ _ _ HQ21.out.2⟩)
     have HRo:=hid (range_row (HO9.out.store (p:=⟨u.scheme,u.host,hp9,false⟩)));rw [HC.out] at HQ22 HRo;refine hK.out _ _ HQ22.out (fun hHeld2=> ?_);refine wpAnyH_done (by kernel_rfl) ?_ _
     go_wp2
     rw [HV.out];refine bodyPost_ret (results_o1 rfl _ _ (w.heap.size+1) ⟨u.scheme,u.host,hp9,false⟩ rfl ?_) rfl ⟨?_,?_⟩
     ·rw [HC.out];exact HRo.out
     ·rfl
     ·exact HQ22.out.1
 | true=>
   cases d6 with
   | false=>
     have HWb:=hid (show webV (innV u).scheme=false by
      have:innV u=Adr.zero:=by unfold innV;rw [if_neg (fun h=>by have:=HO6.out;rw [h.2] at this;cases this)]
      rw [this];decide)
     obtain ⟨y0,y1,y2,y3,y4,y5,y6,y7,y8,y9,y10,y11⟩:=adr_twelve HXd.out HA2.out
     go_enter Tryz.func79,Tryz.ntmps79
     go_upto_region 5 with fail
     clear y0 y1 y2 y3 y4 y5 y6 y7 y8 y9 y10 y11;obtain ⟨y0,y1,y2,y3,y4,y5,y6,y7,y8,y9,y10,y11⟩:=adr_twelve HXd.out HA2.out
     have ry0:=HO2.out.cell 0 _ rfl;have rz0:=HO2.out.frozen 0;have ry1:=HO2.out.cell 1 _ rfl;have rz1:=HO2.out.frozen 1;have ry2:=HO2.out.cell 2 _ rfl;have rz2:=HO2.out.frozen 2;have ry3:=HO2.out.cell 3 _ rfl;have rz3:=HO2.out.frozen 3
     cases sp with
     | false=>
       have HV:=hid (org_out_no HWb.out HSPe.out)
       go_wp2_with (go_at_call 129;refine (HSp.out _).mono ?_;rintro e wz ⟨rfl,hwz⟩;rw [← hwz];clear hwz)
       have hrg:=range_row (HO2.out.store (p:=Org.none));have hbl:=below_setCells (B:=w.heap.size) (b:=w.heap.size+1) (Nat.le_succ _) (orgCells Org.none) 0 _ HB2.out;rw [HV.out];refine bodyPost_ret (results_o1 rfl _ _ (w.heap.size+1) Org.none rfl ?_) rfl ⟨?_,?_⟩
       ·exact hrg
       ·rfl
       ·exact hbl
     | true=>
       have HV:=hid (org_out_yes HWb.out HSPe.out);clear y0 y1 y2 y3 y4 y5 y6 y7 y8 y9 y10 y11 ry0 rz0 ry1 rz1 ry2 rz2 ry3 rz3;obtain ⟨y0,y1,y2,y3,y4,y5,y6,y7,y8,y9,y10,y11⟩:=adr_twelve HXd.out HA2.out
       go_upto_region 7 with (go_at_call 129;refine (HSp.out _).mono ?_;rintro e wz ⟨rfl,hwz⟩;rw [← hwz];clear hwz)
       clear y0 y1 y2 y3 y4 y5 y6 y7 y8 y9 y10 y11;have HRd:=hid (show ∀ Z,Below w.heap.size w Z∧AdrIn Z w.heap.size u (.slice da dn dc)→Z.rangeAt w.heap.size 0 [.string d0,.string d1,.string d2,.string d3,.bool d4,.int .i64 d5,.bool false,.slice da dn dc,.string d8,.string d9,.bool d10,.bool d11] from fun Z hZ=>by
        have:=range_row hZ.2;rw [HXd.out] at this;exact this)
       have HKF:=hid (show ∀ Z,Below w.heap.size w Z∧AdrIn Z w.heap.size u (.slice da dn dc)→Z.cell? ⟨w.heap.size,0,none⟩=some (.string d0)∧Z.cell? ⟨w.heap.size,3,none⟩=some (.string d3) from fun Z hZ=>by
        have ha:=HRd.out Z hZ;exact ⟨ha 0 _ rfl,ha 3 _ rfl⟩)
       have HPt:=hid (fun (Z:World) (hZ:Below w.heap.size w Z∧AdrIn Z w.heap.size u (.slice da dn dc))=>rport_any u (.slice da dn dc) Z (HP0.out.kept hZ.1));rw [HVd.out] at HPt;obtain ⟨hp9,hHP⟩: ∃ p,hasP u=p:=⟨_,rfl⟩
       rw [hHP] at HPt HV;have HQ0:=hid (show Below w.heap.size w W2.drew∧AdrIn W2.drew w.heap.size u (.slice da dn dc) from ⟨HB2.out.drew,HA2.out⟩);have HO8:=hid (show OrgIn W2.drew (w.heap.size+1) Org.nil from HO2.out);clear hHP;refine wp_region_held_drew (S:=(fun wx=>Below w.heap.size w wx∧AdrIn wx w.heap.size u (.slice da dn dc))) (by kernel_rfl) HQ0.out (fun hHeld=> ?_)
       refine wpAnyH_to (fuel':=8) (listed':= #[false,false,false,false,false,false,false,false]) rfl rfl ?_
       refine' wpAnyH_take (i:=0) (oi:=⟨some 45,_,_,_,_,_⟩) (v:=_) rfl (by kernel_rfl) (by kernel_rfl) (by kernel_rfl) (fun _ _ _ h=>h) (Or.inl ⟨by kernel_rfl,?hyt2x2y1⟩) (by assumption) ?restt2x2y1
       case hyt2x2y1=>(intro wx hSw;(try dsimp only at hSw);obtain ⟨c0,c3⟩:=HKF.out _ hSw;go_simp;first | done | with_reducible rfl)
       (try simp only [Act.put,List.setIfInBounds_toArray,List.set_cons_zero,List.set_cons_succ])
       refine' wpAnyH_take (i:=1) (oi:=⟨some 46,_,_,_,_,_⟩) (v:=_) rfl (by kernel_rfl) (by kernel_rfl) (by kernel_rfl) (fun _ _ _ h=>h) (Or.inl ⟨by kernel_rfl,?hyt2x2y2⟩) (by assumption) ?restt2x2y2
       case hyt2x2y2=>(intro wx hSw;(try dsimp only at hSw);obtain ⟨c0,c3⟩:=HKF.out _ hSw;go_simp;first | done | with_reducible rfl)
       (try simp only [Act.put,List.setIfInBounds_toArray,List.set_cons_zero,List.set_cons_succ])
       refine' wpAnyH_take (i:=2) (oi:=⟨some 47,_,_,_,_,_⟩) (v:=_) rfl (by kernel_rfl) (by kernel_rfl) (by kernel_rfl) (fun _ _ _ h=>h) (Or.inl ⟨by kernel_rfl,?hyt2x2y3⟩) (by assumption) ?restt2x2y3
       case hyt2x2y3=>(intro wx hSw;(try dsimp only at hSw);obtain ⟨c0,c3⟩:=HKF.out _ hSw;go_simp;first | done | with_reducible rfl)
       (try simp only [Act.put,List.setIfInBounds_toArray,List.set_cons_zero,List.set_cons_succ])
       refine' wpAnyH_take (i:=3) (oi:=⟨some 48,_,_,_,_,_⟩) (v:=_) rfl (by kernel_rfl) (by kernel_rfl) (by kernel_rfl) (fun _ _ _ h=>h) (Or.inl ⟨by kernel_rfl,?hyt2x2y4⟩) (by assumption) ?restt2x2y4
       case hyt2x2y4=>(intro wx hSw;(try dsimp only at hSw);obtain ⟨c0,c3⟩:=HKF.out _ hSw;go_simp;first | done | with_reducible rfl)
       (try simp only [Act.put,List.setIfInBounds_toArray,List.set_cons_zero,List.set_cons_succ])
       refine wpAnyH_take (i:=4) (oi:=⟨some 49,_,_,_,_,_⟩) rfl (by kernel_rfl) (by kernel_rfl) (by kernel_rfl) (fun _ _ _ h=>h) (yieldsIf_load_mid (by kernel_rfl) 130 (.tmp 1) rfl (w.heap.size) 0 rfl [.string d0,.string d1,.string d2,.string d3,.bool d4,.int .i64 d5,.bool false,.slice da dn dc,.string d8,.string d9,.bool d10,.bool d11] _ HRd.out Tryz.underlying130 rfl sizeU) (by assumption) ?_
       (try simp only [Act.put,List.setIfInBounds_toArray,List.set_cons_zero,List.set_cons_succ])
       refine wpAnyH_ready (rs:=[5]) (by kernel_rfl) (by simp) ?_
       refine AllReadyH.cons rfl (fun K9 hK=> ?_) AllReadyH.nil;rw [if_pos (by kernel_rfl)]
       go_simp
       go_wp2_with (go_at_call 130;refine (HPt.out _ HQ0.out).mono ?_;rintro e w21 ⟨rfl,hba⟩)
       have HQ21:=hid (show Below w.heap.size w w21∧AdrIn w21 w.heap.size u (.slice da dn dc) from ⟨below2 HQ0.out.1 hba,HQ0.out.2.kept hba⟩);have HO9:=hid (HO8.out.kept hba);clear hba;refine hK.out _ _ HQ21.out (fun hHeld2=> ?_);clear hK K9 hHeld
       rename _=>hHeld
       refine' wpAnyH_take (i:=6) (oi:=⟨some 51,_,_,_,_,_⟩) (v:=_) rfl (by kernel_rfl) (by kernel_rfl) (by kernel_rfl) (fun _ _ _ h=>h) (Or.inl ⟨by kernel_rfl,?hyt2x2y5⟩) (by assumption) ?restt2x2y5
       case hyt2x2y5=>(intro wx hSw;(try dsimp only at hSw);obtain ⟨c0,c3⟩:=HKF.out _ hSw;go_simp;first | done | with_reducible rfl)
       (try simp only [Act.put,List.setIfInBounds_toArray,List.set_cons_zero,List.set_cons_succ])
       have ty0:=HO9.out.cell 0 _ rfl;have tz0:=HO9.out.frozen 0;have ty1:=HO9.out.cell 1 _ rfl;have tz1:=HO9.out.frozen 1;have ty2:=HO9.out.cell 2 _ rfl;have tz2:=HO9.out.frozen 2;have ty3:=HO9.out.cell 3 _ rfl;have tz3:=HO9.out.frozen 3;refine wpAnyH_ready (rs:=[7]) (by kernel_rfl) (by simp) ?_
       refine AllReadyH.cons rfl (fun K9 hK=> ?_) AllReadyH.nil;rw [if_pos (by kernel_rfl)]
       go_simp
       have HC:=hid (show orgCells ⟨u.scheme,u.host,hp9,false⟩=[.string d0,.string d3,.int .i64 hp9,.bool false] by unfold orgCells;rw [← HX0.out,← HX3.out]);have HQ22:=hid (show Below w.heap.size w (w21.setCells (w.heap.size+1) 0 (orgCells ⟨u.scheme,u.host,hp9,false⟩))∧AdrIn (w21.setCells (w.heap.size+1) 0 (orgCells ⟨u.scheme,u.host,hp9,false⟩)) w.heap.size u (.slice da dn dc) from
        ⟨below_setCells (B:=w.heap.size) (b:=w.heap.size+1) (Nat.le_succ _) _ 0 _ HQ21.out.1,AdrIn.fars (by omega) _ _ _ HQ21.out.2⟩)
       have HRo:=hid (range_row (HO9.out.store (p:=⟨u.scheme,u.host,hp9,false⟩)));rw [HC.out] at HQ22 HRo;refine hK.out _ _ HQ22.out (fun hHeld2=> ?_);refine wpAnyH_done (by kernel_rfl) ?_ _
       go_wp2
       rw [HV.out];refine bodyPost_ret (results_o1 rfl _ _ (w.heap.size+1) ⟨u.scheme,u.host,hp9,false⟩ rfl ?_) rfl ⟨?_,?_⟩
       ·rw [HC.out];exact HRo.out
       ·rfl
       ·exact HQ22.out.1
   | true=>
     obtain ⟨x,hx⟩:=H1.out (HBl.out.2 (by first | rfl | trivial)) HO6.out.symm
     obtain ⟨bb,rfl,hc0,hbb⟩:=HOn.out x hx
     have hn1:dn=1:=by rw [HN.out,hx];rfl
     obtain ⟨X,hX⟩: ∃ X:ByteArray,(⟨x.toArray⟩:ByteArray)=X:=⟨_,rfl⟩
     have hXl:X.data.toList=x:=by rw [← hX]
     have hfx:u.path.flatten=x:=by rw [hx];simp
     have hXs:X.size≤100000:=by rw [Lib.size_eq,hXl,← hfx];exact HFl.out
     rw [hX] at hc0;have HRd:=hid (fun w=>rparse3_any X w hXs);rw [hXl] at HRd;have HIn2:=hid (fun v=>HIn.out v (HBl.out.2 (by first | rfl | trivial)) HO6.out.symm);have HInn:=hid (show innV u=adrOf (readV x none) by unfold innV;rw [if_pos ⟨HBl.out.2 (by first | rfl | trivial),HO6.out.symm⟩,hfx]);rw [hfx] at HIn2;unfold ReadPost at HRd;have HEr:=hid (show ∀ e,readV x none = .error e→(e==0)=false from fun e h=>err_ne (read_err h));generalize readV x none=r at HRd HIn2 HEr HInn;subst hn1;clear hx hX hXl hfx hXs hbb HIn HOn HN
     cases r with
     | error z=>
       have hz:=HEr.out z rfl;have HWb:=hid (show webV (innV u).scheme=false by rw [HInn.out];show webV Adr.zero.scheme=false;decide);simp only [numOf,adrOf] at HRd
       obtain ⟨y0,y1,y2,y3,y4,y5,y6,y7,y8,y9,y10,y11⟩:=adr_twelve HXd.out HA2.out
       go_enter Tryz.func79,Tryz.ntmps79
       go_wp2_with fail
       refine (HRd.out _).mono ?_;rintro e w2 ⟨qv,rfl,hown,hb2⟩
       obtain ⟨va,vn,vc,rfl⟩:=own_sl hown
       obtain ⟨v0,v1,v2,v3,v4,v5,v6,v8,v9,v10,v11,hxv⟩:=adr_cells Adr.zero va vn vc
       have hvv:adrVal Adr.zero (.slice va vn vc) = .agg #[.string v0,.string v1,.string v2,.string v3,.bool v4,.int .i64 v5,.bool v6,.slice va vn vc,.string v8,.string v9,.bool v10,.bool v11]:=by unfold adrVal;rw [hxv]
       rw [hvv];obtain ⟨W3,hW3⟩: ∃ X,(w2.alloc (.cells #[.string v0,.string v1,.string v2,.string v3,.bool v4,.int .i64 v5,.bool v6,.slice va vn vc,.string v8,.string v9,.bool v10,.bool v11] 130))=X:=⟨_,rfl⟩
       have hbW3:Below w2.heap.size w2 W3:=by rw [← hW3];exact (Below.refl _ w2).alloc (Nat.le_refl _) _
       have hsW3:W3.heap.size=w2.heap.size+1:=by rw [← hW3];simp
       have hAW3:AdrIn W3 w2.heap.size Adr.zero (.slice va vn vc):=by
        unfold AdrIn;rw [hxv,← hW3]
        exact heap_alloc_new w2 _
       have hb23:=below2 hb2 hbW3;have HB3:=hid (below2 HB2.out hb23);have HA3:=hid (HA2.out.kept hb23);have HO3:=hid (HO2.out.kept hb23);clear hown hb2 hbW3 hAW3 hxv hvv hsW3 hb23 y0 y1 y2 y3 y4 y5 y6 y7 y8 y9 y10 y11
       go_upto_region 5 with fail
       obtain ⟨y0,y1,y2,y3,y4,y5,y6,y7,y8,y9,y10,y11⟩:=adr_twelve HXd.out HA3.out
       have ry0:=HO3.out.cell 0 _ rfl;have rz0:=HO3.out.frozen 0;have ry1:=HO3.out.cell 1 _ rfl;have rz1:=HO3.out.frozen 1;have ry2:=HO3.out.cell 2 _ rfl;have rz2:=HO3.out.frozen 2;have ry3:=HO3.out.cell 3 _ rfl;have rz3:=HO3.out.frozen 3
       cases sp with
       | false=>
         have HV:=hid (org_out_no HWb.out HSPe.out)
         go_wp2_with (go_at_call 129;refine (HSp.out _).mono ?_;rintro e wz ⟨rfl,hwz⟩;rw [← hwz];clear hwz)
         have hrg:=range_row (HO3.out.store (p:=Org.none));have hbl:=below_setCells (B:=w.heap.size) (b:=w.heap.size+1) (Nat.le_succ _) (orgCells Org.none) 0 _ HB3.out;rw [HV.out];refine bodyPost_ret (results_o1 rfl _ _ (w.heap.size+1) Org.none rfl ?_) rfl ⟨?_,?_⟩
         ·exact hrg
         ·rfl
         ·exact hbl
       | true=>
         have HV:=hid (org_out_yes HWb.out HSPe.out);clear y0 y1 y2 y3 y4 y5 y6 y7 y8 y9 y10 y11 ry0 rz0 ry1 rz1 ry2 rz2 ry3 rz3;obtain ⟨y0,y1,y2,y3,y4,y5,y6,y7,y8,y9,y10,y11⟩:=adr_twelve HXd.out HA3.out
         go_upto_region 7 with (go_at_call 129;refine (HSp.out _).mono ?_;rintro e wz ⟨rfl,hwz⟩;rw [← hwz];clear hwz)
         clear y0 y1 y2 y3 y4 y5 y6 y7 y8 y9 y10 y11;have HRd:=hid (show ∀ Z,Below w.heap.size w Z∧AdrIn Z w.heap.size u (.slice (some ⟨bb,0,none⟩) 1 dc)→Z.rangeAt w.heap.size 0 [.string d0,.string d1,.string d2,.string d3,.bool d4,.int .i64 d5,.bool true,.slice (some ⟨bb,0,none⟩) 1 dc,.string d8,.string d9,.bool d10,.bool d11] from fun Z hZ=>by
          have:=range_row hZ.2;rw [HXd.out] at this;exact this)
         have HKF:=hid (show ∀ Z,Below w.heap.size w Z∧AdrIn Z w.heap.size u (.slice (some ⟨bb,0,none⟩) 1 dc)→Z.cell? ⟨w.heap.size,0,none⟩=some (.string d0)∧Z.cell? ⟨w.heap.size,3,none⟩=some (.string d3) from fun Z hZ=>by
          have ha:=HRd.out Z hZ;exact ⟨ha 0 _ rfl,ha 3 _ rfl⟩)
         have HPt:=hid (fun (Z:World) (hZ:Below w.heap.size w Z∧AdrIn Z w.heap.size u (.slice (some ⟨bb,0,none⟩) 1 dc))=>rport_any u (.slice (some ⟨bb,0,none⟩) 1 dc) Z (HP0.out.kept hZ.1));rw [HVd.out] at HPt;obtain ⟨hp9,hHP⟩: ∃ p,hasP u=p:=⟨_,rfl⟩
         rw [hHP] at HPt HV;have HQ0:=hid (show Below w.heap.size w W3.drew∧AdrIn W3.drew w.heap.size u (.slice (some ⟨bb,0,none⟩) 1 dc) from ⟨HB3.out.drew,HA3.out⟩);have HO8:=hid (show OrgIn W3.drew (w.heap.size+1) Org.nil from HO3.out);clear hHP;refine wp_region_held_drew (S:=(fun wx=>Below w.heap.size w wx∧AdrIn wx w.heap.size u (.slice (some ⟨bb,0,none⟩) 1 dc))) (by kernel_rfl) HQ0.out (fun hHeld=> ?_)
         refine wpAnyH_to (fuel':=8) (listed':= #[false,false,false,false,false,false,false,false]) rfl rfl ?_
         refine' wpAnyH_take (i:=0) (oi:=⟨some 45,_,_,_,_,_⟩) (v:=_) rfl (by kernel_rfl) (by kernel_rfl) (by kernel_rfl) (fun _ _ _ h=>h) (Or.inl ⟨by kernel_rfl,?hyt3x3y1⟩) (by assumption) ?restt3x3y1
         case hyt3x3y1=>(intro wx hSw;(try dsimp only at hSw);obtain ⟨c0,c3⟩:=HKF.out _ hSw;go_simp;first | done | with_reducible rfl)
         (try simp only [Act.put,List.setIfInBounds_toArray,List.set_cons_zero,List.set_cons_succ])
         refine' wpAnyH_take (i:=1) (oi:=⟨some 46,_,_,_,_,_⟩) (v:=_) rfl (by kernel_rfl) (by kernel_rfl) (by kernel_rfl) (fun _ _ _ h=>h) (Or.inl ⟨by kernel_rfl,?hyt3x3y2⟩) (by assumption) ?restt3x3y2
         case hyt3x3y2=>(intro wx hSw;(try dsimp only at hSw);obtain ⟨c0,c3⟩:=HKF.out _ hSw;go_simp;first | done | with_reducible rfl)
         (try simp only [Act.put,List.setIfInBounds_toArray,List.set_cons_zero,List.set_cons_succ])
         refine' wpAnyH_take (i:=2) (oi:=⟨some 47,_,_,_,_,_⟩) (v:=_) rfl (by kernel_rfl) (by kernel_rfl) (by kernel_rfl) (fun _ _ _ h=>h) (Or.inl ⟨by kernel_rfl,?hyt3x3y3⟩) (by assumption) ?restt3x3y3
         case hyt3x3y3=>(intro wx hSw;(try dsimp only at hSw);obtain ⟨c0,c3⟩:=HKF.out _ hSw;go_simp;first | done | with_reducible rfl)
         (try simp only [Act.put,List.setIfInBounds_toArray,List.set_cons_zero,List.set_cons_succ])
         refine' wpAnyH_take (i:=3) (oi:=⟨some 48,_,_,_,_,_⟩) (v:=_) rfl (by kernel_rfl) (by kernel_rfl) (by kernel_rfl) (fun _ _ _ h=>h) (Or.inl ⟨by kernel_rfl,?hyt3x3y4⟩) (by assumption) ?restt3x3y4
         case hyt3x3y4=>(intro wx hSw;(try dsimp only at hSw);obtain ⟨c0,c3⟩:=HKF.out _ hSw;go_simp;first | done | with_reducible rfl)
         (try simp only [Act.put,List.setIfInBounds_toArray,List.set_cons_zero,List.set_cons_succ])
         refine wpAnyH_take (i:=4) (oi:=⟨some 49,_,_,_,_,_⟩) rfl (by kernel_rfl) (by kernel_rfl) (by kernel_rfl) (fun _ _ _ h=>h) (yieldsIf_load_mid (by kernel_rfl) 130 (.tmp 1) rfl (w.heap.size) 0 rfl [.string d0,.string d1,.string d2,.string d3,.bool d4,.int .i64 d5,.bool true,.slice (some ⟨bb,0,none⟩) 1 dc,.string d8,.string d9,.bool d10,.bool d11] _ HRd.out Tryz.underlying130 rfl sizeU) (by assumption) ?_
         (try simp only [Act.put,List.setIfInBounds_toArray,List.set_cons_zero,List.set_cons_succ])
         refine wpAnyH_ready (rs:=[5]) (by kernel_rfl) (by simp) ?_
         refine AllReadyH.cons rfl (fun K9 hK=> ?_) AllReadyH.nil;rw [if_pos (by kernel_rfl)]
         go_simp
         go_wp2_with (go_at_call 130;refine (HPt.out _ HQ0.out).mono ?_;rintro e w21 ⟨rfl,hba⟩)
         have HQ21:=hid (show Below w.heap.size w w21∧AdrIn w21 w.heap.size u (.slice (some ⟨bb,0,none⟩) 1 dc) from ⟨below2 HQ0.out.1 hba,HQ0.out.2.kept hba⟩);have HO9:=hid (HO8.out.kept hba);clear hba;refine hK.out _ _ HQ21.out (fun hHeld2=> ?_);clear hK K9 hHeld
         rename _=>hHeld
         refine' wpAnyH_take (i:=6) (oi:=⟨some 51,_,_,_,_,_⟩) (v:=_) rfl (by kernel_rfl) (by kernel_rfl) (by kernel_rfl) (fun _ _ _ h=>h) (Or.inl ⟨by kernel_rfl,?hyt3x3y5⟩) (by assumption) ?restt3x3y5
         case hyt3x3y5=>(intro wx hSw;(try dsimp only at hSw);obtain ⟨c0,c3⟩:=HKF.out _ hSw;go_simp;first | done | with_reducible rfl)
         (try simp only [Act.put,List.setIfInBounds_toArray,List.set_cons_zero,List.set_cons_succ])
         have ty0:=HO9.out.cell 0 _ rfl;have tz0:=HO9.out.frozen 0;have ty1:=HO9.out.cell 1 _ rfl;have tz1:=HO9.out.frozen 1;have ty2:=HO9.out.cell 2 _ rfl;have tz2:=HO9.out.frozen 2;have ty3:=HO9.out.cell 3 _ rfl;have tz3:=HO9.out.frozen 3;refine wpAnyH_ready (rs:=[7]) (by kernel_rfl) (by simp) ?_
         refine AllReadyH.cons rfl (fun K9 hK=> ?_) AllReadyH.nil;rw [if_pos (by kernel_rfl)]
         go_simp
         have HC:=hid (show orgCells ⟨u.scheme,u.host,hp9,false⟩=[.string d0,.string d3,.int .i64 hp9,.bool false] by unfold orgCells;rw [← HX0.out,← HX3.out]);have HQ22:=hid (show Below w.heap.size w (w21.setCells (w.heap.size+1) 0 (orgCells ⟨u.scheme,u.host,hp9,false⟩))∧AdrIn (w21.setCells (w.heap.size+1) 0 (orgCells ⟨u.scheme,u.host,hp9,false⟩)) w.heap.size u (.slice (some ⟨bb,0,none⟩) 1 dc) from
          ⟨below_setCells (B:=w.heap.size) (b:=w.heap.size+1) (Nat.le_succ _) _ 0 _ HQ21.out.1,AdrIn.fars (by omega) _ _ _ HQ21.out.2⟩)
         have HRo:=hid (range_row (HO9.out.store (p:=⟨u.scheme,u.host,hp9,false⟩)));rw [HC.out] at HQ22 HRo;refine hK.out _ _ HQ22.out (fun hHeld2=> ?_);refine wpAnyH_done (by kernel_rfl) ?_ _
         go_wp2
         rw [HV.out];refine bodyPost_ret (results_o1 rfl _ _ (w.heap.size+1) ⟨u.scheme,u.host,hp9,false⟩ rfl ?_) rfl ⟨?_,?_⟩
         ·rw [HC.out];exact HRo.out
         ·rfl
         ·exact HQ22.out.1
     | ok v=>
       simp only [numOf,adrOf] at HRd
       have HInV:=hid (HIn2.out v rfl);have hiv:innV u=v:=HInn.out;have HIv:=hid hiv;clear hiv;obtain ⟨y0,y1,y2,y3,y4,y5,y6,y7,y8,y9,y10,y11⟩:=adr_twelve HXd.out HA2.out
       go_enter Tryz.func79,Tryz.ntmps79
       go_wp2_with fail
       refine (HRd.out _).mono ?_;rintro e w2 ⟨qv,rfl,hown,hb2⟩
       obtain ⟨va,vn,vc,rfl⟩:=own_sl hown
       obtain ⟨v0,v1,v2,v3,v4,v5,v6,v8,v9,v10,v11,hxv,hv0,-,-,-⟩:=adr_named v va vn vc
       have hvv:adrVal v (.slice va vn vc) = .agg #[.string v0,.string v1,.string v2,.string v3,.bool v4,.int .i64 v5,.bool v6,.slice va vn vc,.string v8,.string v9,.bool v10,.bool v11]:=by unfold adrVal;rw [hxv]
       rw [hvv];obtain ⟨W3,hW3⟩: ∃ X,(w2.alloc (.cells #[.string v0,.string v1,.string v2,.string v3,.bool v4,.int .i64 v5,.bool v6,.slice va vn vc,.string v8,.string v9,.bool v10,.bool v11] 130))=X:=⟨_,rfl⟩
       have hbW3:Below w2.heap.size w2 W3:=by rw [← hW3];exact (Below.refl _ w2).alloc (Nat.le_refl _) _
       have hsW3:W3.heap.size=w2.heap.size+1:=by rw [← hW3];simp
       have hAW3:AdrIn W3 w2.heap.size v (.slice va vn vc):=by
        unfold AdrIn;rw [hxv,← hW3]
        exact heap_alloc_new w2 _
       have hb23:=below2 hb2 hbW3;have HB3:=hid (below2 HB2.out hb23);have HA3:=hid (HA2.out.kept hb23);have HO3:=hid (HO2.out.kept hb23);obtain ⟨z0,z1,z2,z3,z4,z5,z6,z7,z8,z9,z10,z11⟩:=adr_twelve hxv hAW3
       obtain ⟨g1,eg1⟩: ∃ q,(v0.toList==[104,116,116,112])=q:=⟨_,rfl⟩
       obtain ⟨g2,eg2⟩: ∃ q,(v0.toList==[104,116,116,112,115])=q:=⟨_,rfl⟩
       have hweb:webV v.scheme=(g1||g2):=by
        unfold webV;rw [← eg1,← eg2,Lib.toList_data,hv0];rfl
       have HWE:=hid hweb;have HPv:=hid ((own_path hown).kept hbW3);have HVv:=hid hvv;clear hown hb2 hbW3 hAW3 hxv hvv hsW3 hb23 y0 y1 y2 y3 y4 y5 y6 y7 y8 y9 y10 y11 hv0 hweb
       cases g1 with
       | true=>
         have HCa:=hid (HInV.out (by rw [HWE.out];rfl) (.slice va vn vc) W3 HPv.out);unfold OfPost at HCa;rw [HVv.out] at HCa;have HE:=hid (org_inn HIv.out (by rw [HWE.out];rfl));obtain ⟨OV,hOV⟩: ∃ O,orgV v=O:=⟨_,rfl⟩
         rw [hOV] at HCa HE;obtain ⟨oS,oH,oP,oQ,hvo,hxo⟩:=org_named4 OV
         rw [hvo] at HCa;have HXo:=hid hxo;have HVo:=hid hvo;clear hOV hxo hvo
         go_wp2_with fail
         refine HCa.out.mono ?_;rintro e w4 ⟨rfl,hb4⟩
         have HO4:=hid (HO3.out.kept hb4);have HB4:=hid (below2 HB3.out hb4);have ry0:=HO4.out.cell 0 _ rfl;have rz0:=HO4.out.frozen 0;have ry1:=HO4.out.cell 1 _ rfl;have rz1:=HO4.out.frozen 1;have ry2:=HO4.out.cell 2 _ rfl;have rz2:=HO4.out.frozen 2;have ry3:=HO4.out.cell 3 _ rfl;have rz3:=HO4.out.frozen 3;clear hb4 z0 z1 z2 z3 z4 z5 z6 z7 z8 z9 z10 z11
         go_wp2_with fail
         have hrg:=range_row (HO4.out.store (p:=OV));have hbl:=below_setCells (B:=w.heap.size) (b:=w.heap.size+1) (Nat.le_succ _) (orgCells OV) 0 _ HB4.out;rw [HXo.out] at hrg hbl;refine bodyPost_ret (results_o1 rfl _ _ (w.heap.size+1) OV rfl ?_) rfl ⟨?_,?_⟩
         ·rw [HXo.out];exact hrg
         ·rw [HE.out]
         ·exact hbl
       | false=>
         cases g2 with
         | true=>
           have HCa:=hid (HInV.out (by rw [HWE.out];rfl) (.slice va vn vc) W3 HPv.out);unfold OfPost at HCa;rw [HVv.out] at HCa;have HE:=hid (org_inn HIv.out (by rw [HWE.out];rfl));obtain ⟨OV,hOV⟩: ∃ O,orgV v=O:=⟨_,rfl⟩
           rw [hOV] at HCa HE;obtain ⟨oS,oH,oP,oQ,hvo,hxo⟩:=org_named4 OV
           rw [hvo] at HCa;have HXo:=hid hxo;have HVo:=hid hvo;clear hOV hxo hvo
           go_wp2_with fail
           refine HCa.out.mono ?_;rintro e w4 ⟨rfl,hb4⟩
           have HO4:=hid (HO3.out.kept hb4);have HB4:=hid (below2 HB3.out hb4);have ry0:=HO4.out.cell 0 _ rfl;have rz0:=HO4.out.frozen 0;have ry1:=HO4.out.cell 1 _ rfl;have rz1:=HO4.out.frozen 1;have ry2:=HO4.out.cell 2 _ rfl;have rz2:=HO4.out.frozen 2;have ry3:=HO4.out.cell 3 _ rfl;have rz3:=HO4.out.frozen 3;clear hb4 z0 z1 z2 z3 z4 z5 z6 z7 z8 z9 z10 z11
           go_wp2_with fail
           have hrg:=range_row (HO4.out.store (p:=OV));have hbl:=below_setCells (B:=w.heap.size) (b:=w.heap.size+1) (Nat.le_succ _) (orgCells OV) 0 _ HB4.out;rw [HXo.out] at hrg hbl;refine bodyPost_ret (results_o1 rfl _ _ (w.heap.size+1) OV rfl ?_) rfl ⟨?_,?_⟩
           ·rw [HXo.out];exact hrg
           ·rw [HE.out]
           ·exact hbl
         | false=>
           have HWb:=hid (show webV (innV u).scheme=false by rw [HIv.out,HWE.out];rfl)
           go_upto_region 5 with fail
           clear z0 z1 z2 z3 z4 z5 z6 z7 z8 z9 z10 z11;obtain ⟨y0,y1,y2,y3,y4,y5,y6,y7,y8,y9,y10,y11⟩:=adr_twelve HXd.out HA3.out
           have ry0:=HO3.out.cell 0 _ rfl;have rz0:=HO3.out.frozen 0;have ry1:=HO3.out.cell 1 _ rfl;have rz1:=HO3.out.frozen 1;have ry2:=HO3.out.cell 2 _ rfl;have rz2:=HO3.out.frozen 2;have ry3:=HO3.out.cell 3 _ rfl;have rz3:=HO3.out.frozen 3
           cases sp with
           | false=>
             have HV:=hid (org_out_no HWb.out HSPe.out)
             go_wp2_with (go_at_call 129;refine (HSp.out _).mono ?_;rintro e wz ⟨rfl,hwz⟩;rw [← hwz];clear hwz)
             have hrg:=range_row (HO3.out.store (p:=Org.none));have hbl:=below_setCells (B:=w.heap.size) (b:=w.heap.size+1) (Nat.le_succ _) (orgCells Org.none) 0 _ HB3.out;rw [HV.out];refine bodyPost_ret (results_o1 rfl _ _ (w.heap.size+1) Org.none rfl ?_) rfl ⟨?_,?_⟩
             ·exact hrg
             ·rfl
             ·exact hbl
           | true=>
             have HV:=hid (org_out_yes HWb.out HSPe.out);clear y0 y1 y2 y3 y4 y5 y6 y7 y8 y9 y10 y11 ry0 rz0 ry1 rz1 ry2 rz2 ry3 rz3;obtain ⟨y0,y1,y2,y3,y4,y5,y6,y7,y8,y9,y10,y11⟩:=adr_twelve HXd.out HA3.out
             go_upto_region 7 with (go_at_call 129;refine (HSp.out _).mono ?_;rintro e wz ⟨rfl,hwz⟩;rw [← hwz];clear hwz)
             clear y0 y1 y2 y3 y4 y5 y6 y7 y8 y9 y10 y11;have HRd:=hid (show ∀ Z,Below w.heap.size w Z∧AdrIn Z w.heap.size u (.slice (some ⟨bb,0,none⟩) 1 dc)→Z.rangeAt w.heap.size 0 [.string d0,.string d1,.string d2,.string d3,.bool d4,.int .i64 d5,.bool true,.slice (some ⟨bb,0,none⟩) 1 dc,.string d8,.string d9,.bool d10,.bool d11] from fun Z hZ=>by
              have:=range_row hZ.2;rw [HXd.out] at this;exact this)
             have HKF:=hid (show ∀ Z,Below w.heap.size w Z∧AdrIn Z w.heap.size u (.slice (some ⟨bb,0,none⟩) 1 dc)→Z.cell? ⟨w.heap.size,0,none⟩=some (.string d0)∧Z.cell? ⟨w.heap.size,3,none⟩=some (.string d3) from fun Z hZ=>by
              have ha:=HRd.out Z hZ;exact ⟨ha 0 _ rfl,ha 3 _ rfl⟩)
             have HPt:=hid (fun (Z:World) (hZ:Below w.heap.size w Z∧AdrIn Z w.heap.size u (.slice (some ⟨bb,0,none⟩) 1 dc))=>rport_any u (.slice (some ⟨bb,0,none⟩) 1 dc) Z (HP0.out.kept hZ.1));rw [HVd.out] at HPt;obtain ⟨hp9,hHP⟩: ∃ p,hasP u=p:=⟨_,rfl⟩
             rw [hHP] at HPt HV;have HQ0:=hid (show Below w.heap.size w W3.drew∧AdrIn W3.drew w.heap.size u (.slice (some ⟨bb,0,none⟩) 1 dc) from ⟨HB3.out.drew,HA3.out⟩);have HO8:=hid (show OrgIn W3.drew (w.heap.size+1) Org.nil from HO3.out);clear hHP;refine wp_region_held_drew (S:=(fun wx=>Below w.heap.size w wx∧AdrIn wx w.heap.size u (.slice (some ⟨bb,0,none⟩) 1 dc))) (by kernel_rfl) HQ0.out (fun hHeld=> ?_)
             refine wpAnyH_to (fuel':=8) (listed':= #[false,false,false,false,false,false,false,false]) rfl rfl ?_
             refine' wpAnyH_take (i:=0) (oi:=⟨some 45,_,_,_,_,_⟩) (v:=_) rfl (by kernel_rfl) (by kernel_rfl) (by kernel_rfl) (fun _ _ _ h=>h) (Or.inl ⟨by kernel_rfl,?hyt3x4y1⟩) (by assumption) ?restt3x4y1
             case hyt3x4y1=>(intro wx hSw;(try dsimp only at hSw);obtain ⟨c0,c3⟩:=HKF.out _ hSw;go_simp;first | done | with_reducible rfl)
             (try simp only [Act.put,List.setIfInBounds_toArray,List.set_cons_zero,List.set_cons_succ])
             refine' wpAnyH_take (i:=1) (oi:=⟨some 46,_,_,_,_,_⟩) (v:=_) rfl (by kernel_rfl) (by kernel_rfl) (by kernel_rfl) (fun _ _ _ h=>h) (Or.inl ⟨by kernel_rfl,?hyt3x4y2⟩) (by assumption) ?restt3x4y2
             case hyt3x4y2=>(intro wx hSw;(try dsimp only at hSw);obtain ⟨c0,c3⟩:=HKF.out _ hSw;go_simp;first | done | with_reducible rfl)
             (try simp only [Act.put,List.setIfInBounds_toArray,List.set_cons_zero,List.set_cons_succ])
             refine' wpAnyH_take (i:=2) (oi:=⟨some 47,_,_,_,_,_⟩) (v:=_) rfl (by kernel_rfl) (by kernel_rfl) (by kernel_rfl) (fun _ _ _ h=>h) (Or.inl ⟨by kernel_rfl,?hyt3x4y3⟩) (by assumption) ?restt3x4y3
             case hyt3x4y3=>(intro wx hSw;(try dsimp only at hSw);obtain ⟨c0,c3⟩:=HKF.out _ hSw;go_simp;first | done | with_reducible rfl)
             (try simp only [Act.put,List.setIfInBounds_toArray,List.set_cons_zero,List.set_cons_succ])
             refine' wpAnyH_take (i:=3) (oi:=⟨some 48,_,_,_,_,_⟩) (v:=_) rfl (by kernel_rfl) (by kernel_rfl) (by kernel_rfl) (fun _ _ _ h=>h) (Or.inl ⟨by kernel_rfl,?hyt3x4y4⟩) (by assumption) ?restt3x4y4
             case hyt3x4y4=>(intro wx hSw;(try dsimp only at hSw);obtain ⟨c0,c3⟩:=HKF.out _ hSw;go_simp;first | done | with_reducible rfl)
             (try simp only [Act.put,List.setIfInBounds_toArray,List.set_cons_zero,List.set_cons_succ])
             refine wpAnyH_take (i:=4) (oi:=⟨some 49,_,_,_,_,_⟩) rfl (by kernel_rfl) (by kernel_rfl) (by kernel_rfl) (fun _ _ _ h=>h) (yieldsIf_load_mid (by kernel_rfl) 130 (.tmp 1) rfl (w.heap.size) 0 rfl [.string d0,.string d1,.string d2,.string d3,.bool d4,.int .i64 d5,.bool true,.slice (some ⟨bb,0,none⟩) 1 dc,.string d8,.string d9,.bool d10,.bool d11] _ HRd.out Tryz.underlying130 rfl sizeU) (by assumption) ?_
             (try simp only [Act.put,List.setIfInBounds_toArray,List.set_cons_zero,List.set_cons_succ])
             refine wpAnyH_ready (rs:=[5]) (by kernel_rfl) (by simp) ?_
             refine AllReadyH.cons rfl (fun K9 hK=> ?_) AllReadyH.nil;rw [if_pos (by kernel_rfl)]
             go_simp
             go_wp2_with (go_at_call 130;refine (HPt.out _ HQ0.out).mono ?_;rintro e w21 ⟨rfl,hba⟩)
             have HQ21:=hid (show Below w.heap.size w w21∧AdrIn w21 w.heap.size u (.slice (some ⟨bb,0,none⟩) 1 dc) from ⟨below2 HQ0.out.1 hba,HQ0.out.2.kept hba⟩);have HO9:=hid (HO8.out.kept hba);clear hba;refine hK.out _ _ HQ21.out (fun hHeld2=> ?_);clear hK K9 hHeld
             rename _=>hHeld
             refine' wpAnyH_take (i:=6) (oi:=⟨some 51,_,_,_,_,_⟩) (v:=_) rfl (by kernel_rfl) (by kernel_rfl) (by kernel_rfl) (fun _ _ _ h=>h) (Or.inl ⟨by kernel_rfl,?hyt3x4y5⟩) (by assumption) ?restt3x4y5
             case hyt3x4y5=>(intro wx hSw;(try dsimp only at hSw);obtain ⟨c0,c3⟩:=HKF.out _ hSw;go_simp;first | done | with_reducible rfl)
             (try simp only [Act.put,List.setIfInBounds_toArray,List.set_cons_zero,List.set_cons_succ])
             have ty0:=HO9.out.cell 0 _ rfl;have tz0:=HO9.out.frozen 0;have ty1:=HO9.out.cell 1 _ rfl;have tz1:=HO9.out.frozen 1;have ty2:=HO9.out.cell 2 _ rfl;have tz2:=HO9.out.frozen 2;have ty3:=HO9.out.cell 3 _ rfl;have tz3:=HO9.out.frozen 3;refine wpAnyH_ready (rs:=[7]) (by kernel_rfl) (by simp) ?_
             refine AllReadyH.cons rfl (fun K9 hK=> ?_) AllReadyH.nil;rw [if_pos (by kernel_rfl)]
             go_simp
             have HC:=hid (show orgCells ⟨u.scheme,u.host,hp9,false⟩=[.string d0,.string d3,.int .i64 hp9,.bool false] by unfold orgCells;rw [← HX0.out,← HX3.out]);have HQ22:=hid (show Below w.heap.size w (w21.setCells (w.heap.size+1) 0 (orgCells ⟨u.scheme,u.host,hp9,false⟩))∧AdrIn (w21.setCells (w.heap.size+1) 0 (orgCells ⟨u.scheme,u.host,hp9,false⟩)) w.heap.size u (.slice (some ⟨bb,0,none⟩) 1 dc) from
              ⟨below_setCells (B:=w.heap.size) (b:=w.heap.size+1) (Nat.le_succ _) _ 0 _ HQ21.out.1,AdrIn.fars (by omega) _ _ _ HQ21.out.2⟩)
             have HRo:=hid (range_row (HO9.out.store (p:=⟨u.scheme,u.host,hp9,false⟩)));rw [HC.out] at HQ22 HRo;refine hK.out _ _ HQ22.out (fun hHeld2=> ?_);refine wpAnyH_done (by kernel_rfl) ?_ _
             go_wp2
             rw [HV.out];refine bodyPost_ret (results_o1 rfl _ _ (w.heap.size+1) ⟨u.scheme,u.host,hp9,false⟩ rfl ?_) rfl ⟨?_,?_⟩
             ·rw [HC.out];exact HRo.out
             ·rfl
             ·exact HQ22.out.1

theorem rof4_web (u:Adr) (pv:Value) (w:World) (hp:PathAt w pv u.path) (ht:TrOk u) (hw:webV u.scheme=true):Calls Tryz.prog 79 #[adrVal u pv] w (OfPost (orgV u) w):=
 rof4_step u pv w hp ht.2.1 (fun h=>absurd h (web_blob hw)) (fun v h=>absurd h (web_blob hw))

theorem rof4_any (u:Adr) (pv:Value) (w:World) (hp:PathAt w pv u.path) (ht:TrOk u) (h1:u.scheme=sBlob→u.opq=true → ∃ x,u.path=[x]):Calls Tryz.prog 79 #[adrVal u pv] w (OfPost (orgV u) w):=
 rof4_step u pv w hp ht.2.1 h1 (fun v _ _ hr hw qv X hX=>rof4_web v qv X hX (slim_tr (parse_slim hr)) hw)

end Go.Proofs.YtolioccofbhliaaGreatDoor

namespace Go.Proofs.YtolioccofbhliaaGreatDoor
open Go.RowKit

theorem tr_zero4:TrOk Adr.zero:=⟨by decide,by decide,by decide⟩

theorem tr_read (s:List UInt8):TrOk (adrOf (readV s none)):=by
 cases hr:readV s none with
 | ok v=>exact slim_tr (parse_slim hr)
 | error e=>exact tr_zero4

def ofT (s:List UInt8):Org:=orgV (adrOf (urlV s))

end Go.Proofs.YtolioccofbhliaaGreatDoor
