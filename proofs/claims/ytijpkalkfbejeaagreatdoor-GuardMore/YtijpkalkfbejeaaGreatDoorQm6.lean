/- Walks and plain facts. -/
import Derived.Test.YtijpkalkfbejeaaGreatDoorQm5
set_option linter.unusedSimpArgs false
set_option linter.unusedVariables false
set_option maxHeartbeats 16000000
set_option maxRecDepth 100000

namespace Go.Proofs.YtijpkalkfbejeaaGreatDoor
open Go.RowKit
theorem infoS10:(Tryz.prog.info? 9).map (fun i=>(i.zero,i.size,i.bytes))=some (some (.string ByteArray.empty),1,16):=by kernel_rfl
def OwnT (L:List (List UInt8)) (w:World) (e:Ending) (w':World):Prop:= ∃ v,e = .returned v/\w'.ownsRow w.heap.size 9 1 v L.length (cellsT L)/\Below w.heap.size w w'
theorem beq_no10 (a:ByteArray) (l:List UInt8) (h:a.data.toList≠l):(a.toList==l)=false:=by
 rw [Lib.toList_data,beq_eq_false_iff_ne];exact h
theorem wider_nSe (w:World):Calls Tryz.prog 92 #[.string ⟨#[115,99,114,105,112,116,45,115,114,99,45,101,108,101,109]⟩] w fun e w'=>e = .returned (.string ⟨#[115,99,114,105,112,116,45,115,114,99]⟩)/\w=w':=by
 go_enter Tryz.func92,Tryz.ntmps92
 go_wp2
 go_ret
 exact ⟨rfl,rfl⟩
theorem wider_nYe (w:World):Calls Tryz.prog 92 #[.string ⟨#[115,116,121,108,101,45,115,114,99,45,101,108,101,109]⟩] w fun e w'=>e = .returned (.string ⟨#[115,116,121,108,101,45,115,114,99]⟩)/\w=w':=by
 go_enter Tryz.func92,Tryz.ntmps92
 go_wp2
 go_ret
 exact ⟨rfl,rfl⟩
theorem wider_nCh (w:World):Calls Tryz.prog 92 #[.string ⟨#[99,104,105,108,100,45,115,114,99]⟩] w fun e w'=>e = .returned (.string ⟨#[115,99,114,105,112,116,45,115,114,99]⟩)/\w=w':=by
 go_enter Tryz.func92,Tryz.ntmps92
 go_wp2
 go_ret
 exact ⟨rfl,rfl⟩
theorem wider_nFr (w:World):Calls Tryz.prog 92 #[.string ⟨#[102,114,97,109,101,45,115,114,99]⟩] w fun e w'=>e = .returned (.string ⟨#[99,104,105,108,100,45,115,114,99]⟩)/\w=w':=by
 go_enter Tryz.func92,Tryz.ntmps92
 go_wp2
 go_ret
 exact ⟨rfl,rfl⟩
theorem chain_nSe (w:World):Calls Tryz.prog 74 #[.string ⟨#[115,99,114,105,112,116,45,115,114,99,45,101,108,101,109]⟩] w (OwnT [nSe,nSc,nDe] w):=by
 obtain ⟨i0,hi,hz0,hz1,hz2⟩:=info_parts infoS10
 go_enter Tryz.func74,Tryz.ntmps74
 go_wp2_with (at_builtin;refine wpList_append_own _ rfl _ _ 22 rfl w.heap.size 9 i0 (.string ⟨#[]⟩) 1 16 Tryz.underlying22 hi hz0 hz1 hz2 rfl (by decide) _ 0 _ rfl (World.ownsRow_nil _ _ _ _) ⟨w.heap.size,0,none⟩ 1 1 [.string ⟨#[115,99,114,105,112,116,45,115,114,99,45,101,108,101,109]⟩] rfl rfl ?c01 ?c02 (by decide) (by decide) (by simp) ?_)
 case c01=>
  intro q u hq
  match q,hq with
  | 0,hq=>simp at hq;subst hq;simp [Addr.add]
 case c02=>intro u hu;simp at hu;subst hu;rfl
 intro v1 w1 hown hgrow hnil;have HO1:=hid hown;have HB1:=hid (show Below w.heap.size w w1 from ((Below.refl _ w).alloc (Nat.le_refl _) _).grown hgrow (by simp) (fun k hk=>by simp [Value.ownBlock] at hk));clear hown hgrow hnil
 go_wp2_with fail
 refine (wider_nSe _).mono ?_;rintro e wz ⟨rfl,rfl⟩
 go_wp2_with (at_builtin;refine wpList_append_own _ rfl _ _ 22 rfl w.heap.size 9 i0 (.string ⟨#[]⟩) 1 16 Tryz.underlying22 hi hz0 hz1 hz2 rfl (by decide) _ 1 _ rfl ((HO1.out.alloc _)) ⟨w1.heap.size,0,none⟩ 1 1 [.string ⟨#[115,99,114,105,112,116,45,115,114,99]⟩] rfl rfl ?c11 ?c12 (by decide) (by decide) (by have:=HB1.out.size;simp;omega) ?_)
 case c11=>
  intro q u hq
  match q,hq with
  | 0,hq=>simp at hq;subst hq;simp [Addr.add]
 case c12=>intro u hu;simp at hu;subst hu;rfl
 intro v2 w2 hown hgrow hnil;have HO2:=hid hown;have HB2:=hid (show Below w.heap.size w w2 from (HB1.out.alloc HB1.out.size _).grown hgrow (by have:=HB1.out.size;simp;omega) (fun k hk=>(HO1.out.lt k hk).1));clear hown hgrow hnil
 go_wp2_with (at_builtin;refine wpList_append_own _ rfl _ _ 22 rfl w.heap.size 9 i0 (.string ⟨#[]⟩) 1 16 Tryz.underlying22 hi hz0 hz1 hz2 rfl (by decide) _ 2 _ rfl ((HO2.out.alloc _)) ⟨w2.heap.size,0,none⟩ 1 1 [.string ⟨#[100,101,102,97,117,108,116,45,115,114,99]⟩] rfl rfl ?c21 ?c22 (by decide) (by decide) (by have:=HB2.out.size;simp;omega) ?_)
 case c21=>
  intro q u hq
  match q,hq with
  | 0,hq=>simp at hq;subst hq;simp [Addr.add]
 case c22=>intro u hu;simp at hu;subst hu;rfl
 intro v3 w3 hown hgrow hnil;have HO3:=hid hown;have HB3:=hid (show Below w.heap.size w w3 from (HB2.out.alloc HB2.out.size _).grown hgrow (by have:=HB2.out.size;simp;omega) (fun k hk=>(HO2.out.lt k hk).1));clear hown hgrow hnil
 go_wp2_with fail
 go_ret
 exact ⟨v3,rfl,HO3.out,HB3.out⟩
theorem chain_nYe (w:World):Calls Tryz.prog 74 #[.string ⟨#[115,116,121,108,101,45,115,114,99,45,101,108,101,109]⟩] w (OwnT [nYe,nSt,nDe] w):=by
 obtain ⟨i0,hi,hz0,hz1,hz2⟩:=info_parts infoS10
 go_enter Tryz.func74,Tryz.ntmps74
 go_wp2_with (at_builtin;refine wpList_append_own _ rfl _ _ 22 rfl w.heap.size 9 i0 (.string ⟨#[]⟩) 1 16 Tryz.underlying22 hi hz0 hz1 hz2 rfl (by decide) _ 0 _ rfl (World.ownsRow_nil _ _ _ _) ⟨w.heap.size,0,none⟩ 1 1 [.string ⟨#[115,116,121,108,101,45,115,114,99,45,101,108,101,109]⟩] rfl rfl ?c01 ?c02 (by decide) (by decide) (by simp) ?_)
 case c01=>
  intro q u hq
  match q,hq with
  | 0,hq=>simp at hq;subst hq;simp [Addr.add]
 case c02=>intro u hu;simp at hu;subst hu;rfl
 intro v1 w1 hown hgrow hnil;have HO1:=hid hown;have HB1:=hid (show Below w.heap.size w w1 from ((Below.refl _ w).alloc (Nat.le_refl _) _).grown hgrow (by simp) (fun k hk=>by simp [Value.ownBlock] at hk));clear hown hgrow hnil
 go_wp2_with fail
 refine (wider_nYe _).mono ?_;rintro e wz ⟨rfl,rfl⟩
 go_wp2_with (at_builtin;refine wpList_append_own _ rfl _ _ 22 rfl w.heap.size 9 i0 (.string ⟨#[]⟩) 1 16 Tryz.underlying22 hi hz0 hz1 hz2 rfl (by decide) _ 1 _ rfl ((HO1.out.alloc _)) ⟨w1.heap.size,0,none⟩ 1 1 [.string ⟨#[115,116,121,108,101,45,115,114,99]⟩] rfl rfl ?c11 ?c12 (by decide) (by decide) (by have:=HB1.out.size;simp;omega) ?_)
 case c11=>
  intro q u hq
  match q,hq with
  | 0,hq=>simp at hq;subst hq;simp [Addr.add]
 case c12=>intro u hu;simp at hu;subst hu;rfl
 intro v2 w2 hown hgrow hnil;have HO2:=hid hown;have HB2:=hid (show Below w.heap.size w w2 from (HB1.out.alloc HB1.out.size _).grown hgrow (by have:=HB1.out.size;simp;omega) (fun k hk=>(HO1.out.lt k hk).1));clear hown hgrow hnil
 go_wp2_with (at_builtin;refine wpList_append_own _ rfl _ _ 22 rfl w.heap.size 9 i0 (.string ⟨#[]⟩) 1 16 Tryz.underlying22 hi hz0 hz1 hz2 rfl (by decide) _ 2 _ rfl ((HO2.out.alloc _)) ⟨w2.heap.size,0,none⟩ 1 1 [.string ⟨#[100,101,102,97,117,108,116,45,115,114,99]⟩] rfl rfl ?c21 ?c22 (by decide) (by decide) (by have:=HB2.out.size;simp;omega) ?_)
 case c21=>
  intro q u hq
  match q,hq with
  | 0,hq=>simp at hq;subst hq;simp [Addr.add]
 case c22=>intro u hu;simp at hu;subst hu;rfl
 intro v3 w3 hown hgrow hnil;have HO3:=hid hown;have HB3:=hid (show Below w.heap.size w w3 from (HB2.out.alloc HB2.out.size _).grown hgrow (by have:=HB2.out.size;simp;omega) (fun k hk=>(HO2.out.lt k hk).1));clear hown hgrow hnil
 go_wp2_with fail
 go_ret
 exact ⟨v3,rfl,HO3.out,HB3.out⟩
theorem chain_nWk (w:World):Calls Tryz.prog 74 #[.string ⟨#[119,111,114,107,101,114,45,115,114,99]⟩] w (OwnT [nWk,nCh,nSc,nDe] w):=by
 obtain ⟨i0,hi,hz0,hz1,hz2⟩:=info_parts infoS10
 go_enter Tryz.func74,Tryz.ntmps74
 go_wp2_with (at_builtin;refine wpList_append_own _ rfl _ _ 22 rfl w.heap.size 9 i0 (.string ⟨#[]⟩) 1 16 Tryz.underlying22 hi hz0 hz1 hz2 rfl (by decide) _ 0 _ rfl (World.ownsRow_nil _ _ _ _) ⟨w.heap.size,0,none⟩ 1 1 [.string ⟨#[119,111,114,107,101,114,45,115,114,99]⟩] rfl rfl ?c01 ?c02 (by decide) (by decide) (by simp) ?_)
 case c01=>
  intro q u hq
  match q,hq with
  | 0,hq=>simp at hq;subst hq;simp [Addr.add]
 case c02=>intro u hu;simp at hu;subst hu;rfl
 intro v1 w1 hown hgrow hnil;have HO1:=hid hown;have HB1:=hid (show Below w.heap.size w w1 from ((Below.refl _ w).alloc (Nat.le_refl _) _).grown hgrow (by simp) (fun k hk=>by simp [Value.ownBlock] at hk));clear hown hgrow hnil
 go_wp2_with (at_builtin;refine wpList_append_own _ rfl _ _ 22 rfl w.heap.size 9 i0 (.string ⟨#[]⟩) 1 16 Tryz.underlying22 hi hz0 hz1 hz2 rfl (by decide) _ 1 _ rfl ((HO1.out.alloc _)) ⟨w1.heap.size,0,none⟩ 1 1 [.string ⟨#[99,104,105,108,100,45,115,114,99]⟩] rfl rfl ?c11 ?c12 (by decide) (by decide) (by have:=HB1.out.size;simp;omega) ?_)
 case c11=>
  intro q u hq
  match q,hq with
  | 0,hq=>simp at hq;subst hq;simp [Addr.add]
 case c12=>intro u hu;simp at hu;subst hu;rfl
 intro v2 w2 hown hgrow hnil;have HO2:=hid hown;have HB2:=hid (show Below w.heap.size w w2 from (HB1.out.alloc HB1.out.size _).grown hgrow (by have:=HB1.out.size;simp;omega) (fun k hk=>(HO1.out.lt k hk).1));clear hown hgrow hnil
 go_wp2_with fail
 refine (wider_nCh _).mono ?_;rintro e wz ⟨rfl,rfl⟩
 go_wp2_with (at_builtin;refine wpList_append_own _ rfl _ _ 22 rfl w.heap.size 9 i0 (.string ⟨#[]⟩) 1 16 Tryz.underlying22 hi hz0 hz1 hz2 rfl (by decide) _ 2 _ rfl ((HO2.out.alloc _)) ⟨w2.heap.size,0,none⟩ 1 1 [.string ⟨#[115,99,114,105,112,116,45,115,114,99]⟩] rfl rfl ?c21 ?c22 (by decide) (by decide) (by have:=HB2.out.size;simp;omega) ?_)
 case c21=>
  intro q u hq
  match q,hq with
  | 0,hq=>simp at hq;subst hq;simp [Addr.add]
 case c22=>intro u hu;simp at hu;subst hu;rfl
 intro v3 w3 hown hgrow hnil;have HO3:=hid hown;have HB3:=hid (show Below w.heap.size w w3 from (HB2.out.alloc HB2.out.size _).grown hgrow (by have:=HB2.out.size;simp;omega) (fun k hk=>(HO2.out.lt k hk).1));clear hown hgrow hnil
 go_wp2_with (at_builtin;refine wpList_append_own _ rfl _ _ 22 rfl w.heap.size 9 i0 (.string ⟨#[]⟩) 1 16 Tryz.underlying22 hi hz0 hz1 hz2 rfl (by decide) _ 3 _ rfl ((HO3.out.alloc _)) ⟨w3.heap.size,0,none⟩ 1 1 [.string ⟨#[100,101,102,97,117,108,116,45,115,114,99]⟩] rfl rfl ?c31 ?c32 (by decide) (by decide) (by have:=HB3.out.size;simp;omega) ?_)
 case c31=>
  intro q u hq
  match q,hq with
  | 0,hq=>simp at hq;subst hq;simp [Addr.add]
 case c32=>intro u hu;simp at hu;subst hu;rfl
 intro v4 w4 hown hgrow hnil;have HO4:=hid hown;have HB4:=hid (show Below w.heap.size w w4 from (HB3.out.alloc HB3.out.size _).grown hgrow (by have:=HB3.out.size;simp;omega) (fun k hk=>(HO3.out.lt k hk).1));clear hown hgrow hnil
 go_wp2_with fail
 go_ret
 exact ⟨v4,rfl,HO4.out,HB4.out⟩
theorem chain_nFr (w:World):Calls Tryz.prog 74 #[.string ⟨#[102,114,97,109,101,45,115,114,99]⟩] w (OwnT [nFr,nCh,nDe] w):=by
 obtain ⟨i0,hi,hz0,hz1,hz2⟩:=info_parts infoS10
 go_enter Tryz.func74,Tryz.ntmps74
 go_wp2_with (at_builtin;refine wpList_append_own _ rfl _ _ 22 rfl w.heap.size 9 i0 (.string ⟨#[]⟩) 1 16 Tryz.underlying22 hi hz0 hz1 hz2 rfl (by decide) _ 0 _ rfl (World.ownsRow_nil _ _ _ _) ⟨w.heap.size,0,none⟩ 1 1 [.string ⟨#[102,114,97,109,101,45,115,114,99]⟩] rfl rfl ?c01 ?c02 (by decide) (by decide) (by simp) ?_)
 case c01=>
  intro q u hq
  match q,hq with
  | 0,hq=>simp at hq;subst hq;simp [Addr.add]
 case c02=>intro u hu;simp at hu;subst hu;rfl
 intro v1 w1 hown hgrow hnil;have HO1:=hid hown;have HB1:=hid (show Below w.heap.size w w1 from ((Below.refl _ w).alloc (Nat.le_refl _) _).grown hgrow (by simp) (fun k hk=>by simp [Value.ownBlock] at hk));clear hown hgrow hnil
 go_wp2_with fail
 refine (wider_nFr _).mono ?_;rintro e wz ⟨rfl,rfl⟩
 go_wp2_with (at_builtin;refine wpList_append_own _ rfl _ _ 22 rfl w.heap.size 9 i0 (.string ⟨#[]⟩) 1 16 Tryz.underlying22 hi hz0 hz1 hz2 rfl (by decide) _ 1 _ rfl ((HO1.out.alloc _)) ⟨w1.heap.size,0,none⟩ 1 1 [.string ⟨#[99,104,105,108,100,45,115,114,99]⟩] rfl rfl ?c11 ?c12 (by decide) (by decide) (by have:=HB1.out.size;simp;omega) ?_)
 case c11=>
  intro q u hq
  match q,hq with
  | 0,hq=>simp at hq;subst hq;simp [Addr.add]
 case c12=>intro u hu;simp at hu;subst hu;rfl
 intro v2 w2 hown hgrow hnil;have HO2:=hid hown;have HB2:=hid (show Below w.heap.size w w2 from (HB1.out.alloc HB1.out.size _).grown hgrow (by have:=HB1.out.size;simp;omega) (fun k hk=>(HO1.out.lt k hk).1));clear hown hgrow hnil
 go_wp2_with (at_builtin;refine wpList_append_own _ rfl _ _ 22 rfl w.heap.size 9 i0 (.string ⟨#[]⟩) 1 16 Tryz.underlying22 hi hz0 hz1 hz2 rfl (by decide) _ 2 _ rfl ((HO2.out.alloc _)) ⟨w2.heap.size,0,none⟩ 1 1 [.string ⟨#[100,101,102,97,117,108,116,45,115,114,99]⟩] rfl rfl ?c21 ?c22 (by decide) (by decide) (by have:=HB2.out.size;simp;omega) ?_)
 case c21=>
  intro q u hq
  match q,hq with
  | 0,hq=>simp at hq;subst hq;simp [Addr.add]
 case c22=>intro u hu;simp at hu;subst hu;rfl
 intro v3 w3 hown hgrow hnil;have HO3:=hid hown;have HB3:=hid (show Below w.heap.size w w3 from (HB2.out.alloc HB2.out.size _).grown hgrow (by have:=HB2.out.size;simp;omega) (fun k hk=>(HO2.out.lt k hk).1));clear hown hgrow hnil
 go_wp2_with fail
 go_ret
 exact ⟨v3,rfl,HO3.out,HB3.out⟩
theorem chain_nCo (w:World):Calls Tryz.prog 74 #[.string ⟨#[99,111,110,110,101,99,116,45,115,114,99]⟩] w (OwnT [nCo,nDe] w):=by
 obtain ⟨i0,hi,hz0,hz1,hz2⟩:=info_parts infoS10
 go_enter Tryz.func74,Tryz.ntmps74
 go_wp2_with (at_builtin;refine wpList_append_own _ rfl _ _ 22 rfl w.heap.size 9 i0 (.string ⟨#[]⟩) 1 16 Tryz.underlying22 hi hz0 hz1 hz2 rfl (by decide) _ 0 _ rfl (World.ownsRow_nil _ _ _ _) ⟨w.heap.size,0,none⟩ 1 1 [.string ⟨#[99,111,110,110,101,99,116,45,115,114,99]⟩] rfl rfl ?c01 ?c02 (by decide) (by decide) (by simp) ?_)
 case c01=>
  intro q u hq
  match q,hq with
  | 0,hq=>simp at hq;subst hq;simp [Addr.add]
 case c02=>intro u hu;simp at hu;subst hu;rfl
 intro v1 w1 hown hgrow hnil;have HO1:=hid hown;have HB1:=hid (show Below w.heap.size w w1 from ((Below.refl _ w).alloc (Nat.le_refl _) _).grown hgrow (by simp) (fun k hk=>by simp [Value.ownBlock] at hk));clear hown hgrow hnil
 go_wp2_with (at_builtin;refine wpList_append_own _ rfl _ _ 22 rfl w.heap.size 9 i0 (.string ⟨#[]⟩) 1 16 Tryz.underlying22 hi hz0 hz1 hz2 rfl (by decide) _ 1 _ rfl ((HO1.out.alloc _)) ⟨w1.heap.size,0,none⟩ 1 1 [.string ⟨#[100,101,102,97,117,108,116,45,115,114,99]⟩] rfl rfl ?c11 ?c12 (by decide) (by decide) (by have:=HB1.out.size;simp;omega) ?_)
 case c11=>
  intro q u hq
  match q,hq with
  | 0,hq=>simp at hq;subst hq;simp [Addr.add]
 case c12=>intro u hu;simp at hu;subst hu;rfl
 intro v2 w2 hown hgrow hnil;have HO2:=hid hown;have HB2:=hid (show Below w.heap.size w w2 from (HB1.out.alloc HB1.out.size _).grown hgrow (by have:=HB1.out.size;simp;omega) (fun k hk=>(HO1.out.lt k hk).1));clear hown hgrow hnil
 go_wp2_with fail
 go_ret
 exact ⟨v2,rfl,HO2.out,HB2.out⟩
theorem chain_nFo (w:World):Calls Tryz.prog 74 #[.string ⟨#[102,111,110,116,45,115,114,99]⟩] w (OwnT [nFo,nDe] w):=by
 obtain ⟨i0,hi,hz0,hz1,hz2⟩:=info_parts infoS10
 go_enter Tryz.func74,Tryz.ntmps74
 go_wp2_with (at_builtin;refine wpList_append_own _ rfl _ _ 22 rfl w.heap.size 9 i0 (.string ⟨#[]⟩) 1 16 Tryz.underlying22 hi hz0 hz1 hz2 rfl (by decide) _ 0 _ rfl (World.ownsRow_nil _ _ _ _) ⟨w.heap.size,0,none⟩ 1 1 [.string ⟨#[102,111,110,116,45,115,114,99]⟩] rfl rfl ?c01 ?c02 (by decide) (by decide) (by simp) ?_)
 case c01=>
  intro q u hq
  match q,hq with
  | 0,hq=>simp at hq;subst hq;simp [Addr.add]
 case c02=>intro u hu;simp at hu;subst hu;rfl
 intro v1 w1 hown hgrow hnil;have HO1:=hid hown;have HB1:=hid (show Below w.heap.size w w1 from ((Below.refl _ w).alloc (Nat.le_refl _) _).grown hgrow (by simp) (fun k hk=>by simp [Value.ownBlock] at hk));clear hown hgrow hnil
 go_wp2_with (at_builtin;refine wpList_append_own _ rfl _ _ 22 rfl w.heap.size 9 i0 (.string ⟨#[]⟩) 1 16 Tryz.underlying22 hi hz0 hz1 hz2 rfl (by decide) _ 1 _ rfl ((HO1.out.alloc _)) ⟨w1.heap.size,0,none⟩ 1 1 [.string ⟨#[100,101,102,97,117,108,116,45,115,114,99]⟩] rfl rfl ?c11 ?c12 (by decide) (by decide) (by have:=HB1.out.size;simp;omega) ?_)
 case c11=>
  intro q u hq
  match q,hq with
  | 0,hq=>simp at hq;subst hq;simp [Addr.add]
 case c12=>intro u hu;simp at hu;subst hu;rfl
 intro v2 w2 hown hgrow hnil;have HO2:=hid hown;have HB2:=hid (show Below w.heap.size w w2 from (HB1.out.alloc HB1.out.size _).grown hgrow (by have:=HB1.out.size;simp;omega) (fun k hk=>(HO1.out.lt k hk).1));clear hown hgrow hnil
 go_wp2_with fail
 go_ret
 exact ⟨v2,rfl,HO2.out,HB2.out⟩
theorem chain_nIm (w:World):Calls Tryz.prog 74 #[.string ⟨#[105,109,103,45,115,114,99]⟩] w (OwnT [nIm,nDe] w):=by
 obtain ⟨i0,hi,hz0,hz1,hz2⟩:=info_parts infoS10
 go_enter Tryz.func74,Tryz.ntmps74
 go_wp2_with (at_builtin;refine wpList_append_own _ rfl _ _ 22 rfl w.heap.size 9 i0 (.string ⟨#[]⟩) 1 16 Tryz.underlying22 hi hz0 hz1 hz2 rfl (by decide) _ 0 _ rfl (World.ownsRow_nil _ _ _ _) ⟨w.heap.size,0,none⟩ 1 1 [.string ⟨#[105,109,103,45,115,114,99]⟩] rfl rfl ?c01 ?c02 (by decide) (by decide) (by simp) ?_)
 case c01=>
  intro q u hq
  match q,hq with
  | 0,hq=>simp at hq;subst hq;simp [Addr.add]
 case c02=>intro u hu;simp at hu;subst hu;rfl
 intro v1 w1 hown hgrow hnil;have HO1:=hid hown;have HB1:=hid (show Below w.heap.size w w1 from ((Below.refl _ w).alloc (Nat.le_refl _) _).grown hgrow (by simp) (fun k hk=>by simp [Value.ownBlock] at hk));clear hown hgrow hnil
 go_wp2_with (at_builtin;refine wpList_append_own _ rfl _ _ 22 rfl w.heap.size 9 i0 (.string ⟨#[]⟩) 1 16 Tryz.underlying22 hi hz0 hz1 hz2 rfl (by decide) _ 1 _ rfl ((HO1.out.alloc _)) ⟨w1.heap.size,0,none⟩ 1 1 [.string ⟨#[100,101,102,97,117,108,116,45,115,114,99]⟩] rfl rfl ?c11 ?c12 (by decide) (by decide) (by have:=HB1.out.size;simp;omega) ?_)
 case c11=>
  intro q u hq
  match q,hq with
  | 0,hq=>simp at hq;subst hq;simp [Addr.add]
 case c12=>intro u hu;simp at hu;subst hu;rfl
 intro v2 w2 hown hgrow hnil;have HO2:=hid hown;have HB2:=hid (show Below w.heap.size w w2 from (HB1.out.alloc HB1.out.size _).grown hgrow (by have:=HB1.out.size;simp;omega) (fun k hk=>(HO1.out.lt k hk).1));clear hown hgrow hnil
 go_wp2_with fail
 go_ret
 exact ⟨v2,rfl,HO2.out,HB2.out⟩
theorem chain_nMe (w:World):Calls Tryz.prog 74 #[.string ⟨#[109,101,100,105,97,45,115,114,99]⟩] w (OwnT [nMe,nDe] w):=by
 obtain ⟨i0,hi,hz0,hz1,hz2⟩:=info_parts infoS10
 go_enter Tryz.func74,Tryz.ntmps74
 go_wp2_with (at_builtin;refine wpList_append_own _ rfl _ _ 22 rfl w.heap.size 9 i0 (.string ⟨#[]⟩) 1 16 Tryz.underlying22 hi hz0 hz1 hz2 rfl (by decide) _ 0 _ rfl (World.ownsRow_nil _ _ _ _) ⟨w.heap.size,0,none⟩ 1 1 [.string ⟨#[109,101,100,105,97,45,115,114,99]⟩] rfl rfl ?c01 ?c02 (by decide) (by decide) (by simp) ?_)
 case c01=>
  intro q u hq
  match q,hq with
  | 0,hq=>simp at hq;subst hq;simp [Addr.add]
 case c02=>intro u hu;simp at hu;subst hu;rfl
 intro v1 w1 hown hgrow hnil;have HO1:=hid hown;have HB1:=hid (show Below w.heap.size w w1 from ((Below.refl _ w).alloc (Nat.le_refl _) _).grown hgrow (by simp) (fun k hk=>by simp [Value.ownBlock] at hk));clear hown hgrow hnil
 go_wp2_with (at_builtin;refine wpList_append_own _ rfl _ _ 22 rfl w.heap.size 9 i0 (.string ⟨#[]⟩) 1 16 Tryz.underlying22 hi hz0 hz1 hz2 rfl (by decide) _ 1 _ rfl ((HO1.out.alloc _)) ⟨w1.heap.size,0,none⟩ 1 1 [.string ⟨#[100,101,102,97,117,108,116,45,115,114,99]⟩] rfl rfl ?c11 ?c12 (by decide) (by decide) (by have:=HB1.out.size;simp;omega) ?_)
 case c11=>
  intro q u hq
  match q,hq with
  | 0,hq=>simp at hq;subst hq;simp [Addr.add]
 case c12=>intro u hu;simp at hu;subst hu;rfl
 intro v2 w2 hown hgrow hnil;have HO2:=hid hown;have HB2:=hid (show Below w.heap.size w w2 from (HB1.out.alloc HB1.out.size _).grown hgrow (by have:=HB1.out.size;simp;omega) (fun k hk=>(HO1.out.lt k hk).1));clear hown hgrow hnil
 go_wp2_with fail
 go_ret
 exact ⟨v2,rfl,HO2.out,HB2.out⟩
theorem chain_nSc (w:World):Calls Tryz.prog 74 #[.string ⟨#[115,99,114,105,112,116,45,115,114,99]⟩] w (OwnT [nSc,nDe] w):=by
 obtain ⟨i0,hi,hz0,hz1,hz2⟩:=info_parts infoS10
 go_enter Tryz.func74,Tryz.ntmps74
 go_wp2_with (at_builtin;refine wpList_append_own _ rfl _ _ 22 rfl w.heap.size 9 i0 (.string ⟨#[]⟩) 1 16 Tryz.underlying22 hi hz0 hz1 hz2 rfl (by decide) _ 0 _ rfl (World.ownsRow_nil _ _ _ _) ⟨w.heap.size,0,none⟩ 1 1 [.string ⟨#[115,99,114,105,112,116,45,115,114,99]⟩] rfl rfl ?c01 ?c02 (by decide) (by decide) (by simp) ?_)
 case c01=>
  intro q u hq
  match q,hq with
  | 0,hq=>simp at hq;subst hq;simp [Addr.add]
 case c02=>intro u hu;simp at hu;subst hu;rfl
 intro v1 w1 hown hgrow hnil;have HO1:=hid hown;have HB1:=hid (show Below w.heap.size w w1 from ((Below.refl _ w).alloc (Nat.le_refl _) _).grown hgrow (by simp) (fun k hk=>by simp [Value.ownBlock] at hk));clear hown hgrow hnil
 go_wp2_with (at_builtin;refine wpList_append_own _ rfl _ _ 22 rfl w.heap.size 9 i0 (.string ⟨#[]⟩) 1 16 Tryz.underlying22 hi hz0 hz1 hz2 rfl (by decide) _ 1 _ rfl ((HO1.out.alloc _)) ⟨w1.heap.size,0,none⟩ 1 1 [.string ⟨#[100,101,102,97,117,108,116,45,115,114,99]⟩] rfl rfl ?c11 ?c12 (by decide) (by decide) (by have:=HB1.out.size;simp;omega) ?_)
 case c11=>
  intro q u hq
  match q,hq with
  | 0,hq=>simp at hq;subst hq;simp [Addr.add]
 case c12=>intro u hu;simp at hu;subst hu;rfl
 intro v2 w2 hown hgrow hnil;have HO2:=hid hown;have HB2:=hid (show Below w.heap.size w w2 from (HB1.out.alloc HB1.out.size _).grown hgrow (by have:=HB1.out.size;simp;omega) (fun k hk=>(HO1.out.lt k hk).1));clear hown hgrow hnil
 go_wp2_with fail
 go_ret
 exact ⟨v2,rfl,HO2.out,HB2.out⟩
theorem chain_nSt (w:World):Calls Tryz.prog 74 #[.string ⟨#[115,116,121,108,101,45,115,114,99]⟩] w (OwnT [nSt,nDe] w):=by
 obtain ⟨i0,hi,hz0,hz1,hz2⟩:=info_parts infoS10
 go_enter Tryz.func74,Tryz.ntmps74
 go_wp2_with (at_builtin;refine wpList_append_own _ rfl _ _ 22 rfl w.heap.size 9 i0 (.string ⟨#[]⟩) 1 16 Tryz.underlying22 hi hz0 hz1 hz2 rfl (by decide) _ 0 _ rfl (World.ownsRow_nil _ _ _ _) ⟨w.heap.size,0,none⟩ 1 1 [.string ⟨#[115,116,121,108,101,45,115,114,99]⟩] rfl rfl ?c01 ?c02 (by decide) (by decide) (by simp) ?_)
 case c01=>
  intro q u hq
  match q,hq with
  | 0,hq=>simp at hq;subst hq;simp [Addr.add]
 case c02=>intro u hu;simp at hu;subst hu;rfl
 intro v1 w1 hown hgrow hnil;have HO1:=hid hown;have HB1:=hid (show Below w.heap.size w w1 from ((Below.refl _ w).alloc (Nat.le_refl _) _).grown hgrow (by simp) (fun k hk=>by simp [Value.ownBlock] at hk));clear hown hgrow hnil
 go_wp2_with (at_builtin;refine wpList_append_own _ rfl _ _ 22 rfl w.heap.size 9 i0 (.string ⟨#[]⟩) 1 16 Tryz.underlying22 hi hz0 hz1 hz2 rfl (by decide) _ 1 _ rfl ((HO1.out.alloc _)) ⟨w1.heap.size,0,none⟩ 1 1 [.string ⟨#[100,101,102,97,117,108,116,45,115,114,99]⟩] rfl rfl ?c11 ?c12 (by decide) (by decide) (by have:=HB1.out.size;simp;omega) ?_)
 case c11=>
  intro q u hq
  match q,hq with
  | 0,hq=>simp at hq;subst hq;simp [Addr.add]
 case c12=>intro u hu;simp at hu;subst hu;rfl
 intro v2 w2 hown hgrow hnil;have HO2:=hid hown;have HB2:=hid (show Below w.heap.size w w2 from (HB1.out.alloc HB1.out.size _).grown hgrow (by have:=HB1.out.size;simp;omega) (fun k hk=>(HO1.out.lt k hk).1));clear hown hgrow hnil
 go_wp2_with fail
 go_ret
 exact ⟨v2,rfl,HO2.out,HB2.out⟩
theorem chain_nCh (w:World):Calls Tryz.prog 74 #[.string ⟨#[99,104,105,108,100,45,115,114,99]⟩] w (OwnT [nCh,nDe] w):=by
 obtain ⟨i0,hi,hz0,hz1,hz2⟩:=info_parts infoS10
 go_enter Tryz.func74,Tryz.ntmps74
 go_wp2_with (at_builtin;refine wpList_append_own _ rfl _ _ 22 rfl w.heap.size 9 i0 (.string ⟨#[]⟩) 1 16 Tryz.underlying22 hi hz0 hz1 hz2 rfl (by decide) _ 0 _ rfl (World.ownsRow_nil _ _ _ _) ⟨w.heap.size,0,none⟩ 1 1 [.string ⟨#[99,104,105,108,100,45,115,114,99]⟩] rfl rfl ?c01 ?c02 (by decide) (by decide) (by simp) ?_)
 case c01=>
  intro q u hq
  match q,hq with
  | 0,hq=>simp at hq;subst hq;simp [Addr.add]
 case c02=>intro u hu;simp at hu;subst hu;rfl
 intro v1 w1 hown hgrow hnil;have HO1:=hid hown;have HB1:=hid (show Below w.heap.size w w1 from ((Below.refl _ w).alloc (Nat.le_refl _) _).grown hgrow (by simp) (fun k hk=>by simp [Value.ownBlock] at hk));clear hown hgrow hnil
 go_wp2_with (at_builtin;refine wpList_append_own _ rfl _ _ 22 rfl w.heap.size 9 i0 (.string ⟨#[]⟩) 1 16 Tryz.underlying22 hi hz0 hz1 hz2 rfl (by decide) _ 1 _ rfl ((HO1.out.alloc _)) ⟨w1.heap.size,0,none⟩ 1 1 [.string ⟨#[100,101,102,97,117,108,116,45,115,114,99]⟩] rfl rfl ?c11 ?c12 (by decide) (by decide) (by have:=HB1.out.size;simp;omega) ?_)
 case c11=>
  intro q u hq
  match q,hq with
  | 0,hq=>simp at hq;subst hq;simp [Addr.add]
 case c12=>intro u hu;simp at hu;subst hu;rfl
 intro v2 w2 hown hgrow hnil;have HO2:=hid hown;have HB2:=hid (show Below w.heap.size w w2 from (HB1.out.alloc HB1.out.size _).grown hgrow (by have:=HB1.out.size;simp;omega) (fun k hk=>(HO1.out.lt k hk).1));clear hown hgrow hnil
 go_wp2_with fail
 go_ret
 exact ⟨v2,rfl,HO2.out,HB2.out⟩
theorem chain_nOb (w:World):Calls Tryz.prog 74 #[.string ⟨#[111,98,106,101,99,116,45,115,114,99]⟩] w (OwnT [nOb,nDe] w):=by
 obtain ⟨i0,hi,hz0,hz1,hz2⟩:=info_parts infoS10
 go_enter Tryz.func74,Tryz.ntmps74
 go_wp2_with (at_builtin;refine wpList_append_own _ rfl _ _ 22 rfl w.heap.size 9 i0 (.string ⟨#[]⟩) 1 16 Tryz.underlying22 hi hz0 hz1 hz2 rfl (by decide) _ 0 _ rfl (World.ownsRow_nil _ _ _ _) ⟨w.heap.size,0,none⟩ 1 1 [.string ⟨#[111,98,106,101,99,116,45,115,114,99]⟩] rfl rfl ?c01 ?c02 (by decide) (by decide) (by simp) ?_)
 case c01=>
  intro q u hq
  match q,hq with
  | 0,hq=>simp at hq;subst hq;simp [Addr.add]
 case c02=>intro u hu;simp at hu;subst hu;rfl
 intro v1 w1 hown hgrow hnil;have HO1:=hid hown;have HB1:=hid (show Below w.heap.size w w1 from ((Below.refl _ w).alloc (Nat.le_refl _) _).grown hgrow (by simp) (fun k hk=>by simp [Value.ownBlock] at hk));clear hown hgrow hnil
 go_wp2_with (at_builtin;refine wpList_append_own _ rfl _ _ 22 rfl w.heap.size 9 i0 (.string ⟨#[]⟩) 1 16 Tryz.underlying22 hi hz0 hz1 hz2 rfl (by decide) _ 1 _ rfl ((HO1.out.alloc _)) ⟨w1.heap.size,0,none⟩ 1 1 [.string ⟨#[100,101,102,97,117,108,116,45,115,114,99]⟩] rfl rfl ?c11 ?c12 (by decide) (by decide) (by have:=HB1.out.size;simp;omega) ?_)
 case c11=>
  intro q u hq
  match q,hq with
  | 0,hq=>simp at hq;subst hq;simp [Addr.add]
 case c12=>intro u hu;simp at hu;subst hu;rfl
 intro v2 w2 hown hgrow hnil;have HO2:=hid hown;have HB2:=hid (show Below w.heap.size w w2 from (HB1.out.alloc HB1.out.size _).grown hgrow (by have:=HB1.out.size;simp;omega) (fun k hk=>(HO1.out.lt k hk).1));clear hown hgrow hnil
 go_wp2_with fail
 go_ret
 exact ⟨v2,rfl,HO2.out,HB2.out⟩
theorem chain_nDe (w:World):Calls Tryz.prog 74 #[.string ⟨#[100,101,102,97,117,108,116,45,115,114,99]⟩] w (OwnT [nDe] w):=by
 obtain ⟨i0,hi,hz0,hz1,hz2⟩:=info_parts infoS10
 go_enter Tryz.func74,Tryz.ntmps74
 go_wp2_with (at_builtin;refine wpList_append_own _ rfl _ _ 22 rfl w.heap.size 9 i0 (.string ⟨#[]⟩) 1 16 Tryz.underlying22 hi hz0 hz1 hz2 rfl (by decide) _ 0 _ rfl (World.ownsRow_nil _ _ _ _) ⟨w.heap.size,0,none⟩ 1 1 [.string ⟨#[100,101,102,97,117,108,116,45,115,114,99]⟩] rfl rfl ?c01 ?c02 (by decide) (by decide) (by simp) ?_)
 case c01=>
  intro q u hq
  match q,hq with
  | 0,hq=>simp at hq;subst hq;simp [Addr.add]
 case c02=>intro u hu;simp at hu;subst hu;rfl
 intro v1 w1 hown hgrow hnil;have HO1:=hid hown;have HB1:=hid (show Below w.heap.size w w1 from ((Below.refl _ w).alloc (Nat.le_refl _) _).grown hgrow (by simp) (fun k hk=>by simp [Value.ownBlock] at hk));clear hown hgrow hnil
 go_wp2_with fail
 go_ret
 exact ⟨v1,rfl,HO1.out,HB1.out⟩
theorem chain_none (s:List UInt8) (h0:s≠nSe) (h1:s≠nYe) (h2:s≠nWk) (h3:s≠nFr) (h4:s≠nCo) (h5:s≠nFo) (h6:s≠nIm) (h7:s≠nMe) (h8:s≠nSc) (h9:s≠nSt) (h10:s≠nCh) (h11:s≠nOb) (h12:s≠nDe):chainV s=[]:=by
 unfold chainV;rw [if_neg h0,if_neg h1,if_neg h2,if_neg h3,if_neg h4,if_neg h5,if_neg h6,if_neg h7,if_neg h8,if_neg h9,if_neg h10,if_neg h11,if_neg h12]
theorem chain10 (s:ByteArray) (w:World):Calls Tryz.prog 74 #[.string s] w (OwnT (chainV s.data.toList) w):=by
 by_cases h0:s.data.toList=nSe
 ·have hs:s=⟨#[115,99,114,105,112,116,45,115,114,99,45,101,108,101,109]⟩:=by rw [<- Lib.mk_data s,h0]
  rw [show chainV s.data.toList=[nSe,nSc,nDe] by rw [h0];decide +kernel,hs];exact chain_nSe w
 by_cases h1:s.data.toList=nYe
 ·have hs:s=⟨#[115,116,121,108,101,45,115,114,99,45,101,108,101,109]⟩:=by rw [<- Lib.mk_data s,h1]
  rw [show chainV s.data.toList=[nYe,nSt,nDe] by rw [h1];decide +kernel,hs];exact chain_nYe w
 by_cases h2:s.data.toList=nWk
 ·have hs:s=⟨#[119,111,114,107,101,114,45,115,114,99]⟩:=by rw [<- Lib.mk_data s,h2]
  rw [show chainV s.data.toList=[nWk,nCh,nSc,nDe] by rw [h2];decide +kernel,hs];exact chain_nWk w
 by_cases h3:s.data.toList=nFr
 ·have hs:s=⟨#[102,114,97,109,101,45,115,114,99]⟩:=by rw [<- Lib.mk_data s,h3]
  rw [show chainV s.data.toList=[nFr,nCh,nDe] by rw [h3];decide +kernel,hs];exact chain_nFr w
 by_cases h4:s.data.toList=nCo
 ·have hs:s=⟨#[99,111,110,110,101,99,116,45,115,114,99]⟩:=by rw [<- Lib.mk_data s,h4]
  rw [show chainV s.data.toList=[nCo,nDe] by rw [h4];decide +kernel,hs];exact chain_nCo w
 by_cases h5:s.data.toList=nFo
 ·have hs:s=⟨#[102,111,110,116,45,115,114,99]⟩:=by rw [<- Lib.mk_data s,h5]
  rw [show chainV s.data.toList=[nFo,nDe] by rw [h5];decide +kernel,hs];exact chain_nFo w
 by_cases h6:s.data.toList=nIm
 ·have hs:s=⟨#[105,109,103,45,115,114,99]⟩:=by rw [<- Lib.mk_data s,h6]
  rw [show chainV s.data.toList=[nIm,nDe] by rw [h6];decide +kernel,hs];exact chain_nIm w
 by_cases h7:s.data.toList=nMe
 ·have hs:s=⟨#[109,101,100,105,97,45,115,114,99]⟩:=by rw [<- Lib.mk_data s,h7]
  rw [show chainV s.data.toList=[nMe,nDe] by rw [h7];decide +kernel,hs];exact chain_nMe w
 by_cases h8:s.data.toList=nSc
 ·have hs:s=⟨#[115,99,114,105,112,116,45,115,114,99]⟩:=by rw [<- Lib.mk_data s,h8]
  rw [show chainV s.data.toList=[nSc,nDe] by rw [h8];decide +kernel,hs];exact chain_nSc w
 by_cases h9:s.data.toList=nSt
 ·have hs:s=⟨#[115,116,121,108,101,45,115,114,99]⟩:=by rw [<- Lib.mk_data s,h9]
  rw [show chainV s.data.toList=[nSt,nDe] by rw [h9];decide +kernel,hs];exact chain_nSt w
 by_cases h10:s.data.toList=nCh
 ·have hs:s=⟨#[99,104,105,108,100,45,115,114,99]⟩:=by rw [<- Lib.mk_data s,h10]
  rw [show chainV s.data.toList=[nCh,nDe] by rw [h10];decide +kernel,hs];exact chain_nCh w
 by_cases h11:s.data.toList=nOb
 ·have hs:s=⟨#[111,98,106,101,99,116,45,115,114,99]⟩:=by rw [<- Lib.mk_data s,h11]
  rw [show chainV s.data.toList=[nOb,nDe] by rw [h11];decide +kernel,hs];exact chain_nOb w
 by_cases h12:s.data.toList=nDe
 ·have hs:s=⟨#[100,101,102,97,117,108,116,45,115,114,99]⟩:=by rw [<- Lib.mk_data s,h12]
  rw [show chainV s.data.toList=[nDe] by rw [h12];decide +kernel,hs];exact chain_nDe w
 rw [chain_none s.data.toList h0 h1 h2 h3 h4 h5 h6 h7 h8 h9 h10 h11 h12];have e0:=beq_no10 s nSe h0;have e1:=beq_no10 s nYe h1;have e2:=beq_no10 s nWk h2;have e3:=beq_no10 s nFr h3;have e4:=beq_no10 s nCo h4;have e5:=beq_no10 s nFo h5;have e6:=beq_no10 s nIm h6;have e7:=beq_no10 s nMe h7;have e8:=beq_no10 s nSc h8;have e9:=beq_no10 s nSt h9;have e10:=beq_no10 s nCh h10;have e11:=beq_no10 s nOb h11;have e12:=beq_no10 s nDe h12;clear h0 h1 h2 h3 h4 h5 h6 h7 h8 h9 h10 h11 h12
 go_enter Tryz.func74,Tryz.ntmps74
 go_wp2_with fail
 go_ret
 exact ⟨_,rfl,World.ownsRow_nil _ _ _ _,Below.refl _ _⟩
theorem for10 (d:Int) (w:World):Calls Tryz.prog 59 #[.int .i64 d] w fun e w'=>e = .returned (.string ⟨(forV d).toArray⟩)/\w=w':=by
 by_cases h1:d=1
 ·subst h1
  go_enter Tryz.func59,Tryz.ntmps59
  go_wp2
  go_ret
  exact ⟨rfl,rfl⟩
 by_cases h2:d=2
 ·subst h2
  go_enter Tryz.func59,Tryz.ntmps59
  go_wp2
  go_ret
  exact ⟨rfl,rfl⟩
 by_cases h3:d=3
 ·subst h3
  go_enter Tryz.func59,Tryz.ntmps59
  go_wp2
  go_ret
  exact ⟨rfl,rfl⟩
 by_cases h4:d=4
 ·subst h4
  go_enter Tryz.func59,Tryz.ntmps59
  go_wp2
  go_ret
  exact ⟨rfl,rfl⟩
 by_cases h5:d=5
 ·subst h5
  go_enter Tryz.func59,Tryz.ntmps59
  go_wp2
  go_ret
  exact ⟨rfl,rfl⟩
 by_cases h6:d=6
 ·subst h6
  go_enter Tryz.func59,Tryz.ntmps59
  go_wp2
  go_ret
  exact ⟨rfl,rfl⟩
 have HF:=hid (show forV d=[] by unfold forV;rw [if_neg h1,if_neg h2,if_neg h3,if_neg h4,if_neg h5,if_neg h6]);have e1:(d==1)=false:=by rw [beq_eq_false_iff_ne];exact h1
 have e2:(d==2)=false:=by rw [beq_eq_false_iff_ne];exact h2
 have e3:(d==3)=false:=by rw [beq_eq_false_iff_ne];exact h3
 have e4:(d==4)=false:=by rw [beq_eq_false_iff_ne];exact h4
 have e5:(d==5)=false:=by rw [beq_eq_false_iff_ne];exact h5
 have e6:(d==6)=false:=by rw [beq_eq_false_iff_ne];exact h6
 clear h1 h2 h3 h4 h5 h6
 go_enter Tryz.func59,Tryz.ntmps59
 go_wp2
 go_ret
 rw [HF.out];exact ⟨rfl,rfl⟩
theorem clone10 (v:Value) (L:List (List UInt8)) (w:World) (h:TxAt w v L) (hl:L.length<=1000000):
 Calls Tryz.prog 75 #[v] w (OwnT L w):=by
 obtain ⟨a,cap,rfl,h1,h2,h3⟩:=h.view
 cases L with
 | nil=>
   cases a with
   | none=>
     refine (Tryz.slices_Clone_string_nil 0 cap w).mono ?_;rintro e w' ⟨rfl,rfl⟩
     exact ⟨_,rfl,World.ownsRow_nil _ _ _ _,Below.refl _ _⟩
   | some a=>
     refine (Tryz.slices_Clone_string_zero a cap w).mono ?_;rintro e w' ⟨v',rfl,hown,_,hb⟩
     exact ⟨v',rfl,hown,hb⟩
 | cons x t=>
   obtain ⟨b,off,rfl,_⟩:=h3 0 (by simp)
   refine (Tryz.slices_Clone_string b off (x::t).length cap ((x::t).map fun y=>(⟨y.toArray⟩:ByteArray)) w (by simp) (by omega) ?_).mono ?_
   ·intro j hj
    have hj':j<(x::t).length:=by simpa using hj
    obtain ⟨b',off',e,hc⟩:=h3 j hj'
    injection e with e
    injection e with e1 e2
    subst e1 e2;rw [hc];simp only [List.getD_eq_getElem?_getD,List.getElem?_map,List.getElem?_eq_getElem hj']
    rfl
   ·rintro e w' ⟨v',rfl,hown,_,hb⟩
    refine ⟨v',rfl,?_,hb⟩
    have e:(((x::t).map fun y=>(⟨y.toArray⟩:ByteArray)).take (x::t).length).map Value.string=cellsT (x::t):=by
     rw [List.take_of_length_le (by simp),List.map_map];rfl
    rw [e] at hown;exact hown
theorem idx_some (L:List Ru) (n:List UInt8) (h: ¬ (idxR L n<0)): ∃ (k:Nat) (hk:k<L.length),idxR L n=(k:Int)/\L[k].name=n/\findR L n=some L[k].vals:=by
 unfold idxR at h ⊢
 cases hf:L.findIdx? fun r=>decide (r.name=n) with
 | none=>rw [hf] at h;exact absurd (by decide) h
 | some k=>
   rw [List.findIdx?_eq_some_iff_getElem] at hf;obtain ⟨hk,h1,h2⟩:=hf
   refine ⟨k,hk,rfl,by simpa using h1,?_⟩
   unfold findR;have:L.find? (fun r=>decide (r.name=n))=some L[k]:=by
    rw [List.find?_eq_some_iff_getElem];exact ⟨h1,k,hk,rfl,fun j hj=>by simpa using h2 j hj⟩
   rw [this];rfl
theorem idx_none (L:List Ru) (n:List UInt8) (h:idxR L n<0):findR L n=none:=by
 have h1:=idx_has L n;rw [decide_eq_true h] at h1;have h2:hasR L n=false:=by cases hh:hasR L n<;>simp [hh] at h1 ⊢
 unfold findR;rw [List.find?_eq_none.2 ?_]
 ·rfl
 ·intro r hr
  unfold hasR at h2;rw [List.any_eq_false] at h2;exact h2 r hr
def ValPost (o:Option (List (List UInt8)×List UInt8)) (w:World) (e:Ending) (w':World):Prop:=
 match o with
 | none=>e = .returned (.tuple #[.slice none 0 0,.string ⟨#[]⟩,.bool false])/\Below w.heap.size w w'
 | some x=> ∃ u,e = .returned (.tuple #[u,.string ⟨x.2.toArray⟩,.bool true])/\w'.ownsRow w.heap.size 9 1 u x.1.length (cellsT x.1)/\Below w.heap.size w w'
theorem ask_drop {L:List Ru} {C:List (List UInt8)} {k:Nat} (hk:k<C.length):askV L (C.drop k)=match findR L C[k] with | some v=>some (v,C[k]) | none=>askV L (C.drop (k+1)):=by
 rw [List.drop_eq_getElem_cons hk];rfl
theorem ite_len10 {c:Prop} [Decidable c] {a b:List (List UInt8)} (h1:a.length<=4) (h2:b.length<=4):(if c then a else b).length<=4:=by
 split
 ·exact h1
 ·exact h2
theorem chainV_len (n:List UInt8):(chainV n).length<=4:=by
 unfold chainV
 repeat (refine ite_len10 (by decide) ?_)
 decide
theorem values10 (v:Value) (rp:Bool) (L:List Ru) (s:ByteArray) (w:World) (hv:PoAt w v L) (hl:L.length<=1000) (hz: ∀ r ∈ L,r.vals.length<=1000000):
 Calls Tryz.prog 58 #[.agg #[v,.bool rp],.string s] w (ValPost (valsV L s.data.toList) w):=by
 obtain ⟨a1,c1,rfl,hc1,hm1,_⟩:=hv.view
 obtain ⟨n,hn⟩: ∃ n,n=L.length:=⟨_,rfl⟩
 have HN:=hid hn;have HV:=hid hv;have HZ:=hid hz;obtain ⟨C,hC⟩: ∃ C,C=chainV s.data.toList:=⟨_,rfl⟩
 have hC4:C.length<=4:=by rw [hC];exact chainV_len _
 have HC:=hid (fun X=>chain10 s X);unfold OwnT at HC;rw [<- hC] at HC;have HGoal:=hid (show valsV L s.data.toList=askV L (C.drop 0) by rw [hC];rfl);obtain ⟨m,hm⟩: ∃ m,m=C.length:=⟨_,rfl⟩
 have HM:=hid hm;rw [<- hm] at HC hC4;rw [<- hn] at hl hc1 HV ⊢;have hb0:=(Below.refl _ w).alloc (Nat.le_refl _) (.cells #[.slice a1 n c1,.bool rp] 39);have HB0:=hid hb0;have hp0:=heap_alloc_new w (.cells #[.slice a1 n c1,.bool rp] 39);have HP0:=hid hp0;clear hn hv hz hC hm hb0 hp0
 go_enter Tryz.func58,Tryz.ntmps58
 go_wp2_with fail
 refine (HC.out _).mono ?_;rintro e w1 ⟨vc,rfl,hown,hb1⟩
 obtain ⟨ac,cc,rfl,hcc,hcm⟩:=own_form10 hown
 have HCA:=hid (own_txt' (L:=C) (by rw [<- HM.out];exact hown));have HB1:=hid (below2 HB0.out hb1);have HP1:=hid (row_kept HP0.out hb1);clear hown hb1 HC HP0 HB0
 go_wp2_with fail
 go_loopw [13] (fun v13 wr=> ∃ k:Nat,k<=m/\v13 = .int .i64 k/\Hid (valsV L s.data.toList=askV L (C.drop k)/\Below w1.heap.size w1 wr)) (fun v13 _=>m - (intOf v13).toNat)
 case atStart=>exact ⟨0,Nat.zero_le _,rfl,HGoal.out,Below.refl _ _⟩
 case round=>
  clear HGoal;obtain ⟨k,hk,rfl,HR⟩:=hrel
  have HBR:=hid (below2 HB1.out HR.out.2);have HPR:=hid (row_kept HP1.out HR.out.2);have p0:wr.cell? ⟨w.heap.size,0,none⟩=some (.slice a1 n c1):=by rw [Lib.cell_of_heap HPR.out];rfl
  have p1:wr.cell? ⟨w.heap.size,1,none⟩=some (.bool rp):=by rw [Lib.cell_of_heap HPR.out];rfl
  by_cases hlt:k<m
  ·have hkC:k<C.length:=by have:=HM.out;omega
   obtain ⟨ac',cc',eac,q1,q2,hcell⟩:=HCA.out.view
   injection eac with eac1 eac2 eac3
   clear eac2 eac3;subst eac1;obtain ⟨bc,oc,rfl,hcl⟩:=hcell k hkC
   obtain ⟨A,hA⟩: ∃ A:ByteArray,A=⟨C[k].toArray⟩:=⟨_,rfl⟩
   rw [<- hA] at hcl;have HAL:=hid (show ∃ h:k<C.length,A.data.toList=C[k] from ⟨hkC,by rw [hA]⟩);have q0:=kept_cell hcl HR.out.2;have HPL:=hid (place10 (.slice a1 n c1) rp L A wr (HV.out.kept HBR.out) (by have:=HN.out;omega));obtain ⟨ix,hix⟩: ∃ ix,ix=idxR L A.data.toList:=⟨_,rfl⟩
   have HIX:=hid hix;rw [<- hix] at HPL;have hin:(k:Int)<(m:Int):=by omega
   clear hcl hcell hkC hA hix q1 q2
   go_wp2_with fail
   refine HPL.out.mono ?_;rintro e w4 ⟨rfl,hb4⟩
   have HB4:=hid hb4;clear hb4 HPL;by_cases hneg:ix<0
   ·have HS:=hid (show valsV L s.data.toList=askV L (C.drop (k+1))/\Below w1.heap.size w1 w4 by
     refine ⟨?_,below2 HR.out.2 HB4.out⟩
     obtain ⟨h,ha⟩:=HAL.out
     rw [HR.out.1,ask_drop h,<- ha,idx_none L _ (by rw [<- HIX.out];exact hneg)])
    have hng: ¬ (0<=ix):=by omega
    clear p0 p1 q0
    go_wp2_with fail
    go_roundw
    case rel=>
     first
      | exact ⟨k+1,by omega,by go_num,HS.out⟩
      | ((repeat apply Exists.intro);refine ⟨?_,rfl⟩;exact ⟨k+1,by omega,by go_num,HS.out⟩)
      | ((repeat apply Exists.intro);exact ⟨⟨k+1,by omega,by go_num,HS.out⟩,rfl⟩)
    case measure=>simp [intOf];omega
   ·obtain ⟨j,hj,hje,hjn,hjf⟩:=idx_some L A.data.toList (by rw [<- HIX.out];exact hneg)
    have hixj:ix=(j:Int):=by rw [HIX.out];exact hje
    have hjn2:j<n:=by have:=HN.out;omega
    have HVL:=hid (show valsV L s.data.toList=some (L[j].vals,A.data.toList) by
     obtain ⟨h,ha⟩:=HAL.out
     rw [HR.out.1,ask_drop h,<- ha,hjf])
    obtain ⟨a',c',ea,q3,q4,hvw⟩:=HV.out.view
    injection ea with ea1 ea2 ea3
    clear ea2 ea3;subst ea1;obtain ⟨b,off,u,rfl,q6,hu,htx⟩:=hvw j hj
    clear q6;have HTX:=hid htx;obtain ⟨ua,uc,rfl,q5⟩:=htx
    clear q3 q4 q5;obtain ⟨un,hun⟩: ∃ un,un=L[j].vals.length:=⟨_,rfl⟩
    rw [<- hun] at hu HTX;have HB4W:=hid (below2 HBR.out HB4.out);have u0:=kept_cell hu HB4W.out;have g0:=kept_cell p0 HB4.out;have HCL:=hid (clone10 (.slice ua un uc) L[j].vals w4 (HTX.out.kept HB4W.out) (HZ.out _ (List.getElem_mem hj)));unfold OwnT at HCL;obtain ⟨Lv,hLv⟩: ∃ Lv,Lv=L[j].vals:=⟨_,rfl⟩
    rw [<- hLv] at HCL HVL;have hge:(0:Int)<=ix:=by omega
    have hjI:(j:Int)<(n:Int):=by omega
    subst hixj;clear hneg hje hjn hjf hvw hu hun hLv p0 p1 q0 HTX hj hge
    go_wp2_with fail
    refine HCL.out.mono ?_;rintro e w5 ⟨u5,rfl,hown5,hb5⟩
    have HF:=hid (show w5.ownsRow w.heap.size 9 1 u5 Lv.length (cellsT Lv)/\Below w.heap.size w w5 from ⟨own_low10 hown5 HB4W.out.size,below2 HB4W.out hb5⟩);clear hown5 hb5 HCL
    go_wp2_with fail
    go_ret3
    rw [HVL.out];refine ⟨u5,?_,HF.out.1,HF.out.2⟩
    show _=Ending.returned (.tuple #[u5,.string ⟨A.data.toList.toArray⟩,.bool true]);rw [Lib.mk_data];rfl
  ·obtain rfl:k=m:=by omega
   have HVL:=hid (show valsV L s.data.toList=none by
    rw [HR.out.1,List.drop_eq_nil_of_le (by have:=HM.out;omega)];rfl)
   clear hk hlt p0 p1
   go_wp2_with fail
   go_ret3
   rw [HVL.out];exact ⟨rfl,HBR.out⟩
theorem parseP (s:ByteArray) (rp:Bool) (L:List Ru) (w:World) (hs:s.size<=1000000000) (hL:polV s.data.toList=L):
 Calls Tryz.prog 10 #[.string s,.bool rp] w fun e w'=> ∃ a c,e = .returned (.agg #[.slice a L.length c,.bool rp])/\(L.length<=c/\c<=maxLen/\PoAt w' (.slice a L.length c) L)/\Below w.heap.size w w':=by
 subst hL;refine (parse10 s rp w hs).mono ?_;rintro e w' ⟨v,Q,rfl,hown,hrd,hb⟩
 obtain ⟨a,c,rfl,h1,h2⟩:=own_form10 hown
 exact ⟨a,c,rfl,⟨h1,h2,own_po hown hrd⟩,hb⟩
theorem cells_p {w:World} {b:Nat} {x y:Value} (h:w.heap[b]? = some (.cells #[x,y] 39 (0,0))):w.cell? ⟨b,0,none⟩=some x/\w.cell? ⟨b,1,none⟩=some y:=
 ⟨by rw [Lib.cell_of_heap h];rfl,by rw [Lib.cell_of_heap h];rfl⟩
theorem info3 {i:Option TypeInfo} {z:Value} {a b:Nat} (h:i.map (fun i=>(i.zero,i.size,i.bytes))=some (some z,a,b)): ∃ j,i=some j/\j.zero=some z/\j.size=a/\j.bytes=b:=by
 cases i with
 | none=>cases h
 | some j=>
   simp at h;exact ⟨j,rfl,h.1,h.2.1,h.2.2⟩
def G5 (w:World):Prop:= ∃ m,w.cell? ⟨0,0,none⟩=some (.int .i64 m)
end Go.Proofs.YtijpkalkfbejeaaGreatDoor
