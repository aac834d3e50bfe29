/-
  Walks and plain facts that this claim leans on, put together out of 2 texts: Exa, Exn.
-/
import Derived.Test.YtamockkjbkibdaaGreatDoorProg
import Derived.Test.YtamockkjbkibdaaGreatDoorQa1
import Derived.Test.YtamockkjbkibdaaGreatDoorQa2
import Derived.Test.YtamockkjbkibdaaGreatDoorQa3
import Derived.Test.YtamockkjbkibdaaGreatDoorQa4
import Derived.Test.YtamockkjbkibdaaGreatDoorQa5
import Derived.Test.YtamockkjbkibdaaGreatDoorQa6
import Derived.Test.YtamockkjbkibdaaGreatDoorQa7
import Derived.Test.YtamockkjbkibdaaGreatDoorQa8
import Derived.Test.YtamockkjbkibdaaGreatDoorQa9
import Derived.Test.YtamockkjbkibdaaGreatDoorQa10
import Derived.Test.YtamockkjbkibdaaGreatDoorQa11
import Derived.Test.YtamockkjbkibdaaGreatDoorQa12
import Derived.Test.YtamockkjbkibdaaGreatDoorQa13
import Derived.Test.YtamockkjbkibdaaGreatDoorQa14
import Derived.Test.YtamockkjbkibdaaGreatDoorQa15
import Derived.Test.YtamockkjbkibdaaGreatDoorQa16
import Derived.Test.YtamockkjbkibdaaGreatDoorQa17
import Derived.Test.YtamockkjbkibdaaGreatDoorQa18
import Derived.Test.YtamockkjbkibdaaGreatDoorQa19
import Derived.Test.YtamockkjbkibdaaGreatDoorQa20
import Derived.Test.YtamockkjbkibdaaGreatDoorQa21
import Derived.Test.YtamockkjbkibdaaGreatDoorQa22
import Derived.Test.YtamockkjbkibdaaGreatDoorQa23
import Derived.Test.YtamockkjbkibdaaGreatDoorQa24
import Derived.Test.YtamockkjbkibdaaGreatDoorQa25
import Derived.Test.YtamockkjbkibdaaGreatDoorQa26
import Derived.Test.YtamockkjbkibdaaGreatDoorQa27
import Derived.Test.YtamockkjbkibdaaGreatDoorQa28
import Derived.Test.YtamockkjbkibdaaGreatDoorQa29
import Derived.Test.YtamockkjbkibdaaGreatDoorQa30
import Derived.Test.YtamockkjbkibdaaGreatDoorQa31
import Derived.Test.YtamockkjbkibdaaGreatDoorQa32
import Derived.Test.YtamockkjbkibdaaGreatDoorQr1
import Derived.Test.YtamockkjbkibdaaGreatDoorQr2
import Derived.Test.YtamockkjbkibdaaGreatDoorQr3
import Derived.Test.YtamockkjbkibdaaGreatDoorQr4
import Derived.Test.YtamockkjbkibdaaGreatDoorQr5
import Derived.Deep.Cut
import Derived.Deep.QuietTactic
import Derived.BigQuiet
import Derived.BigRegion
import Derived.Deep.RegionHeld
import Derived.Deep.CutRange
import Derived.Lib.IndexMore
import Derived.Lib.Join
import Derived.Lib.LastIndexByte
import Derived.WalkKit
import Derived.Lib.Strings
import Derived.Lib.UnsafeStr
import Derived.Laws.IdiomStrings
import Derived.Laws.AppendOwn
import Derived.Laws.BitsAllLaws
import Derived.Lib.Bytealg
import Derived.Lib.BufferMore
import Derived.Lib.BufferRead
import Derived.Lib.RuneBytes
import Derived.Laws.RangeAny
import Derived.LoopN
import Derived.RegionTactic
import Derived.Deep.RegionWith
import Derived.OwnWalk
import Derived.Deep.RegionLaw
import Derived.Laws.OwnMore
import Derived.Deep.LoopGhost
import Derived.Shelf.Strings.Builder1
import Derived.Shelf.Strings.Builder2
import Derived.Shelf.Strings.OnBuilder
import Derived.Shelf.Strings.Trim
import Derived.Shelf.Small.Utf8
import Derived.Shelf.Small.Strs
import Derived.Shelf.Small.Wraps
import Derived.Shelf.Strings.BuilderF
import Derived.Shelf.Strings.BuilderK
import Derived.Shelf.Strings.BuilderRune
import Derived.Shelf.Utf8.AppendRune
import Derived.Shelf.Utf8.AppendRunePlain
import Derived.Shelf.Strings.Builder2Cap
import Derived.Shelf.Strconv.Itoa0
import Derived.Shelf.Strconv.Itoa1
import Derived.Shelf.LaysM
import Derived.Shelf.Strconv.Itoa2
import Derived.Shelf.Strconv.Itoa3
import Derived.Shelf.Strings.Search1
import Derived.Shelf.Strings.Search2
import Derived.Shelf.Strings.Search3
import Derived.Shelf.Strings.Cut
import Derived.Shelf.Strings.Count
import Derived.Shelf.Strings.Shaped
import Derived.Shelf.Strings.LastIndex
import Derived.Shelf.Strings.Prefix
import Derived.Shelf.Strings.Split
import Derived.Shelf.Strings.Replace
import Derived.Shelf.Strings.Runes
import Derived.Shelf.Strings.IndexAny
import Derived.Shelf.Strings.AsciiSet
import Derived.Shelf.Strings.IndexAnyAll
import Derived.Shelf.Unicode.DecodeSlow
import Derived.Ground.Names2Prog
import Derived.Shelf.Slices.Clone
import Derived.Ground.SlgnProg
import Derived.Shelf.SlicesE.Clone
import Derived.Laws.AppendOwnNone
import Derived.Scope
import Derived.ScopeJumps
import Derived.WalkMore
import Derived.Lib.IndexAny
import Derived.Lib.Replace
import Derived.Lib.TrimByte
import Derived.Lib.ItoaNum
import Derived.Lib.DecodeN
import Derived.Lib.OthersKept
import Derived.Laws.BytesString
import Derived.Deep.WholeRow
import Derived.Lib.AppendStr
import Derived.WalkSpells
import Derived.WalkLawsBesides
import Derived.Lib.AppendIntMem
import Derived.Lib.SmallJoins
import Derived.WalkSmall
import Derived.Laws.CopyOwn
import Derived.Laws.ResultCell
import Derived.Deep.MidRow
import Derived.Lib.FrozenHead2
import Derived.Lib.Builder
import Derived.Lib.SlTrimSet
import Derived.Below
import Derived.Shelf.Strings.SlTrimAscii
import Derived.Laws.Runes
set_option linter.unusedSimpArgs false
set_option linter.unusedVariables false

namespace Go.Proofs.YtamockkjbkibdaaGreatDoor
theorem sameO_web {u v : Adr} (hu : WebU u) (hv : WebU v) : sameO (orgV u) (orgV v) = ((u.scheme == v.scheme) && ((u.host == v.host) && (u.port == v.port))) := by
 rw [org_web hu.web, org_web hv.web]
 unfold sameO
 simp only [Bool.not_false, Bool.true_and, Org.mk.injEq, and_true]
 have key : u.scheme = v.scheme → ((hasP u = hasP v) ↔ u.port = v.port) := by
  intro es
  constructor
  ·intro e
   by_cases h1 : u.port = -1
   ·by_cases h2 : v.port = -1
    ·rw [h1, h2]
    ·have e1 : hasP u = ownV v.scheme := by unfold hasP; rw [if_pos h1, es]
     rw [e1, eq_comm, hasP_own hv.str] at e
     exact absurd e h2
   ·by_cases h2 : v.port = -1
    ·have e1 : hasP v = ownV u.scheme := by unfold hasP; rw [if_pos h2, es]
     rw [e1, hasP_own hu.str] at e
     exact absurd e h1
    ·unfold hasP at e
     rw [if_neg h1, if_neg h2] at e
     exact e
  ·intro e
   unfold hasP
   rw [e, es]
 rw [Bool.eq_iff_iff]
 simp only [decide_eq_true_eq, Bool.and_eq_true, beq_iff_eq]
 constructor
 ·rintro ⟨h1, h2, h3⟩; exact ⟨h1, h2, (key h1).1 h3⟩
 ·rintro ⟨h1, h2, h3⟩; exact ⟨h1, h2, (key h1).2 h3⟩

end Go.Proofs.YtamockkjbkibdaaGreatDoor

namespace Go.Proofs.YtamockkjbkibdaaGreatDoor
open Go.RowKit

theorem bne_ofP {a b : List UInt8} {q : Bool} (h : (a == b) = q) : (a != b) = !q := by rw [← h]; rfl

set_option maxHeartbeats 32000000 in
set_option maxRecDepth 100000 in
theorem referrerPolicies_walk (P S T : ByteArray) (w : World) (hp : P.size ≤ 140737488351232) (hs : S.size ≤ 140737488351232) (ht : T.size ≤ 140737488351232) (hg : Gd w) :
  Calls Tryz.prog 12 #[.string P, .string S, .string T] w fun e w' => e = .returned (.bool true) ∧ Below w.heap.size w w' := by
 have HPg := hid (fun w => page_any S w (by omega))
 have HPh := hid (fun w => page_any T w (by omega))
 have HG0 := hid hg
 obtain ⟨F, hF⟩ : ∃ F : ByteArray, ⟨(P.data.toList.take 60).toArray⟩ = F := ⟨_, rfl⟩
 have HFw := hid (fun w => few_any P 60 w (by omega) (by omega))
 rw [hF] at HFw
 have hwu := page_wu S.data.toList
 have hwv := page_wu T.data.toList
 have HSu := hid (page_st S.data.toList)
 have HSv := hid (page_st T.data.toList)
 generalize pageV S.data.toList = A at HPg hwu HSu
 generalize pageV T.data.toList = B at HPh hwv HSv
 unfold PgPost at HPg HPh
 obtain ⟨XX, hXX⟩ : ∃ X : ByteArray, X = ⟨(ofR F.data.toList A B).toArray⟩ := ⟨_, rfl⟩
 obtain ⟨SF, hSF⟩ : ∃ X : ByteArray, X = ⟨(stripV A false).toArray⟩ := ⟨_, rfl⟩
 obtain ⟨ST, hST⟩ : ∃ X : ByteArray, X = ⟨(stripV A true).toArray⟩ := ⟨_, rfl⟩
 have HOf := hid (fun (pv qv : Value) (X : World) (hX : Gd X) (hp : PathAt X pv A.path) (hq : PathAt X qv B.path) => ofR_any F A pv B qv X hX hp hq HSu.out HSv.out)
 have HSf := hid (fun (pv : Value) (X : World) (hX : Gd X) (hp : PathAt X pv A.path) => strip13_any A pv false X hX hp HSu.out)
 have HStt := hid (fun (pv : Value) (X : World) (hX : Gd X) (hp : PathAt X pv A.path) => strip13_any A pv true X hX hp HSu.out)
 rw [← hXX] at HOf
 rw [← hSF] at HSf
 rw [← hST] at HStt
 have h1 : SF.toList = stripV A false := by rw [Lib.toList_data, hSF]
 have h2 : ST.toList = stripV A true := by rw [Lib.toList_data, hST]
 have h3 : XX.toList = ofR F.data.toList A B := by rw [Lib.toList_data, hXX]
 obtain ⟨n1, en1⟩ : ∃ q, (XX.toList == SF.toList) = q := ⟨_, rfl⟩
 obtain ⟨n2, en2⟩ : ∃ q, (SF.toList == ST.toList) = q := ⟨_, rfl⟩
 obtain ⟨n3, en3⟩ : ∃ q, (XX.toList == ST.toList) = q := ⟨_, rfl⟩
 obtain ⟨n4, en4⟩ : ∃ q, (XX.toList == []) = q := ⟨_, rfl⟩
 obtain ⟨p1, ep1⟩ : ∃ q, (F.toList == [117, 110, 115, 97, 102, 101, 45, 117, 114, 108]) = q := ⟨_, rfl⟩
 obtain ⟨p2, ep2⟩ : ∃ q, (F.toList == [110, 111, 45, 114, 101, 102, 101, 114, 114, 101, 114, 45, 119, 104, 101, 110, 45, 100, 111, 119, 110, 103, 114, 97, 100, 101]) = q := ⟨_, rfl⟩
 obtain ⟨p3, ep3⟩ : ∃ q, (F.toList == [115, 97, 109, 101, 45, 111, 114, 105, 103, 105, 110]) = q := ⟨_, rfl⟩
 obtain ⟨p4, ep4⟩ : ∃ q, (F.toList == []) = q := ⟨_, rfl⟩
 obtain ⟨p5, ep5⟩ : ∃ q, (F.toList == [111, 114, 105, 103, 105, 110, 45, 119, 104, 101, 110, 45, 99, 114, 111, 115, 115, 45, 111, 114, 105, 103, 105, 110]) = q := ⟨_, rfl⟩
 obtain ⟨p6, ep6⟩ : ∃ q, (F.toList == [111, 114, 105, 103, 105, 110]) = q := ⟨_, rfl⟩
 obtain ⟨p7, ep7⟩ : ∃ q, (F.toList == [110, 111, 45, 114, 101, 102, 101, 114, 114, 101, 114]) = q := ⟨_, rfl⟩
 obtain ⟨sm, hsm⟩ : ∃ q, sameO (orgV A) (orgV B) = q := ⟨_, rfl⟩
 have hFl : ∀ {q : Bool} {l : List UInt8}, (F.toList == l) = q → q = true → F.data.toList = l := fun h e => by rw [e, Lib.toList_data] at h; exact beq_iff_eq.1 h
 have HC8 := hid (show sm = false → n1 = true → n2 = false → (p1 = true ∨ p2 = true) from fun a1 a2 a3 => by
  rw [a2, h1, h3] at en1
  rw [a3, h1, h2] at en2
  rcases of_cross hwu (hsm.trans a1) (beq_iff_eq.1 en1) (beq_eq_false_iff_ne.1 en2) with e | e
  ·left; rw [← ep1, Lib.toList_data, e]; rfl
  ·right; rw [← ep2, Lib.toList_data, e]; rfl)
 have HC10 := hid (show sm = true → (p3 = true ∨ p4 = true ∨ p5 = true) → n1 = true from fun a1 a2 => by
  rw [← en1, h1, h3, of_same (hsm.trans a1) (by
   rcases a2 with a2 | a2 | a2
   ·exact .inl (hFl ep3 a2)
   ·exact .inr (.inl (hFl ep4 a2))
   ·exact .inr (.inr (hFl ep5 a2)))]
  exact beq_self_eq_true _)
 have HC6 := hid (show p6 = true → n3 = true from fun a => by
  rw [← en3, h2, h3, hFl ep6 a]
  exact (beq_iff_eq.2 (of_orig A B)))
 have HC7 := hid (show p7 = true → n4 = true from fun a => by
  rw [← en4, h3, hFl ep7 a]
  exact (beq_iff_eq.2 (of_none A B)))
 have HSw := hid (sameO_web hwu hwv)
 rw [hsm] at HSw
 have mn1 := bne_ofP en1
 have mn2 := bne_ofP en2
 have mp6 := bne_ofP ep6
 have mp7 := bne_ofP ep7
 clear hXX hSF hST h1 h2 h3 hsm hF hg hwu hwv hFl
 go_enter Tryz.func12, Tryz.ntmps12
 go_wp2_with fail
 refine (HPg.out _).mono ?_
 rintro e w1 ⟨dv, rfl, hpp, hbw1⟩
 obtain ⟨da, dn, dc, rfl⟩ := path_sl hpp
 obtain ⟨d0, d1, d2, d3, d4, d5, d6, d8, d9, d10, d11, hxd, hd0, hd3, hd5, -⟩ := adr_named A da dn dc
 have hvd : adrVal A (.slice da dn dc) = .agg #[.string d0, .string d1, .string d2, .string d3, .bool d4, .int .i64 d5, .bool d6, .slice da dn dc, .string d8, .string d9, .bool d10, .bool d11] := by unfold adrVal; rw [hxd]
 rw [hvd]
 obtain ⟨W2, hW2⟩ : ∃ X, (w1.alloc (.cells #[.string d0, .string d1, .string d2, .string d3, .bool d4, .int .i64 d5, .bool d6, .slice da dn dc, .string d8, .string d9, .bool d10, .bool d11] 24)) = X := ⟨_, rfl⟩
 have hbW2 : Below w1.heap.size w1 W2 := by rw [← hW2]; exact (Below.refl _ w1).alloc (Nat.le_refl _) _
 have hsW2 : W2.heap.size = w1.heap.size + 1 := by rw [← hW2]; simp
 have hAW2 : AdrIn W2 w1.heap.size A (.slice da dn dc) := by
  unfold AdrIn
  rw [hxd, ← hW2]
  exact heap_alloc_new w1 _
 have HPP2 := hid (hpp.kept hbW2)
 have HB2 := hid (below2 hbw1 hbW2)
 have HA2 := hid hAW2
 have HXd := hid hxd
 have HVd := hid hvd
 have HD := hid (And.intro hd0 (And.intro hd3 hd5))
 clear hpp hbw1 hbW2 hAW2 hxd hvd hsW2 hd0 hd3 hd5
 go_wp2_with fail
 refine (HPh.out _).mono ?_
 rintro e w3 ⟨qv, rfl, hpp, hbw3⟩
 obtain ⟨va, vn, vc, rfl⟩ := path_sl hpp
 obtain ⟨v0, v1, v2, v3, v4, v5, v6, v8, v9, v10, v11, hxv, hv0, hv3, hv5, -⟩ := adr_named B va vn vc
 have hvv : adrVal B (.slice va vn vc) = .agg #[.string v0, .string v1, .string v2, .string v3, .bool v4, .int .i64 v5, .bool v6, .slice va vn vc, .string v8, .string v9, .bool v10, .bool v11] := by unfold adrVal; rw [hxv]
 rw [hvv]
 obtain ⟨W4, hW4⟩ : ∃ X, (w3.alloc (.cells #[.string v0, .string v1, .string v2, .string v3, .bool v4, .int .i64 v5, .bool v6, .slice va vn vc, .string v8, .string v9, .bool v10, .bool v11] 24)) = X := ⟨_, rfl⟩
 have hbW4 : Below w3.heap.size w3 W4 := by rw [← hW4]; exact (Below.refl _ w3).alloc (Nat.le_refl _) _
 have hsW4 : W4.heap.size = w3.heap.size + 1 := by rw [← hW4]; simp
 have hAW4 : AdrIn W4 w3.heap.size B (.slice va vn vc) := by
  unfold AdrIn
  rw [hxv, ← hW4]
  exact heap_alloc_new w3 _
 have hb34 := below2 hbw3 hbW4
 have HB4 := hid (below2 HB2.out hb34)
 have HPa4 := hid (HPP2.out.kept hb34)
 have HPb4 := hid (hpp.kept hbW4)
 have HA4 := hid (HA2.out.kept hb34)
 have HAb4 := hid hAW4
 have HXv := hid hxv
 obtain ⟨s1, es1⟩ : ∃ q, (d0.toList == v0.toList) = q := ⟨_, rfl⟩
 obtain ⟨s2, es2⟩ : ∃ q, (d3.toList == v3.toList) = q := ⟨_, rfl⟩
 obtain ⟨s3, es3⟩ : ∃ q, (d5 == v5) = q := ⟨_, rfl⟩
 have HSm := hid (show sm = (s1 && (s2 && s3)) by
  rw [HSw.out, ← es1, ← es2, ← es3, Lib.toList_data, Lib.toList_data, Lib.toList_data, Lib.toList_data, HD.out.1, HD.out.2.1, HD.out.2.2, hv0, hv3, hv5])
 have HOc := hid (fun (X : World) (hX : Below W4.heap.size W4 X) => HOf.out _ _ X (HG0.out.kept (below2 HB4.out hX)) (HPa4.out.kept hX) (HPb4.out.kept hX))
 rw [HVd.out, hvv] at HOc
 have HSfc := hid (fun (X : World) (hX : Below W4.heap.size W4 X) => HSf.out _ X (HG0.out.kept (below2 HB4.out hX)) (HPa4.out.kept hX))
 have HStc := hid (fun (X : World) (hX : Below W4.heap.size W4 X) => HStt.out _ X (HG0.out.kept (below2 HB4.out hX)) (HPa4.out.kept hX))
 rw [HVd.out] at HSfc HStc
 have HKc := hid (fun (X : World) (hX : Below W4.heap.size W4 X) => knownL13_any X (HG0.out.kept (below2 HB4.out hX)))
 have HQ4 := hid (Below.refl W4.heap.size W4)
 obtain ⟨y0, y1, y2, y3, y4, y5, y6, y7, y8, y9, y10, y11⟩ := adr_twelve HXd.out HA4.out
 obtain ⟨z0, z1, z2, z3, z4, z5, z6, z7, z8, z9, z10, z11⟩ := adr_twelve hxv hAW4
 clear hpp hbw3 hbW4 hAW4 hxv hvv hb34 hsW4 hv0 hv3 hv5 HPg HPh HOf HSf HStt HSw HD HSu HSv
 go_wp2_with fail
 refine (HFw.out _).mono ?_
 rintro e w' ⟨rfl, hw'⟩
 rw [← hw']
 clear hw'
 go_wp2_with fail
 refine (HOc.out _ HQ4.out).mono ?_
 rintro e w6 ⟨rfl, hb6⟩
 have HQ6 := hid (below2 HQ4.out hb6)
 clear hb6 y0 y1 y2 y3 y4 y5 y6 y7 y8 y9 y10 y11 z0 z1 z2 z3 z4 z5 z6 z7 z8 z9 z10 z11 HOc
 obtain ⟨y0, y1, y2, y3, y4, y5, y6, y7, y8, y9, y10, y11⟩ := adr_twelve HXd.out (HA4.out.kept HQ6.out)
 go_wp2_with fail
 refine (HSfc.out _ HQ6.out).mono ?_
 rintro e w7 ⟨rfl, hb7⟩
 have HQ7 := hid (below2 HQ6.out hb7)
 clear hb7 y0 y1 y2 y3 y4 y5 y6 y7 y8 y9 y10 y11
 obtain ⟨y0, y1, y2, y3, y4, y5, y6, y7, y8, y9, y10, y11⟩ := adr_twelve HXd.out (HA4.out.kept HQ7.out)
 go_wp2_with fail
 refine (HStc.out _ HQ7.out).mono ?_
 rintro e w8 ⟨rfl, hb8⟩
 have HQ8 := hid (below2 HQ7.out hb8)
 clear hb8 y0 y1 y2 y3 y4 y5 y6 y7 y8 y9 y10 y11
 have y0 : w8.cell? ⟨w1.heap.size, 0, none⟩ = some (.string d0) := (HA4.out.kept HQ8.out).cell 0 _ (by rw [HXd.out]; rfl)
 have y3 : w8.cell? ⟨w1.heap.size, 3, none⟩ = some (.string d3) := (HA4.out.kept HQ8.out).cell 3 _ (by rw [HXd.out]; rfl)
 have y5 : w8.cell? ⟨w1.heap.size, 5, none⟩ = some (.int .i64 d5) := (HA4.out.kept HQ8.out).cell 5 _ (by rw [HXd.out]; rfl)
 have z0 : w8.cell? ⟨w3.heap.size, 0, none⟩ = some (.string v0) := (HAb4.out.kept HQ8.out).cell 0 _ (by rw [HXv.out]; rfl)
 have z3 : w8.cell? ⟨w3.heap.size, 3, none⟩ = some (.string v3) := (HAb4.out.kept HQ8.out).cell 3 _ (by rw [HXv.out]; rfl)
 have z5 : w8.cell? ⟨w3.heap.size, 5, none⟩ = some (.int .i64 v5) := (HAb4.out.kept HQ8.out).cell 5 _ (by rw [HXv.out]; rfl)
 have HK8 := hid (HKc.out _ HQ8.out)
 have HB8 := hid (below2 HB4.out HQ8.out)
 clear HKc HSfc HStc HXd HXv HVd
 go_upto_region 7 with fail
 go_cut [12] from 27 to 45 (fun x wx => x = .bool sm ∧ wx = w8)
 case first =>
  cases s1 with
  | false =>
   go_wp2_with fail
   go_meet
   exact ⟨by rw [HSm.out]; rfl, rfl⟩
  | true =>
   cases s2 with
   | false =>
    go_wp2_with fail
    go_meet
    exact ⟨by rw [HSm.out]; rfl, rfl⟩
   | true =>
    go_wp2_with fail
    go_meet
    exact ⟨by rw [HSm.out]; rfl, rfl⟩
 case rest =>
  obtain ⟨rfl, hwx⟩ := hcut
  have hwx := hwx.symm
  subst hwx
  clear y0 y3 y5 z0 z3 z5 es1 es2 es3 HSm
  go_upto_region 8 with fail
  go_cut [57] from 46 to 56 (fun x wx => x = .bool (!sm && (n1 && !n2)) ∧ wx = w8)
  case first =>
   cases sm with
   | true =>
    go_wp2_with fail
    go_meet
    exact ⟨rfl, rfl⟩
   | false =>
    cases n1 with
    | false =>
     go_wp2_with fail
     go_meet
     exact ⟨rfl, rfl⟩
    | true =>
     go_wp2_with fail
     go_meet
     exact ⟨rfl, rfl⟩
  case rest =>
   obtain ⟨rfl, hwx⟩ := hcut
   have hwx := hwx.symm
   subst hwx
   obtain ⟨c8, hc8⟩ : ∃ q, (!sm && (n1 && !n2)) = q := ⟨_, rfl⟩
   rw [hc8]
   have HE8 := hid (show c8 = true → (p1 = true ∨ p2 = true) from fun h => by
    rw [h] at hc8
    simp only [Bool.and_eq_true, Bool.not_eq_true'] at hc8
    exact HC8.out hc8.1 hc8.2.1 hc8.2.2)
   clear hc8
   cases c8 with
   | true =>
    have h12 := HE8.out rfl
    cases p1 with
    | true =>
     go_wp2_with fail
     refine HK8.out.mono ?_
     rintro e w12 ⟨rfl, hb12⟩
     go_wp2
     go_ret
     exact ⟨rfl, below2 HB8.out hb12⟩
    | false =>
     obtain rfl : p2 = true := by rcases h12 with h | h; cases h; exact h
     clear h12
     go_wp2_with fail
     refine HK8.out.mono ?_
     rintro e w12 ⟨rfl, hb12⟩
     go_wp2
     go_ret
     exact ⟨rfl, below2 HB8.out hb12⟩
   | false =>
    clear HE8
    go_upto_region 10 with fail
    go_cut [84] from 67 to 83 (fun x wx => x = .bool false ∧ wx = w8)
    case first =>
     cases sm with
     | false =>
      go_wp2_with fail
      go_meet
      exact ⟨rfl, rfl⟩
     | true =>
      cases p3 with
      | true =>
       obtain rfl := HC10.out rfl (.inl rfl)
       go_wp2_with fail
       go_meet
       exact ⟨rfl, rfl⟩
      | false =>
       cases p4 with
       | true =>
        obtain rfl := HC10.out rfl (.inr (.inl rfl))
        go_wp2_with fail
        go_meet
        exact ⟨rfl, rfl⟩
       | false =>
        cases p5 with
        | true =>
         obtain rfl := HC10.out rfl (.inr (.inr rfl))
         go_wp2_with fail
         go_meet
         exact ⟨rfl, rfl⟩
        | false =>
         go_wp2_with fail
         go_meet
         exact ⟨rfl, rfl⟩
    case rest =>
     obtain ⟨rfl, hwx⟩ := hcut
     have hwx := hwx.symm
     subst hwx
     cases p6 with
     | true =>
      obtain rfl := HC6.out rfl
      cases p7 with
      | true =>
       obtain rfl := HC7.out rfl
       go_wp2_with fail
       refine HK8.out.mono ?_
       rintro e w12 ⟨rfl, hb12⟩
       go_wp2
       go_ret
       exact ⟨rfl, below2 HB8.out hb12⟩
      | false =>
       go_wp2_with fail
       refine HK8.out.mono ?_
       rintro e w12 ⟨rfl, hb12⟩
       go_wp2
       go_ret
       exact ⟨rfl, below2 HB8.out hb12⟩
     | false =>
      cases p7 with
      | true =>
       obtain rfl := HC7.out rfl
       go_wp2_with fail
       refine HK8.out.mono ?_
       rintro e w12 ⟨rfl, hb12⟩
       go_wp2
       go_ret
       exact ⟨rfl, below2 HB8.out hb12⟩
      | false =>
       go_wp2_with fail
       refine HK8.out.mono ?_
       rintro e w12 ⟨rfl, hb12⟩
       go_wp2
       go_ret
       exact ⟨rfl, below2 HB8.out hb12⟩

end Go.Proofs.YtamockkjbkibdaaGreatDoor
