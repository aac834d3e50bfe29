/- Walks and plain facts. -/
import Derived.Test.YtooihpkoplgmbaaGreatDoorProg
import Derived.Test.YtooihpkoplgmbaaGreatDoorQg1
import Derived.Test.YtooihpkoplgmbaaGreatDoorQg2
import Derived.Test.YtooihpkoplgmbaaGreatDoorQg3
import Derived.Test.YtooihpkoplgmbaaGreatDoorQg4
import Derived.Test.YtooihpkoplgmbaaGreatDoorQg5
import Derived.Test.YtooihpkoplgmbaaGreatDoorQg6
import Derived.Test.YtooihpkoplgmbaaGreatDoorQg7
import Derived.Test.YtooihpkoplgmbaaGreatDoorQg8
import Derived.Test.YtooihpkoplgmbaaGreatDoorQg9
import Derived.Test.YtooihpkoplgmbaaGreatDoorQg10
import Derived.Test.YtooihpkoplgmbaaGreatDoorQg11
import Derived.Test.YtooihpkoplgmbaaGreatDoorQg12
import Derived.Test.YtooihpkoplgmbaaGreatDoorQg13
import Derived.Test.YtooihpkoplgmbaaGreatDoorQg14
import Derived.Test.YtooihpkoplgmbaaGreatDoorQg15
import Derived.Test.YtooihpkoplgmbaaGreatDoorQg16
import Derived.Test.YtooihpkoplgmbaaGreatDoorQg17
import Derived.Test.YtooihpkoplgmbaaGreatDoorQg18
import Derived.Test.YtooihpkoplgmbaaGreatDoorQg19
import Derived.Test.YtooihpkoplgmbaaGreatDoorQg20
import Derived.Test.YtooihpkoplgmbaaGreatDoorQg21
import Derived.Test.YtooihpkoplgmbaaGreatDoorQg22
import Derived.Test.YtooihpkoplgmbaaGreatDoorQg23
import Derived.Test.YtooihpkoplgmbaaGreatDoorQg24
import Derived.Test.YtooihpkoplgmbaaGreatDoorQg25
import Derived.Test.YtooihpkoplgmbaaGreatDoorQg26
import Derived.Test.YtooihpkoplgmbaaGreatDoorQg27
import Derived.Test.YtooihpkoplgmbaaGreatDoorQg28
import Derived.Test.YtooihpkoplgmbaaGreatDoorQg29
import Derived.Test.YtooihpkoplgmbaaGreatDoorQg30
import Derived.Test.YtooihpkoplgmbaaGreatDoorQg31
import Derived.Test.YtooihpkoplgmbaaGreatDoorQg32
import Derived.Test.YtooihpkoplgmbaaGreatDoorQg33
import Derived.Test.YtooihpkoplgmbaaGreatDoorQg34
import Derived.Test.YtooihpkoplgmbaaGreatDoorQg35
import Derived.Test.YtooihpkoplgmbaaGreatDoorQg36
import Derived.Laws.RangeAny
import Derived.Lib.DecodeN
import Derived.Lib.OthersKept
import Derived.Lib.IndexBytes
import Derived.Deep.LoopGhost
import Derived.RegionTactic
import Derived.Deep.RegionWith
import Derived.Deep.QuietTactic
import Derived.BigQuiet
import Derived.Laws.Runes
import Derived.Deep.WholeRow
import Derived.Below
import Derived.WalkSmall
import Derived.Laws.OwnMore
import Derived.Deep.RegionHeld
import Derived.Deep.RegionHeldLaw
import Derived.BigRegion
import Derived.Laws.AppendOwn
import Derived.Lib.AppendStr
import Derived.Lib.AppendIntMem
import Derived.Laws.AppendOwnNone
import Derived.Deep.RegionLaw
import Derived.Deep.CutRange
import Derived.Deep.CutBlock
import Derived.Deep.Cut
import Derived.Lib.IndexMore
import Derived.Lib.Join
import Derived.Lib.LastIndexByte
import Derived.WalkKit
import Derived.WalkSpells
import Derived.WalkLawsBesides
import Derived.Laws.CopyOwn
import Derived.Laws.ResultCell
import Derived.Deep.MidRow
import Derived.Lib.LaidTab
import Derived.Lib.SmallJoins
import Derived.Laws.BitsAll
import Derived.Lib.FieldsP
import Derived.Shelf.GgClosure.GivesRunes
import Derived.Lib.Strings
import Derived.Lib.UnsafeStr
import Derived.Laws.IdiomStrings
import Derived.Laws.BitsAllLaws
import Derived.Lib.Bytealg
import Derived.Lib.BufferMore
import Derived.Lib.BufferRead
import Derived.Lib.RuneBytes
import Derived.LoopN
import Derived.OwnWalk
import Derived.Shelf.Strings.Builder1
import Derived.Shelf.Strings.Builder2
import Derived.Shelf.Strings.OnBuilder
import Derived.Shelf.Strings.Trim
import Derived.Shelf.Small.Utf8
import Derived.Shelf.Small.Bits
import Derived.Shelf.Small.Strs
import Derived.Shelf.Small.Wraps
import Derived.Shelf.Strings.BuilderF
import Derived.Shelf.Strings.BuilderK
import Derived.Shelf.Utf8.RuneCount
import Derived.Shelf.Strings.Builder2Cap
import Derived.Shelf.Strconv.Itoa0
import Derived.Shelf.Strconv.Itoa1
import Derived.Shelf.LaysM
import Derived.Shelf.Strconv.Itoa2
import Derived.Shelf.Strconv.Itoa3
import Derived.Shelf.Strings.Search1
import Derived.Shelf.Strings.Search2
import Derived.Shelf.Strings.Search3
import Derived.Shelf.Strings.Cut
import Derived.Shelf.Strings.Count
import Derived.Shelf.Strings.Shaped
import Derived.Shelf.Sort.Plain
import Derived.Shelf.Strings.LastIndex
import Derived.Shelf.Strings.Prefix
import Derived.Shelf.Strings.Split
import Derived.Shelf.Strings.Replace
import Derived.Shelf.Strings.SplitShaped
import Derived.Shelf.Unicode.Decode
import Derived.Shelf.Strings.Runes
import Derived.Shelf.Strings.RuneCount
import Derived.Shelf.Strings.IndexAny
import Derived.Shelf.Strings.AsciiSet
import Derived.Shelf.Strings.IndexAnyAll
import Derived.Shelf.Strings.Explode
import Derived.Shelf.Unicode.DecodeSlow
import Derived.Shelf.Unicode.DecodeAny
import Derived.Shelf.Unicode.DecodeLast
import Derived.Shelf.Strings.FieldsFuncAny
import Derived.Shelf.Strings.FieldsFuncGrows
import Derived.Shelf.Slices.Equal
import Derived.Ground.Names2Prog
import Derived.Shelf.Slices.Clone
import Derived.Shelf.Slices.CompactS
import Derived.Shelf.Slices.Cells
import Derived.Shelf.Slices.In.SortNone
import Derived.Ground.SlgnProg
import Derived.Shelf.SlicesE.Equal
import Derived.Shelf.SlicesE.Clone
import Derived.Scope
import Derived.ScopeJumps
import Derived.WalkMore
import Derived.Lib.IndexAny
import Derived.Lib.Replace
import Derived.Lib.TrimByte
import Derived.Lib.ItoaNum
import Derived.Laws.BytesString
import Derived.Lib.FrozenHead2
import Derived.Lib.Builder
import Derived.Lib.SlTrimSet
import Derived.Shelf.Strings.SlTrimAscii
import Derived.Shelf.Spec.SearchS
import Derived.Sort.Walk0
import Derived.Sort.OwnSorted
import Derived.Laws.EntriesVeiled
set_option linter.unusedSimpArgs false
set_option linter.unusedVariables false
set_option maxHeartbeats 16000000
set_option maxRecDepth 100000

namespace Go.Proofs.YtooihpkoplgmbaaGreatDoor
open Go.RowKit
def vA : Vio := ⟨0, [100, 101, 102, 97, 117, 108, 116, 45, 115, 114, 99], [104, 116, 116, 112, 115, 58, 47, 47, 98, 46, 99, 111, 109], true⟩
def vB : Vio := ⟨1, [115, 99, 114, 105, 112, 116, 45, 115, 114, 99], [104, 116, 116, 112, 115, 58, 47, 47, 98, 46, 99, 111, 109], false⟩
def vD : Vio := ⟨0, [100, 101, 102, 97, 117, 108, 116, 45, 115, 114, 99], [100, 97, 116, 97], true⟩
theorem gn1 : chkW [(polV [100, 101, 102, 97, 117, 108, 116, 45, 115, 114, 99, 32, 39, 115, 101, 108, 102, 39], true), (polV [115, 99, 114, 105, 112, 116, 45, 115, 114, 99, 32, 39, 110, 111, 110, 99, 101, 45, 97, 39], false)] (adrOf (urlV [104, 116, 116, 112, 115, 58, 47, 47, 98, 46, 99, 111, 109, 47, 120])) pageP 2 0 [] [] = [vA, vB] := by decide +kernel
theorem gn2 : chkW [(polV [100, 101, 102, 97, 117, 108, 116, 45, 115, 114, 99, 32, 39, 115, 101, 108, 102, 39], true), (polV [115, 99, 114, 105, 112, 116, 45, 115, 114, 99, 32, 39, 110, 111, 110, 99, 101, 45, 97, 39], false)] (adrOf (urlV [100, 97, 116, 97, 58, 120])) pageP 5 0 [] [] = [vD] := by decide +kernel
theorem gn3 : chkW [(polV [115, 99, 114, 105, 112, 116, 45, 115, 114, 99, 32, 39, 110, 111, 110, 99, 101, 45, 97, 39], false)] (adrOf (urlV [104, 116, 116, 112, 115, 58, 47, 47, 98, 46, 99, 111, 109, 47, 120])) pageP 4 0 [97] [] = [] := by decide +kernel
theorem gn4 : chkW [(polV [115, 99, 114, 105, 112, 116, 45, 115, 114, 99, 32, 39, 110, 111, 110, 99, 101, 45, 97, 39], false)] (adrOf (urlV [104, 116, 116, 112, 115, 58, 47, 47, 98, 46, 99, 111, 109, 47, 120])) pageP 2 0 [97] [] = [] := by decide +kernel
theorem gn5 : chkW [(polV [100, 101, 102, 97, 117, 108, 116, 45, 115, 114, 99, 32, 39, 115, 101, 108, 102, 39], true), (polV [115, 99, 114, 105, 112, 116, 45, 115, 114, 99, 32, 39, 110, 111, 110, 99, 101, 45, 97, 39], false)] (adrOf (urlV [104, 116, 116, 112, 115, 58, 47, 47, 98, 47])) pageP 99 0 [] [] = [] := by decide +kernel
theorem vl_four {w : World} {b : Option Addr} {k c : Nat} {L : List Vio} (h : VlAt w (.slice b k c) L) (i : Nat) (hi : i < L.length) : ∃ g o, b = some ⟨g, o, none⟩ /\ w.rangeAt g (o + i * 4) (vioCells L[i]) := by
 obtain ⟨a, c2, e, _, _, h3⟩ := h.view
 injection e with e1 _ _
 subst e1
 exact h3 i hi
theorem guardNumbers_walk (w : World) (hg : Gd w) :
  Calls Tryz.prog 3 #[] w fun e w' => e = .returned (.bool true) /\ Below w.heap.size w w' := by
 have HG := hid hg
 have HP1 := hid (fun (Z : World) => parseP (⟨#[100, 101, 102, 97, 117, 108, 116, 45, 115, 114, 99, 32, 39, 115, 101, 108, 102, 39]⟩ : ByteArray) true _ Z (by decide) rfl)
 have HP2 := hid (fun (Z : World) => parseP (⟨#[115, 99, 114, 105, 112, 116, 45, 115, 114, 99, 32, 39, 110, 111, 110, 99, 101, 45, 97, 39]⟩ : ByteArray) false _ Z (by decide) rfl)
 rw [show (⟨#[100, 101, 102, 97, 117, 108, 116, 45, 115, 114, 99, 32, 39, 115, 101, 108, 102, 39]⟩ : ByteArray).data.toList = [100, 101, 102, 97, 117, 108, 116, 45, 115, 114, 99, 32, 39, 115, 101, 108, 102, 39] from rfl] at HP1
 rw [show (⟨#[115, 99, 114, 105, 112, 116, 45, 115, 114, 99, 32, 39, 110, 111, 110, 99, 101, 45, 97, 39]⟩ : ByteArray).data.toList = [115, 99, 114, 105, 112, 116, 45, 115, 114, 99, 32, 39, 110, 111, 110, 99, 101, 45, 97, 39] from rfl] at HP2
 have HA1 := hid (fun (Z : World) => ask12_any (⟨#[104, 116, 116, 112, 115, 58, 47, 47, 98, 46, 99, 111, 109, 47, 120]⟩ : ByteArray) 2 Z (by decide))
 have HA2 := hid (fun (Z : World) => ask12_any (⟨#[100, 97, 116, 97, 58, 120]⟩ : ByteArray) 5 Z (by decide))
 have HA3 := hid (fun (Z : World) => ask12_any (⟨#[104, 116, 116, 112, 115, 58, 47, 47, 98, 47]⟩ : ByteArray) 99 Z (by decide))
 unfold AkPost at HA1 HA2 HA3
 rw [show (⟨#[104, 116, 116, 112, 115, 58, 47, 47, 98, 46, 99, 111, 109, 47, 120]⟩ : ByteArray).data.toList = [104, 116, 116, 112, 115, 58, 47, 47, 98, 46, 99, 111, 109, 47, 120] from rfl] at HA1
 rw [show (⟨#[100, 97, 116, 97, 58, 120]⟩ : ByteArray).data.toList = [100, 97, 116, 97, 58, 120] from rfl] at HA2
 rw [show (⟨#[104, 116, 116, 112, 115, 58, 47, 47, 98, 47]⟩ : ByteArray).data.toList = [104, 116, 116, 112, 115, 58, 47, 47, 98, 47] from rfl] at HA3
 have hz1 := szl_pol [100, 101, 102, 97, 117, 108, 116, 45, 115, 114, 99, 32, 39, 115, 101, 108, 102, 39] (by decide)
 have hz2 := szl_pol [115, 99, 114, 105, 112, 116, 45, 115, 114, 99, 32, 39, 110, 111, 110, 99, 101, 45, 97, 39] (by decide)
 have f1 := gn1
 have f2 := gn2
 have f3 := gn3
 have f4 := gn4
 have f5 := gn5
 have g1 : GuU (adrOf (urlV [104, 116, 116, 112, 115, 58, 47, 47, 98, 46, 99, 111, 109, 47, 120])) := gu_read _
 have g2 : GuU (adrOf (urlV [100, 97, 116, 97, 58, 120])) := gu_read _
 have g3 : GuU (adrOf (urlV [104, 116, 116, 112, 115, 58, 47, 47, 98, 47])) := gu_read _
 have gp : GuU pageP := gu_read _
 generalize polV [100, 101, 102, 97, 117, 108, 116, 45, 115, 114, 99, 32, 39, 115, 101, 108, 102, 39] = L1 at *
 generalize polV [115, 99, 114, 105, 112, 116, 45, 115, 114, 99, 32, 39, 110, 111, 110, 99, 101, 45, 97, 39] = L2 at *
 generalize adrOf (urlV [104, 116, 116, 112, 115, 58, 47, 47, 98, 46, 99, 111, 109, 47, 120]) = U at *
 generalize adrOf (urlV [100, 97, 116, 97, 58, 120]) = UD at *
 generalize adrOf (urlV [104, 116, 116, 112, 115, 58, 47, 47, 98, 47]) = UC at *
 have HCk := hid (fun (Ps : List (List Ru × Bool)) (u : Adr) (dt : Int) (n : ByteArray) (L : List Vio) (k : Nat) (v pv uv : Value) (Z : World) (h1 : Below w.heap.size w Z) (h2 : PlAt Z v Ps) (h3 : AskAt Z ⟨pageP, pv, u, uv, dt, 0, n, ⟨#[]⟩⟩) (hl : Ps.length <= 1000) (hz : ∀ q ∈ Ps, SzL q.1) (hu : GuU u) (h5 : n.size <= 1000000) (h7 : chkW Ps u pageP dt 0 n.data.toList [] = L) (hk : L.length = k) => check_at12 v Ps ⟨pageP, pv, u, uv, dt, 0, n, ⟨#[]⟩⟩ L k Z (HG.out.kept h1) h2 hl hz h3 ⟨gp, hu, h5, show (⟨#[]⟩ : ByteArray).size <= 1000000 by decide⟩ (by rw [chkV_eq]; exact h7) hk)
 have HZ12 := hid (show ∀ q ∈ [(L1, true), (L2, false)], SzL q.1 from fun q hq => by
  rcases List.mem_cons.1 hq with rfl | hq
  ·exact hz1
  ·rw [List.mem_singleton.1 hq]; exact hz2)
 have HZ2 := hid (show ∀ q ∈ [(L2, false)], SzL q.1 from fun q hq => by rw [List.mem_singleton.1 hq]; exact hz2)
 have HBw := hid (fun (v : Value) (Z : World) (h : VlAt Z v [vD]) => blocks12_any v [vD] Z h (by decide))
 rw [show blkV12 [vD] = false from rfl] at HBw
 have HBn := hid (fun (Z : World) => blocks12_any (.slice none 0 0) [] Z (vl_nil Z) (by decide))
 rw [show blkV12 [] = false from rfl] at HBn
 have HKn := hid (fun (Z : World) (h : Below w.heap.size w Z) => known12_any Z (HG.out.kept h))
 have HF1 := hid f1
 have HF2 := hid f2
 have HF3 := hid f3
 have HF4 := hid f4
 have HF5 := hid f5
 have HG1 := hid g1
 have HG2 := hid g2
 have HG3 := hid g3
 obtain ⟨n1, hn1⟩ : ∃ n, L1.length = n := ⟨_, rfl⟩
 obtain ⟨n2, hn2⟩ : ∃ n, L2.length = n := ⟨_, rfl⟩
 rw [hn1] at HP1
 rw [hn2] at HP2
 have HN1 := hid hn1
 have HN2 := hid hn2
 clear hg hz1 hz2 f1 f2 f3 f4 f5 g1 g2 g3 gp hn1 hn2
 go_enter Tryz.func3, Tryz.ntmps3
 go_wp2_with fail
 refine (HP1.out _).mono ?_
 rintro e w1 ⟨a1, c1, rfl, ⟨_, _, hpo1⟩, hb1⟩
 go_wp2_with fail
 refine (HP2.out _).mono ?_
 rintro e w2 ⟨a2, c2, rfl, ⟨_, _, hpo2⟩, hb2⟩
 obtain ⟨W2, hW2⟩ : ∃ X, (w2.alloc (.cells #[.slice a1 n1 c1, .bool true, .slice a2 n2 c2, .bool false] 24)) = X := ⟨_, rfl⟩
 have hbW2 : Below w2.heap.size w2 W2 := by rw [<- hW2]; exact (Below.refl _ w2).alloc (Nat.le_refl _) _
 have hpl := pl_two12 true false (hpo1.kept hb2) HN1.out hpo2 HN2.out
 rw [hW2] at hpl
 have HPl2 := hid hpl.1
 have HPt2 := hid hpl.2
 have HB2 := hid (below2 (below2 hb1 hb2) hbW2)
 clear hpo1 hpo2 hb1 hb2 hbW2 hpl
 go_wp2_with fail
 refine (HA1.out _).mono ?_
 rintro e w3 ⟨pv3, uv3, rfl, hak3, hb3⟩
 have HB3 := hid (below2 HB2.out hb3)
 have HPl3 := hid (HPl2.out.kept hb3)
 have HPt3 := hid (HPt2.out.kept hb3)
 have HAk3 := hid hak3
 clear hak3 hb3
 go_wp2_with fail
 refine (HCk.out [(L1, true), (L2, false)] U 2 ⟨#[]⟩ [vA, vB] 2 _ pv3 uv3 _ HB3.out HPl3.out HAk3.out (by simp) HZ12.out HG1.out (by decide) HF1.out rfl).mono ?_
 rintro e w4 ⟨v4, vc4, rfl, hvl4, hb4⟩
 have HB4 := hid (below2 HB3.out hb4)
 have HPl4 := hid (HPl3.out.kept hb4)
 have HPt4 := hid (HPt3.out.kept hb4)
 have HV4 := hid hvl4
 clear hb4 hvl4
 go_wp2_with fail
 refine (HA2.out _).mono ?_
 rintro e w5 ⟨pv5, uv5, rfl, hak5, hb5⟩
 have HB5 := hid (below2 HB4.out hb5)
 have HPl5 := hid (HPl4.out.kept hb5)
 have HPt5 := hid (HPt4.out.kept hb5)
 have HAk5 := hid hak5
 have HV5 := hid (HV4.out.kept hb5)
 clear hak5 hb5
 go_wp2_with fail
 refine (HCk.out [(L1, true), (L2, false)] UD 5 ⟨#[]⟩ [vD] 1 _ pv5 uv5 _ HB5.out HPl5.out HAk5.out (by simp) HZ12.out HG2.out (by decide) HF2.out rfl).mono ?_
 rintro e w6 ⟨v6, vc6, rfl, hvl6, hb6⟩
 have HB6 := hid (below2 HB5.out hb6)
 have HPl6 := hid (HPl5.out.kept hb6)
 have HPt6 := hid (HPt5.out.kept hb6)
 have HV6 := hid (HV5.out.kept hb6)
 have HW6 := hid hvl6
 clear hb6 hvl6
 go_wp2_with fail
 refine (HA1.out _).mono ?_
 rintro e w7 ⟨pv7, uv7, rfl, hak7, hb7⟩
 have HB7 := hid (below2 HB6.out hb7)
 have HPl7 := hid (HPl6.out.kept hb7)
 have HPt7 := hid (HPt6.out.kept hb7)
 have HV7 := hid (HV6.out.kept hb7)
 have HW7 := hid (HW6.out.kept hb7)
 obtain ⟨pa, pn, pc, ya, yn, yc, hpv, huv⟩ := ask_named12 _ _ hak7
 have hpv : pv7 = .slice pa pn pc := hpv
 have huv : uv7 = .slice ya yn yc := huv
 subst hpv
 subst huv
 obtain ⟨p0, p1, p2, p3, p4, p5, p6, p8, p9, p10, p11, hxp⟩ := adr_cells pageP pa pn pc
 obtain ⟨y0, y1, y2, y3, y4, y5, y6, y8, y9, y10, y11, hxy⟩ := adr_cells U ya yn yc
 have HXa := hid (show ∀ (d : Int) (n : ByteArray), askCells ⟨pageP, .slice pa pn pc, U, .slice ya yn yc, d, 0, n, ⟨#[]⟩⟩ = [.string p0, .string p1, .string p2, .string p3, .bool p4, .int .i64 p5, .bool p6, .slice pa pn pc, .string p8, .string p9, .bool p10, .bool p11, .string y0, .string y1, .string y2, .string y3, .bool y4, .int .i64 y5, .bool y6, .slice ya yn yc, .string y8, .string y9, .bool y10, .bool y11, .int .i64 d, .int .i64 0, .string n, .string ⟨#[]⟩] from fun d n => by
  unfold askCells; dsimp only; rw [hxp, hxy]; rfl)
 have HVa := hid (show ∀ (d : Int) (n : ByteArray), askVal ⟨pageP, .slice pa pn pc, U, .slice ya yn yc, d, 0, n, ⟨#[]⟩⟩ = .agg #[.string p0, .string p1, .string p2, .string p3, .bool p4, .int .i64 p5, .bool p6, .slice pa pn pc, .string p8, .string p9, .bool p10, .bool p11, .string y0, .string y1, .string y2, .string y3, .bool y4, .int .i64 y5, .bool y6, .slice ya yn yc, .string y8, .string y9, .bool y10, .bool y11, .int .i64 d, .int .i64 0, .string n, .string ⟨#[]⟩] from fun d n => by unfold askVal; rw [HXa.out])
 have hva : askVal (askOf U (.slice pa pn pc) (.slice ya yn yc) 2) = .agg #[.string p0, .string p1, .string p2, .string p3, .bool p4, .int .i64 p5, .bool p6, .slice pa pn pc, .string p8, .string p9, .bool p10, .bool p11, .string y0, .string y1, .string y2, .string y3, .bool y4, .int .i64 y5, .bool y6, .slice ya yn yc, .string y8, .string y9, .bool y10, .bool y11, .int .i64 2, .int .i64 0, .string ⟨#[]⟩, .string ⟨#[]⟩] := HVa.out 2 ⟨#[]⟩
 rw [hva]
 clear hva hxp hxy
 obtain ⟨Wz, hWz⟩ : ∃ X, (w7.alloc (.cells #[.string ⟨#[]⟩, .string ⟨#[]⟩, .string ⟨#[]⟩, .string ⟨#[]⟩, .bool false, .int .i64 0, .bool false, .slice none 0 0, .string ⟨#[]⟩, .string ⟨#[]⟩, .bool false, .bool false, .string ⟨#[]⟩, .string ⟨#[]⟩, .string ⟨#[]⟩, .string ⟨#[]⟩, .bool false, .int .i64 0, .bool false, .slice none 0 0, .string ⟨#[]⟩, .string ⟨#[]⟩, .bool false, .bool false, .int .i64 0, .int .i64 0, .string ⟨#[]⟩, .string ⟨#[]⟩] 33)) = X := ⟨_, rfl⟩
 have hbWz : Below w7.heap.size w7 Wz := by rw [<- hWz]; exact (Below.refl _ w7).alloc (Nat.le_refl _) _
 have hrz : Wz.heap[w7.heap.size]? = some (.cells #[.string ⟨#[]⟩, .string ⟨#[]⟩, .string ⟨#[]⟩, .string ⟨#[]⟩, .bool false, .int .i64 0, .bool false, .slice none 0 0, .string ⟨#[]⟩, .string ⟨#[]⟩, .bool false, .bool false, .string ⟨#[]⟩, .string ⟨#[]⟩, .string ⟨#[]⟩, .string ⟨#[]⟩, .bool false, .int .i64 0, .bool false, .slice none 0 0, .string ⟨#[]⟩, .string ⟨#[]⟩, .bool false, .bool false, .int .i64 0, .int .i64 0, .string ⟨#[]⟩, .string ⟨#[]⟩] 33 (0, 0)) := by rw [<- hWz]; exact heap_alloc_new w7 _
 obtain ⟨W8, hW8⟩ : ∃ X, Wz.setCells w7.heap.size 0 [.string p0, .string p1, .string p2, .string p3, .bool p4, .int .i64 p5, .bool p6, .slice pa pn pc, .string p8, .string p9, .bool p10, .bool p11, .string y0, .string y1, .string y2, .string y3, .bool y4, .int .i64 y5, .bool y6, .slice ya yn yc, .string y8, .string y9, .bool y10, .bool y11, .int .i64 2, .int .i64 0, .string ⟨#[]⟩, .string ⟨#[]⟩] = X := ⟨_, rfl⟩
 have HWs := hid hW8.symm
 have HTh := hid (show Wz.there w7.heap.size 0 28 from fun j hj => ⟨by rw [Nat.zero_add, Lib.cell_of_heap hrz]; simp; omega, Lib.frozen_of_heap hrz _⟩)
 have HOne := hid (show (#[.string p0, .string p1, .string p2, .string p3, .bool p4, .int .i64 p5, .bool p6, .slice pa pn pc, .string p8, .string p9, .bool p10, .bool p11, .string y0, .string y1, .string y2, .string y3, .bool y4, .int .i64 y5, .bool y6, .slice ya yn yc, .string y8, .string y9, .bool y10, .bool y11, .int .i64 2, .int .i64 0, .string ⟨#[]⟩, .string ⟨#[]⟩] : Array Value).all (·.oneCell') = true by
  have := all_oneCell_toArray (askCells_one ⟨pageP, .slice pa pn pc, U, .slice ya yn yc, 2, 0, ⟨#[]⟩, ⟨#[]⟩⟩ ⟨_, _, _, rfl⟩ ⟨_, _, _, rfl⟩)
  rw [HXa.out] at this
  exact this)
 have HD8 := hid (show Below w7.heap.size w7 W8 by rw [<- hW8]; exact below_setCells (b := w7.heap.size) (Nat.le_refl _) _ 0 _ hbWz)
 have HR8 := hid (show W8.heap[w7.heap.size]? = some (.cells (askCells ⟨pageP, .slice pa pn pc, U, .slice ya yn yc, 2, 0, ⟨#[]⟩, ⟨#[]⟩⟩).toArray 33 (0, 0)) by rw [HXa.out, <- hW8]; exact setCells_all12 _ hrz (by simp))
 have HK := hid (show ∀ (d : Int) (n : ByteArray) (Z : World), Below w7.heap.size w7 Z -> AskAt Z ⟨pageP, .slice pa pn pc, U, .slice ya yn yc, d, 0, n, ⟨#[]⟩⟩ from fun d n Z hZ => ⟨hak7.1.kept hZ, hak7.2.kept hZ⟩)
 clear hW8 hbWz hrz hak7 hb7
 have sy9 : W8.cell? ⟨w7.heap.size, 26, none⟩ = some (.string ⟨#[]⟩) := (ask_last HR8.out).2.2.1
 have sz9 : W8.frozen? ⟨w7.heap.size, 26, none⟩ = false := Lib.frozen_of_heap HR8.out _
 obtain ⟨W9, hW9⟩ : ∃ X, (W8.setCell ⟨w7.heap.size, 26, none⟩ (.string ⟨#[97]⟩)) = X := ⟨_, rfl⟩
 have HR9 := hid (show W9.heap[w7.heap.size]? = some (.cells (askCells ⟨pageP, .slice pa pn pc, U, .slice ya yn yc, 2, 0, (⟨#[97]⟩ : ByteArray), ⟨#[]⟩⟩).toArray 33 (0, 0)) by
  rw [<- hW9]
  exact Lib.heap_setCell_same HR8.out (i := 26) (.string ⟨#[97]⟩))
 have HD9 := hid (show Below w7.heap.size w7 W9 by rw [<- hW9]; exact HD8.out.setCell (p := ⟨w7.heap.size, 26, none⟩) (Nat.le_refl _) _)
 have sy10 : W9.cell? ⟨w7.heap.size, 24, none⟩ = some (.int .i64 2) := (ask_last HR9.out).1
 have sz10 : W9.frozen? ⟨w7.heap.size, 24, none⟩ = false := Lib.frozen_of_heap HR9.out _
 obtain ⟨W10, hW10⟩ : ∃ X, (W9.setCell ⟨w7.heap.size, 24, none⟩ (.int .i64 4)) = X := ⟨_, rfl⟩
 have HR10 := hid (show W10.heap[w7.heap.size]? = some (.cells (askCells ⟨pageP, .slice pa pn pc, U, .slice ya yn yc, 4, 0, (⟨#[97]⟩ : ByteArray), ⟨#[]⟩⟩).toArray 33 (0, 0)) by
  rw [<- hW10]
  exact Lib.heap_setCell_same HR9.out (i := 24) (.int .i64 4))
 have HD10 := hid (show Below w7.heap.size w7 W10 by rw [<- hW10]; exact HD9.out.setCell (p := ⟨w7.heap.size, 24, none⟩) (Nat.le_refl _) _)
 have HQ0 := hid ((Below.refl W10.heap.size W10).drew)
 have HRg := hid (show ∀ Z, Below W10.heap.size W10 Z -> Z.rangeAt w7.heap.size 0 [.string p0, .string p1, .string p2, .string p3, .bool p4, .int .i64 p5, .bool p6, .slice pa pn pc, .string p8, .string p9, .bool p10, .bool p11, .string y0, .string y1, .string y2, .string y3, .bool y4, .int .i64 y5, .bool y6, .slice ya yn yc, .string y8, .string y9, .bool y10, .bool y11, .int .i64 4, .int .i64 0, .string (⟨#[97]⟩ : ByteArray), .string ⟨#[]⟩] from fun Z hZ => by
  have := range_row (row_kept HR10.out hZ)
  rw [HXa.out] at this
  exact this)
 have HCx := hid (fun (Z : World) (hZ : Below w7.heap.size w7 Z) => HCk.out [(L2, false)] U 4 (⟨#[97]⟩ : ByteArray) [] 0 (.slice (some ⟨w2.heap.size, 2, none⟩) 1 1) (.slice pa pn pc) (.slice ya yn yc) Z (below2 HB7.out hZ) (HPt7.out.kept hZ) (HK.out _ _ Z hZ) (by simp) HZ2.out HG1.out (by decide) HF3.out rfl)
 rw [HVa.out] at HCx
 go_upto_region 7 with (refine wpList_store_mid rfl 33 (.tmp 4) (.tmp 16) rfl w7.heap.size 0 #[.string p0, .string p1, .string p2, .string p3, .bool p4, .int .i64 p5, .bool p6, .slice pa pn pc, .string p8, .string p9, .bool p10, .bool p11, .string y0, .string y1, .string y2, .string y3, .bool y4, .int .i64 y5, .bool y6, .slice ya yn yc, .string y8, .string y9, .bool y10, .bool y11, .int .i64 2, .int .i64 0, .string ⟨#[]⟩, .string ⟨#[]⟩] rfl rfl HTh.out sizeA HOne.out ?_; refine wpList_worldO HWs.out ?_)
 refine wp_region_held_drew (S := (fun wx => Below W10.heap.size W10 wx)) (by kernel_rfl) HQ0.out (fun hHeld => ?_)
 refine wpAnyH_to (fuel' := 5) (listed' := #[false, false, false, false, false]) rfl rfl ?_
 refine' wpAnyH_take (i := 0) (oi := ⟨some 19, _, _, _, _, _⟩) (v := _) rfl (by kernel_rfl) (by kernel_rfl) (by kernel_rfl) (fun _ _ _ h => h) (Or.inl ⟨by kernel_rfl, ?hyg71⟩) (by assumption) ?restg71
 case hyg71 => (intro wx hSw; (try dsimp only at hSw); go_simp; first | done | with_reducible rfl)
 (try simp only [Act.put, List.setIfInBounds_toArray, List.set_cons_zero, List.set_cons_succ])
 refine' wpAnyH_take (i := 1) (oi := ⟨some 20, _, _, _, _, _⟩) (v := _) rfl (by kernel_rfl) (by kernel_rfl) (by kernel_rfl) (fun _ _ _ h => h) (Or.inl ⟨by kernel_rfl, ?hyg72⟩) (by assumption) ?restg72
 case hyg72 => (intro wx hSw; (try dsimp only at hSw); go_simp; first | done | with_reducible rfl)
 (try simp only [Act.put, List.setIfInBounds_toArray, List.set_cons_zero, List.set_cons_succ])
 refine wpAnyH_take (i := 2) (oi := ⟨some 21, _, _, _, _, _⟩) rfl (by kernel_rfl) (by kernel_rfl) (by kernel_rfl) (fun _ _ _ h => h) (yieldsIf_load_mid (by kernel_rfl) 33 (.tmp 4) rfl (w7.heap.size) 0 rfl [.string p0, .string p1, .string p2, .string p3, .bool p4, .int .i64 p5, .bool p6, .slice pa pn pc, .string p8, .string p9, .bool p10, .bool p11, .string y0, .string y1, .string y2, .string y3, .bool y4, .int .i64 y5, .bool y6, .slice ya yn yc, .string y8, .string y9, .bool y10, .bool y11, .int .i64 4, .int .i64 0, .string (⟨#[97]⟩ : ByteArray), .string ⟨#[]⟩] _ (HRg.out) Tryz.underlying33 rfl sizeA) (by assumption) ?_
 (try simp only [Act.put, List.setIfInBounds_toArray, List.set_cons_zero, List.set_cons_succ])
 refine wpAnyH_ready (rs := [3]) (by kernel_rfl) (by simp) ?_
 refine AllReadyH.cons rfl (fun K9 hK => ?_) AllReadyH.nil
 rw [if_pos (by kernel_rfl)]
 go_simp
 go_wp2_with (go_at_call 8; refine (HCx.out _ (below2 HD10.out HQ0.out)).mono ?_; rintro e w11 ⟨b11, c11, rfl, hvl11, hba⟩)
 have HQ11 := hid (below2 HQ0.out hba)
 clear hvl11
 clear hba
 refine hK.out _ _ HQ11.out (fun hHeld2 => ?_)
 clear hK K9 hHeld
 rename _ => hHeld
 refine' wpAnyH_take (i := 4) (oi := ⟨some 5, _, _, _, _, _⟩) (v := _) rfl (by kernel_rfl) (by kernel_rfl) (by kernel_rfl) (fun _ _ _ h => h) (Or.inl ⟨by kernel_rfl, ?hyg73⟩) (by assumption) ?restg73
 case hyg73 => (intro wx hSw; (try dsimp only at hSw); go_simp; first | done | with_reducible rfl)
 (try simp only [Act.put, List.setIfInBounds_toArray, List.set_cons_zero, List.set_cons_succ])
 refine wpAnyH_done (by kernel_rfl) ?_ _
 have HD11 := hid (below2 HD10.out HQ11.out)
 have HR11 := hid (row_kept HR10.out HQ11.out)
 have sy12 : w11.cell? ⟨w7.heap.size, 24, none⟩ = some (.int .i64 4) := (ask_last HR11.out).1
 have sz12 : w11.frozen? ⟨w7.heap.size, 24, none⟩ = false := Lib.frozen_of_heap HR11.out _
 obtain ⟨W12, hW12⟩ : ∃ X, (w11.setCell ⟨w7.heap.size, 24, none⟩ (.int .i64 2)) = X := ⟨_, rfl⟩
 have HR12 := hid (show W12.heap[w7.heap.size]? = some (.cells (askCells ⟨pageP, .slice pa pn pc, U, .slice ya yn yc, 2, 0, (⟨#[97]⟩ : ByteArray), ⟨#[]⟩⟩).toArray 33 (0, 0)) by
  rw [<- hW12]
  exact Lib.heap_setCell_same HR11.out (i := 24) (.int .i64 2))
 have HD12 := hid (show Below w7.heap.size w7 W12 by rw [<- hW12]; exact HD11.out.setCell (p := ⟨w7.heap.size, 24, none⟩) (Nat.le_refl _) _)
 obtain ⟨g4, o4, hg4, hv40⟩ := vl_four HV7.out 0 (by decide)
 obtain ⟨g4', o4', hg4', hv41⟩ := vl_four HV7.out 1 (by decide)
 rw [hg4] at hg4'
 injection hg4' with hg4'
 injection hg4' with e1 e2 _
 subst e1
 subst e2
 subst hg4
 obtain ⟨g6, o6, hg6, hv60⟩ := vl_four HW7.out 0 (by decide)
 subst hg6
 have HD12w := hid HD12.out
 have HKF := hid (fun (Z : World) (hZ : Below W12.heap.size W12 Z) => (show Z.cell? ⟨g4, o4 + 3, none⟩ = some (.bool true) /\ Z.cell? ⟨g4, o4 + 2, none⟩ = some (.string (⟨#[104, 116, 116, 112, 115, 58, 47, 47, 98, 46, 99, 111, 109]⟩ : ByteArray)) /\ Z.cell? ⟨g6, o6 + 2, none⟩ = some (.string (⟨#[100, 97, 116, 97]⟩ : ByteArray)) from
  ⟨(range_kept hv40 (below2 HD12w.out hZ)) 3 _ rfl, (range_kept hv40 (below2 HD12w.out hZ)) 2 _ rfl, (range_kept hv60 (below2 HD12w.out hZ)) 2 _ rfl⟩))
 have HRv := hid (show ∀ Z, Below W12.heap.size W12 Z -> Z.rangeAt g4 (o4 + 4) [.int .i64 1, .string (⟨#[115, 99, 114, 105, 112, 116, 45, 115, 114, 99]⟩ : ByteArray), .string (⟨#[104, 116, 116, 112, 115, 58, 47, 47, 98, 46, 99, 111, 109]⟩ : ByteArray), .bool false] from fun Z hZ => range_kept hv41 (below2 HD12w.out hZ))
 have HRh := hid (show ∀ Z, Below W12.heap.size W12 Z -> Z.rangeAt w7.heap.size 0 [.string p0, .string p1, .string p2, .string p3, .bool p4, .int .i64 p5, .bool p6, .slice pa pn pc, .string p8, .string p9, .bool p10, .bool p11, .string y0, .string y1, .string y2, .string y3, .bool y4, .int .i64 y5, .bool y6, .slice ya yn yc, .string y8, .string y9, .bool y10, .bool y11, .int .i64 2, .int .i64 0, .string (⟨#[97]⟩ : ByteArray), .string ⟨#[]⟩] from fun Z hZ => by
  have := range_row (row_kept HR12.out hZ)
  rw [HXa.out] at this
  exact this)
 have HCy := hid (fun (Z : World) (hZ : Below W12.heap.size W12 Z) => HCk.out [(L2, false)] U 2 (⟨#[97]⟩ : ByteArray) [] 0 (.slice (some ⟨w2.heap.size, 2, none⟩) 1 1) (.slice pa pn pc) (.slice ya yn yc) Z (below2 HB7.out (below2 HD12w.out hZ)) (HPt7.out.kept (below2 HD12w.out hZ)) (HK.out _ _ Z (below2 HD12w.out hZ)) (by simp) HZ2.out HG1.out (by decide) HF4.out rfl)
 have HCn := hid (fun (Z : World) (hZ : Below W12.heap.size W12 Z) => HCk.out [] U 2 (⟨#[97]⟩ : ByteArray) [] 0 (.slice none 0 0) (.slice pa pn pc) (.slice ya yn yc) Z (below2 HB7.out (below2 HD12w.out hZ)) (pl_nil Z) (HK.out _ _ Z (below2 HD12w.out hZ)) (by decide) (fun q hq => by cases hq) HG1.out (by decide) rfl rfl)
 rw [HVa.out] at HCy HCn
 have HCz := hid (fun (pv uv : Value) (Z : World) (hZ : Below W12.heap.size W12 Z) (h3 : AskAt Z ⟨pageP, pv, UC, uv, 99, 0, ⟨#[]⟩, ⟨#[]⟩⟩) => HCk.out [(L1, true), (L2, false)] UC 99 ⟨#[]⟩ [] 0 (.slice (some ⟨w2.heap.size, 0, none⟩) 2 2) pv uv Z (below2 HB7.out (below2 HD12w.out hZ)) (HPl7.out.kept (below2 HD12w.out hZ)) h3 (by simp) HZ12.out HG3.out (by decide) HF5.out rfl)
 have HBv := hid (fun (Z : World) (hZ : Below W12.heap.size W12 Z) => HBw.out _ Z (HW7.out.kept (below2 HD12w.out hZ)))
 have HKz := hid (fun (Z : World) (hZ : Below W12.heap.size W12 Z) => HKn.out Z (below2 HB7.out (below2 HD12w.out hZ)))
 have HQ12 := hid ((Below.refl W12.heap.size W12).drew)
 clear hv40 hv41 hv60
 clear hHeld
 go_upto_region 9 with fail
 refine wp_region_held_drew (S := (fun wx => Below W12.heap.size W12 wx)) (by kernel_rfl) HQ12.out (fun hHeld => ?_)
 refine wpAnyH_to (fuel' := 5) (listed' := #[false, false, false, false, false]) (by kernel_rfl) (by kernel_rfl) ?_
 refine' wpAnyH_take (i := 0) (oi := ⟨some 24, _, _, _, _, _⟩) (v := _) rfl (by kernel_rfl) (by kernel_rfl) (by kernel_rfl) (fun _ _ _ h => h) (Or.inl ⟨by kernel_rfl, ?hyg81⟩) (by assumption) ?restg81
 case hyg81 => (intro wx hSw; (try dsimp only at hSw); go_simp; first | done | with_reducible rfl)
 (try simp only [Act.put, List.setIfInBounds_toArray, List.set_cons_zero, List.set_cons_succ])
 refine' wpAnyH_take (i := 1) (oi := ⟨some 25, _, _, _, _, _⟩) (v := _) rfl (by kernel_rfl) (by kernel_rfl) (by kernel_rfl) (fun _ _ _ h => h) (Or.inl ⟨by kernel_rfl, ?hyg82⟩) (by assumption) ?restg82
 case hyg82 => (intro wx hSw; (try dsimp only at hSw); go_simp; first | done | with_reducible rfl)
 (try simp only [Act.put, List.setIfInBounds_toArray, List.set_cons_zero, List.set_cons_succ])
 refine wpAnyH_take (i := 2) (oi := ⟨some 26, _, _, _, _, _⟩) rfl (by kernel_rfl) (by kernel_rfl) (by kernel_rfl) (fun _ _ _ h => h) (yieldsIf_load_mid (by kernel_rfl) 33 (.tmp 4) rfl (w7.heap.size) 0 rfl [.string p0, .string p1, .string p2, .string p3, .bool p4, .int .i64 p5, .bool p6, .slice pa pn pc, .string p8, .string p9, .bool p10, .bool p11, .string y0, .string y1, .string y2, .string y3, .bool y4, .int .i64 y5, .bool y6, .slice ya yn yc, .string y8, .string y9, .bool y10, .bool y11, .int .i64 2, .int .i64 0, .string (⟨#[97]⟩ : ByteArray), .string ⟨#[]⟩] _ (HRh.out) Tryz.underlying33 rfl sizeA) (by assumption) ?_
 (try simp only [Act.put, List.setIfInBounds_toArray, List.set_cons_zero, List.set_cons_succ])
 refine wpAnyH_ready (rs := [3]) (by kernel_rfl) (by simp) ?_
 refine AllReadyH.cons rfl (fun K9 hK => ?_) AllReadyH.nil
 rw [if_pos (by kernel_rfl)]
 go_simp
 go_wp2_with (go_at_call 8; refine (HCy.out _ HQ12.out).mono ?_; rintro e w13 ⟨b13, c13, rfl, hvl, hba⟩)
 have HQ13 := hid (below2 HQ12.out hba)
 clear hvl
 clear hba
 refine hK.out _ _ HQ13.out (fun hHeld2 => ?_)
 clear hK K9 hHeld
 rename _ => hHeld
 refine' wpAnyH_take (i := 4) (oi := ⟨some 6, _, _, _, _, _⟩) (v := _) rfl (by kernel_rfl) (by kernel_rfl) (by kernel_rfl) (fun _ _ _ h => h) (Or.inl ⟨by kernel_rfl, ?hyg83⟩) (by assumption) ?restg83
 case hyg83 => (intro wx hSw; (try dsimp only at hSw); go_simp; first | done | with_reducible rfl)
 (try simp only [Act.put, List.setIfInBounds_toArray, List.set_cons_zero, List.set_cons_succ])
 refine wpAnyH_done (by kernel_rfl) ?_ _
 clear hHeld
 have HRh13 := hid (HRh.out _ HQ13.out)
 go_upto_region 10 with fail
 refine wp_region_lit ?_
 refine wpList_load_mid rfl 33 (.tmp 4) rfl w7.heap.size 0 rfl [.string p0, .string p1, .string p2, .string p3, .bool p4, .int .i64 p5, .bool p6, .slice pa pn pc, .string p8, .string p9, .bool p10, .bool p11, .string y0, .string y1, .string y2, .string y3, .bool y4, .int .i64 y5, .bool y6, .slice ya yn yc, .string y8, .string y9, .bool y10, .bool y11, .int .i64 2, .int .i64 0, .string (⟨#[97]⟩ : ByteArray), .string ⟨#[]⟩] _ HRh13.out Tryz.underlying33 rfl sizeA ?_
 go_wp2_with fail
 refine (HCn.out _ HQ13.out).mono ?_
 rintro e w14 ⟨b14, c14, rfl, hvl, hba⟩
 have HQ14 := hid (below2 HQ13.out hba)
 clear hvl
 clear hba
 obtain ⟨k1, k2, k3⟩ := HKF.out _ HQ14.out
 have HRv14 := HRv.out _ HQ14.out
 have q0 : w14.cell? ⟨g4, o4 + 4, none⟩ = some (.int .i64 1) := HRv14 0 _ rfl
 have q1 : w14.cell? ⟨g4, o4 + 4 + 1, none⟩ = some (.string (⟨#[115, 99, 114, 105, 112, 116, 45, 115, 114, 99]⟩ : ByteArray)) := HRv14 1 _ rfl
 have q2 : w14.cell? ⟨g4, o4 + 4 + 2, none⟩ = some (.string (⟨#[104, 116, 116, 112, 115, 58, 47, 47, 98, 46, 99, 111, 109]⟩ : ByteArray)) := HRv14 2 _ rfl
 have q3 : w14.cell? ⟨g4, o4 + 4 + 3, none⟩ = some (.bool false) := HRv14 3 _ rfl
 clear HRv14
 go_wp2_with fail
 refine (HBv.out _ HQ14.out).mono ?_
 rintro e w15 ⟨rfl, hba⟩
 have HQ15 := hid (below2 HQ14.out hba)
 clear hba
 go_wp2_with fail
 refine (HBn.out _).mono ?_
 rintro e w16 ⟨rfl, hba⟩
 have HQ16 := hid (below2 HQ15.out hba)
 clear hba
 go_wp2_with fail
 refine (HA3.out _).mono ?_
 rintro e w17 ⟨pv17, uv17, rfl, hak17, hba⟩
 have HQ17 := hid (below2 HQ16.out hba)
 have HAk17 := hid hak17
 clear hak17
 clear hba
 go_wp2_with fail
 refine (HCz.out _ _ _ HQ17.out HAk17.out).mono ?_
 rintro e w18 ⟨b18, c18, rfl, hvl, hba⟩
 have HQ18 := hid (below2 HQ17.out hba)
 clear hvl
 clear hba
 go_wp2_with fail
 refine (HKz.out _ HQ18.out).mono ?_
 rintro e w19 ⟨rfl, hba⟩
 have HQ19 := hid (below2 HQ18.out hba)
 clear hba
 go_wp2
 go_ret
 exact ⟨rfl, below2 HB7.out (below2 HD12w.out HQ19.out)⟩
end Go.Proofs.YtooihpkoplgmbaaGreatDoor
