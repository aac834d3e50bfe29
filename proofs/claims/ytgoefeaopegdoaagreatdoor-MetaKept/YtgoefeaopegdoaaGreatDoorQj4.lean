/-
  Walks and plain facts that this claim leans on, put together out of 1 texts: Ezj.
-/
import Derived.Test.YtgoefeaopegdoaaGreatDoorProg
import Derived.Test.YtgoefeaopegdoaaGreatDoorQx1
import Derived.Test.YtgoefeaopegdoaaGreatDoorQx2
import Derived.Test.YtgoefeaopegdoaaGreatDoorQx3
import Derived.Test.YtgoefeaopegdoaaGreatDoorQx4
import Derived.Test.YtgoefeaopegdoaaGreatDoorQx5
import Derived.Test.YtgoefeaopegdoaaGreatDoorQx6
import Derived.Test.YtgoefeaopegdoaaGreatDoorQx7
import Derived.Test.YtgoefeaopegdoaaGreatDoorQx8
import Derived.Test.YtgoefeaopegdoaaGreatDoorQx9
import Derived.Test.YtgoefeaopegdoaaGreatDoorQx10
import Derived.Test.YtgoefeaopegdoaaGreatDoorQx11
import Derived.Test.YtgoefeaopegdoaaGreatDoorQx12
import Derived.Test.YtgoefeaopegdoaaGreatDoorQx13
import Derived.Test.YtgoefeaopegdoaaGreatDoorQx14
import Derived.Test.YtgoefeaopegdoaaGreatDoorQx15
import Derived.Test.YtgoefeaopegdoaaGreatDoorQx16
import Derived.Test.YtgoefeaopegdoaaGreatDoorQx17
import Derived.Test.YtgoefeaopegdoaaGreatDoorQx18
import Derived.Test.YtgoefeaopegdoaaGreatDoorQx19
import Derived.Test.YtgoefeaopegdoaaGreatDoorQx20
import Derived.Test.YtgoefeaopegdoaaGreatDoorQx21
import Derived.Test.YtgoefeaopegdoaaGreatDoorQx22
import Derived.Test.YtgoefeaopegdoaaGreatDoorQx23
import Derived.Test.YtgoefeaopegdoaaGreatDoorQx24
import Derived.Test.YtgoefeaopegdoaaGreatDoorQx25
import Derived.Test.YtgoefeaopegdoaaGreatDoorQx26
import Derived.Test.YtgoefeaopegdoaaGreatDoorQx27
import Derived.Test.YtgoefeaopegdoaaGreatDoorQx28
import Derived.Test.YtgoefeaopegdoaaGreatDoorQx29
import Derived.Test.YtgoefeaopegdoaaGreatDoorQx30
import Derived.Test.YtgoefeaopegdoaaGreatDoorQj1
import Derived.Test.YtgoefeaopegdoaaGreatDoorQj2
import Derived.Test.YtgoefeaopegdoaaGreatDoorQj3
import Derived.Deep.RegionLaw
import Derived.Deep.RegionHeld
import Derived.Deep.QuietTactic
import Derived.BigQuiet
import Derived.BigRegion
import Derived.Laws.Runes
import Derived.Deep.Cut
import Derived.Laws.AppendOwn
import Derived.Lib.IndexMore
import Derived.Lib.Join
import Derived.Lib.LastIndexByte
import Derived.WalkKit
import Derived.WalkSpells
import Derived.WalkLawsBesides
import Derived.Laws.CopyOwn
import Derived.Laws.ResultCell
import Derived.Deep.MidRow
import Derived.Lib.LaidTab
import Derived.Lib.SmallJoins
import Derived.Laws.BitsAll
import Derived.Lib.Strings
import Derived.Lib.UnsafeStr
import Derived.Laws.IdiomStrings
import Derived.Laws.BitsAllLaws
import Derived.Lib.Bytealg
import Derived.Lib.BufferMore
import Derived.Lib.BufferRead
import Derived.Lib.RuneBytes
import Derived.Laws.RangeAny
import Derived.Laws.OwnMore
import Derived.Below
import Derived.WalkSmall
import Derived.LoopN
import Derived.RegionTactic
import Derived.Deep.RegionWith
import Derived.OwnWalk
import Derived.Deep.LoopGhost
import Derived.Shelf.Strings.Builder1
import Derived.Shelf.Strings.Builder2
import Derived.Shelf.Strings.OnBuilder
import Derived.Shelf.Strings.Trim
import Derived.Shelf.Small.Utf8
import Derived.Shelf.Small.Bits
import Derived.Shelf.Small.Strs
import Derived.Shelf.Small.Wraps
import Derived.Shelf.Strings.BuilderF
import Derived.Shelf.Strings.BuilderK
import Derived.Shelf.Strings.BuilderRune
import Derived.Shelf.Utf8.AppendRune
import Derived.Shelf.Utf8.AppendRunePlain
import Derived.Shelf.Strings.Builder2Cap
import Derived.Shelf.Strconv.Itoa0
import Derived.Shelf.Strconv.Itoa1
import Derived.Shelf.LaysM
import Derived.Shelf.Strconv.Itoa2
import Derived.Shelf.Strconv.Itoa3
import Derived.Shelf.Strings.Search1
import Derived.Shelf.Strings.Search2
import Derived.Shelf.Strings.Search3
import Derived.Shelf.Strings.Cut
import Derived.Shelf.Strings.Count
import Derived.Shelf.Strings.Shaped
import Derived.Shelf.Strings.LastIndex
import Derived.Shelf.Strings.Prefix
import Derived.Shelf.Strings.Split
import Derived.Shelf.Strings.Replace
import Derived.Shelf.Strings.Runes
import Derived.Shelf.Strings.IndexAny
import Derived.Shelf.Strings.AsciiSet
import Derived.Shelf.Strings.IndexAnyAll
import Derived.Shelf.Unicode.DecodeSlow
import Derived.Ground.Names2Prog
import Derived.Shelf.Slices.Clone
import Derived.Shelf.Slices.In.SortNone
import Derived.Ground.SlgnProg
import Derived.Shelf.SlicesE.Clone
import Derived.Laws.AppendOwnNone
import Derived.Scope
import Derived.ScopeJumps
import Derived.WalkMore
import Derived.Lib.IndexAny
import Derived.Lib.Replace
import Derived.Lib.TrimByte
import Derived.Lib.ItoaNum
import Derived.Lib.DecodeN
import Derived.Lib.OthersKept
import Derived.Laws.BytesString
import Derived.Deep.WholeRow
import Derived.Lib.AppendStr
import Derived.Lib.AppendIntMem
import Derived.Lib.FrozenHead2
import Derived.Lib.Builder
import Derived.Lib.SlTrimSet
import Derived.Shelf.Strings.SlTrimAscii
set_option linter.unusedSimpArgs false
set_option linter.unusedVariables false

namespace Go.Proofs.YtgoefeaopegdoaaGreatDoor
open Go.RowKit

theorem kj_1 : isOk (urlV [104, 116, 116, 112, 115, 58, 47, 47, 98, 47]) = true := by decide +kernel

theorem kj_2 : lastT [adrOf (urlV [104, 116, 116, 112, 115, 58, 47, 47, 98, 47])] = true := by decide +kernel

theorem hdr_yes {o : Org} {L : List Adr} {m d : Int} (h : lastT L = true) : hdrV o L m d = hdr3 (wd15 (rk15 o L)) (modS m) (desS d) := by unfold hdrV; rw [h]; rfl

theorem hdr_kp {w : World} {B : Nat} {v : Value} {a b c : ByteArray} (h : w.ownsRow B 38 2 v (hdr3 a b c).length (cellsH (hdr3 a b c))) : KpL 2 38 w B v 3 [⟨nSite.toArray⟩, a, ⟨nMode.toArray⟩, b, ⟨nDest.toArray⟩, c] := own_kp h

def KpI (w : World) (i : Nat) (wr : World) : Prop := KBe wr w.heap.size w.heap.size i (fun g => g < wr.heap.size) ∧ w.heap.size < wr.heap.size ∧ Below w.heap.size w wr

set_option maxHeartbeats 16000000 in
set_option maxRecDepth 100000 in
theorem metaKept_walk (w : World) (hg : Gd w) : Calls Tryz.prog 5 #[] w fun e w' => e = .returned (.bool true) ∧ Below w.heap.size w w' := by
  have HG := hid hg
  have HO := hid (of15_at (⟨#[104, 116, 116, 112, 115, 58, 47, 47, 98]⟩ : ByteArray) _ rfl (by decide))
  have HS := hid (ofT_site (⟨#[104, 116, 116, 112, 115, 58, 47, 47, 98]⟩ : ByteArray).data.toList)
  have HU := hid (fun (v : Value) (Z : World) (h : TxAt Z v [[104, 116, 116, 112, 115, 58, 47, 47, 98, 47]]) => urls15_any v _ Z h (fun x hx => by rw [List.mem_singleton.1 hx]; decide))
  rw [urls_one kj_1] at HU
  have HL := hid kj_2
  unfold UrPost at HU
  generalize ofT (⟨#[104, 116, 116, 112, 115, 58, 47, 47, 98]⟩ : ByteArray).data.toList = O at HO HS
  generalize adrOf (urlV [104, 116, 116, 112, 115, 58, 47, 47, 98, 47]) = A at HU HL
  have H0 := hid (show KpI w 0 (w.alloc (.cells #[.slice none 0 0, .slice none 0 0, .int .i64 0, .bool false] 44)) from ⟨booke w _, by simp, (Below.refl _ w).alloc (Nat.le_refl _) _⟩)
  clear hg
  go_enter Tryz.func5, Tryz.ntmps5
  go_wp2_with fail
  go_loopw [2] (fun v2 wr => ∃ i : Nat, i ≤ 2 ∧ v2 = .int .i64 i ∧ Hid (KpI w i wr)) (fun v2 _ => 2 - (intOf v2).toNat)
  case atStart => exact ⟨0, by omega, rfl, H0.out⟩
  case round =>
    clear H0
    obtain ⟨i, hi, rfl, HR⟩ := hrel
    by_cases hlt : i < 2
    · have hin : (i : Int) < 2 := by omega
      obtain ⟨WR, hWR⟩ : ∃ W, W = wr := ⟨_, rfl⟩
      subst hWR
      go_wp2_with fail
      refine (HO.out _).mono ?_
      rintro e w1 ⟨rfl, hb1⟩
      obtain ⟨W2, hW2⟩ : ∃ X, (w1.alloc (.cells #[.string (⟨#[104, 116, 116, 112, 115, 58, 47, 47, 98, 47]⟩ : ByteArray)] 9)) = X := ⟨_, rfl⟩
      have hb2 : Below w1.heap.size w1 W2 := by rw [← hW2]; exact (Below.refl _ w1).alloc (Nat.le_refl _) _
      have HT := hid (show TxAt W2 (.slice (some ⟨w1.heap.size, 0, none⟩) 1 1) [[104, 116, 116, 112, 115, 58, 47, 47, 98, 47]] by rw [← hW2]; exact tx_lit w1 [(⟨#[104, 116, 116, 112, 115, 58, 47, 47, 98, 47]⟩ : ByteArray)] 1 rfl (by decide))
      have HB2 := hid (below2 hb1 hb2)
      clear hb1 hb2
      go_wp2_with fail
      refine (HU.out _ _ HT.out).mono ?_
      rintro e w3 ⟨uv, P, rfl, hm, hul, hb3⟩
      obtain ⟨ua, uc, rfl⟩ := ul_form hul hm (k := 1) rfl
      have HB3 := hid (below2 HB2.out hb3)
      have HH := hid (headers15_any O (.slice ua 1 uc) P 3 5 w3 (HG.out.kept (below2 HR.out.2.2 HB3.out)) hul HS.out)
      rw [hm, hdr_yes HL.out] at HH
      unfold HdrPost at HH
      generalize wd15 (rk15 O [A]) = Sx at HH
      generalize modS 3 = Mx at HH
      generalize desS 5 = Dx at HH
      clear hm hul hb3
      go_wp2_with fail
      refine HH.out.mono ?_
      rintro e w4 ⟨hv, rfl, hown, hb4⟩
      have hkp := hdr_kp hown
      obtain ⟨ha, hc, rfl, _, _⟩ := hkp.slice
      have HB4 := hid (below2 HB3.out hb4)
      have HLt := hid hkp.lt
      have hw3 := HB3.out.size
      have hw4 := hb4.size
      have HKp := hid (keepe w.heap.size w.heap.size i 3 (fun g => g < WR.heap.size) (.slice ha 3 hc) _ w4 (HR.out.1.below HB4.out) (hkp.lower (by have := HR.out.2.1; omega)) (fun g hg hlt2 => by have := HLt.out g hg; have h7 : g < WR.heap.size := hlt2; omega) (by omega) (by omega) (by have := HR.out.2.1; omega))
      clear hown hb4 hkp
      go_wp2_with fail
      refine HKp.out.mono ?_
      rintro e w5 ⟨rfl, hk5, hbt⟩
      have HF := hid (show KpI w (i + 1) w5 from
        ⟨hk5.more (Nat.le_refl _) (fun g hg => hg.elim (fun h => (by have h7 : g < WR.heap.size := h; have := hbt.1.size; show g < w5.heap.size; omega)) (fun h => (by have := (HLt.out g h).2; have := hbt.1.size; show g < w5.heap.size; omega))),
         by have := HR.out.2.1; have := hbt.1.size; omega, (HR.out.2.2.trans (HB4.out.mono HR.out.2.2.size)).trans hbt.1⟩)
      clear hk5 hbt HKp HLt HR
      go_wp2_with fail
      go_roundw
      case rel =>
        first
          | exact ⟨i + 1, by omega, by go_num, HF.out⟩
          | ((repeat apply Exists.intro); refine ⟨?_, rfl⟩; exact ⟨i + 1, by omega, by go_num, HF.out⟩)
          | ((repeat apply Exists.intro); exact ⟨⟨i + 1, by omega, by go_num, HF.out⟩, rfl⟩)
      case measure => simp [intOf]; omega
    · obtain rfl : i = 2 := by omega
      clear hi hlt
      obtain ⟨h, A', Y, xs, ys, hl, _, hbk⟩ := HR.out.1
      have HAP := hid (aparte _ _ h A' Y xs ys wr hbk (by omega) (by have := HR.out.2.1; omega))
      have HBr := hid HR.out.2.2
      clear hbk HR
      go_wp2_with fail
      refine HAP.out.mono ?_
      rintro e w5 ⟨rfl, hb5⟩
      have HB5 := hid (HBr.out.trans hb5.1)
      have HKN := hid (known15_any w5 (HG.out.kept HB5.out))
      clear hb5 HAP
      go_wp2_with fail
      refine HKN.out.mono ?_
      rintro e w7 ⟨rfl, hb7⟩
      have HB7 := hid (below2 HB5.out hb7)
      clear hb7 HKN
      go_wp2_with fail
      go_ret
      exact ⟨rfl, HB7.out⟩

end Go.Proofs.YtgoefeaopegdoaaGreatDoor
