/-
  Walks and plain facts that this claim leans on, put together out of 7 texts: Dl, Dm, Dn, Pl, Pm, Wn, Rb.
-/
import Derived.Test.YtjmkccnjjofmeaaGreatDoorProg
import Derived.Test.YtjmkccnjjofmeaaGreatDoorQa1
import Derived.Test.YtjmkccnjjofmeaaGreatDoorQa2
import Derived.Test.YtjmkccnjjofmeaaGreatDoorQa3
import Derived.Test.YtjmkccnjjofmeaaGreatDoorQa4
import Derived.Test.YtjmkccnjjofmeaaGreatDoorQa5
import Derived.Test.YtjmkccnjjofmeaaGreatDoorQa6
import Derived.Test.YtjmkccnjjofmeaaGreatDoorQa7
import Derived.Test.YtjmkccnjjofmeaaGreatDoorQa8
import Derived.Test.YtjmkccnjjofmeaaGreatDoorQa9
import Derived.Test.YtjmkccnjjofmeaaGreatDoorQa10
import Derived.Test.YtjmkccnjjofmeaaGreatDoorQa11
import Derived.Test.YtjmkccnjjofmeaaGreatDoorQa12
import Derived.Test.YtjmkccnjjofmeaaGreatDoorQa13
import Derived.Test.YtjmkccnjjofmeaaGreatDoorQa14
import Derived.Test.YtjmkccnjjofmeaaGreatDoorQa15
import Derived.Test.YtjmkccnjjofmeaaGreatDoorQa16
import Derived.Test.YtjmkccnjjofmeaaGreatDoorQa17
import Derived.Test.YtjmkccnjjofmeaaGreatDoorQa18
import Derived.Test.YtjmkccnjjofmeaaGreatDoorQa19
import Derived.Test.YtjmkccnjjofmeaaGreatDoorQa20
import Derived.Test.YtjmkccnjjofmeaaGreatDoorQa21
import Derived.Test.YtjmkccnjjofmeaaGreatDoorQa22
import Derived.Test.YtjmkccnjjofmeaaGreatDoorQa23
import Derived.Test.YtjmkccnjjofmeaaGreatDoorQa24
import Derived.Test.YtjmkccnjjofmeaaGreatDoorQa25
import Derived.Test.YtjmkccnjjofmeaaGreatDoorQa26
import Derived.Test.YtjmkccnjjofmeaaGreatDoorQa27
import Derived.LoopN
import Derived.RegionTactic
import Derived.Deep.RegionWith
import Derived.Deep.QuietTactic
import Derived.BigQuiet
import Derived.WalkKit
import Derived.WalkSpells
import Derived.WalkLawsBesides
import Derived.Lib.FrozenHead2
import Derived.Lib.OthersKept
import Derived.Lib.Builder
import Derived.Laws.IdiomStrings
import Derived.Laws.BytesString
import Derived.Lib.AppendStr
import Derived.Laws.BitsAllLaws
import Derived.WalkMore
import Derived.Deep.LoopGhost
import Derived.Laws.CopyRow
import Derived.BigRegion
import Derived.Lib.Bytealg
import Derived.Lib.Replace
import Derived.Lib.Strings
import Derived.Lib.UnsafeStr
import Derived.Laws.AppendOwn
import Derived.Lib.LastIndexByte
import Derived.Lib.SlTrimSet
import Derived.Lib.Join
import Derived.Lib.IndexMore
import Derived.Laws.OwnMore
import Derived.Below
import Derived.WalkSmall
import Derived.Lib.SmallJoins
import Derived.Maps.OwnSet
import Derived.Maps.OwnOps
import Derived.Maps.AppendAt
import Derived.StringKeys
import Derived.Lib.TrimByte
import Derived.Lib.IndexAny
import Derived.Deep.Cut
import Derived.Deep.WholeRow
import Derived.Laws.RangeAny
import Derived.Lib.DecodeN
import Derived.Lib.BufferRead
import Derived.Lib.RuneBytes
import Derived.OwnWalk
import Derived.Shelf.Strings.Builder1
import Derived.Shelf.Strings.Builder2
import Derived.Shelf.Strings.OnBuilder
import Derived.Shelf.Strings.Trim
import Derived.Shelf.Small.Utf8
import Derived.Shelf.Small.Strs
import Derived.Shelf.Small.Wraps
import Derived.Shelf.Strings.BuilderF
import Derived.Shelf.Strings.BuilderK
import Derived.Shelf.Strings.Builder2Cap
import Derived.Shelf.Strconv.Itoa0
import Derived.Shelf.Strconv.Itoa1
import Derived.Shelf.LaysM
import Derived.Shelf.Strconv.Itoa2
import Derived.Shelf.Strconv.Itoa3
import Derived.Shelf.Strings.Search1
import Derived.Shelf.Strings.Search2
import Derived.Shelf.Strings.Search3
import Derived.Shelf.Strings.Cut
import Derived.Shelf.Strings.Count
import Derived.Shelf.Strings.Shaped
import Derived.Shelf.Strings.Prefix
import Derived.Shelf.Strings.Split
import Derived.Shelf.Strings.Replace
import Derived.Shelf.Strings.Runes
import Derived.Shelf.Strings.IndexAny
import Derived.Shelf.Strings.AsciiSet
import Derived.Shelf.Strings.IndexAnyAll
import Derived.Shelf.Unicode.DecodeSlow
import Derived.Deep.MidRow
import Derived.Lib.ItoaNum
import Derived.Laws.AppendOwnNone
import Derived.Deep.RegionHeldLaw
import Derived.Lib.BufferMore
import Derived.Lib.AppendIntMem
import Derived.Deep.RegionHeld
import Derived.Deep.RegionLaw
import Derived.Laws.CopyOwn
import Derived.Laws.ResultCell
import Derived.Scope
import Derived.ScopeJumps
import Derived.Shelf.Strings.SlTrimAscii
import Derived.Laws.Runes
set_option linter.unusedSimpArgs false
set_option linter.unusedVariables false

namespace Go.Proofs.YtjmkccnjjofmeaaGreatDoor
open Go.RowKit

theorem lread_at (s t : ByteArray) (h : lrV s.data.toList = t.data.toList) (hl : t.size ≤ 1000) (hs : s.size ≤ 1000000) (w : World) (hg : Gd w) (hG : G5 w) :
    Calls Tryz.prog 8 #[.string s] w fun e w' => e = .returned (.string t) ∧ Below w.heap.size w w' := by
  have := lread_d s w hg hG (by omega) (by rw [h, ← Lib.size_eq]; omega)
  rw [h, mba_self] at this
  exact this

theorem k_1 : lrV [100, 97, 116, 97, 58, 44, 97, 37, 50, 48, 98] = [116, 101, 120, 116, 47, 112, 108, 97, 105, 110, 59, 99, 104, 97, 114, 115, 101, 116, 61, 85, 83, 45, 65, 83, 67, 73, 73, 124, 97, 32, 98] := by decide +kernel

theorem k_2 : lrV [100, 97, 116, 97, 58, 105, 109, 97, 103, 101, 47, 112, 110, 103, 59, 98, 97, 115, 101, 54, 52, 44, 89, 81, 61, 61] = [105, 109, 97, 103, 101, 47, 112, 110, 103, 124, 97] := by decide +kernel

theorem k_3 : lrV [100, 97, 116, 97, 58, 97] = [] := by decide +kernel

theorem k_4 : lrV [100, 97, 116, 97, 58, 59, 98, 97, 115, 101, 54, 52, 44, 89] = [] := by decide +kernel

theorem k_5 : lrV [100, 97, 116, 97, 58, 59, 99, 104, 97, 114, 115, 101, 116, 61, 120, 44] = [116, 101, 120, 116, 47, 112, 108, 97, 105, 110, 59, 99, 104, 97, 114, 115, 101, 116, 61, 120, 124] := by decide +kernel

theorem k_6 : lrV [104, 116, 116, 112, 58, 47, 47, 97, 47, 44] = [] := by decide +kernel

theorem k_7 : lrV [100, 97, 116, 97, 58, 97, 47, 98, 59, 66, 97, 115, 101, 54, 52, 32, 44, 89, 81] = [97, 47, 98, 124, 97] := by decide +kernel

theorem k_8 : lrV [100, 97, 116, 97, 58, 97, 47, 98, 44, 99, 63, 100, 35, 101] = [97, 47, 98, 124, 99, 63, 100] := by decide +kernel

theorem k_9 : lrV [100, 97, 116, 97, 58, 47, 47, 97, 44, 98] = [] := by decide +kernel

set_option maxHeartbeats 2000000 in
set_option maxRecDepth 100000 in
theorem known_d (w : World) (hg : Gd w) (hG : G5 w) :
    Calls Tryz.prog 10 #[] w fun e w' => e = .returned (.bool true) ∧ Below w.heap.size w w' := by
  have Hg := hid hg
  have HG := hid hG
  clear hg hG
  go_enter Tryz.func10, Tryz.ntmps10
  go_wp2_with fail
  refine (lread_at _ ⟨#[116, 101, 120, 116, 47, 112, 108, 97, 105, 110, 59, 99, 104, 97, 114, 115, 101, 116, 61, 85, 83, 45, 65, 83, 67, 73, 73, 124, 97, 32, 98]⟩ k_1 (by decide) (by decide) _ Hg.out HG.out).mono ?_
  rintro e w1 ⟨rfl, hb1⟩
  have HB1 := hid hb1
  clear hb1
  go_wp2_with fail
  refine (lread_at _ ⟨#[105, 109, 97, 103, 101, 47, 112, 110, 103, 124, 97]⟩ k_2 (by decide) (by decide) _ (Hg.out.kept HB1.out) (HG.out.kept HB1.out)).mono ?_
  rintro e w2 ⟨rfl, hb2⟩
  have HB2 := hid (below2 HB1.out hb2)
  clear hb2
  go_wp2_with fail
  refine (lread_at _ ⟨#[]⟩ k_3 (by decide) (by decide) _ (Hg.out.kept HB2.out) (HG.out.kept HB2.out)).mono ?_
  rintro e w3 ⟨rfl, hb3⟩
  have HB3 := hid (below2 HB2.out hb3)
  clear hb3
  go_wp2_with fail
  go_ret
  exact ⟨rfl, HB3.out⟩

end Go.Proofs.YtjmkccnjjofmeaaGreatDoor

namespace Go.Proofs.YtjmkccnjjofmeaaGreatDoor
open Go.RowKit

/-- A byte that stands for itself in an address' kind. -/
def pkC (c : UInt8) : Bool := decide (33 ≤ c.toNat) && (decide (c.toNat ≤ 126) && (c != 37 && (c != 35 && (c != 63 && c != 44))))

theorem pkC_facts (c : UInt8) (h : pkC c = true) : 33 ≤ c.toNat ∧ c.toNat ≤ 126 ∧ c ≠ 37 ∧ c ≠ 35 ∧ c ≠ 63 ∧ c ≠ 44 := by
  unfold pkC at h
  simpa [Bool.and_eq_true] using h

theorem set1_out (c : UInt8) (h1 : 32 ≤ c.toNat) (h2 : c.toNat ≤ 126) : inSetI c.toNat 1 = false := by
  have key : ((List.range 256).all fun n => !(decide (32 ≤ n) && decide (n ≤ 126)) || !inSetI (n : Int) 1) = true := by decide +kernel
  rw [List.all_eq_true] at key
  have := key c.toNat (by simp; exact c.toNat_lt)
  simp [h1, h2] at this
  exact this

theorem flat_id (l : List UInt8) (f : UInt8 → List UInt8) (h : ∀ c ∈ l, f c = [c]) : l.flatMap f = l := by
  induction l with
  | nil => rfl
  | cons c l ih => rw [List.flatMap_cons, h c (by simp), ih fun d hd => h d (by simp [hd])]; rfl

theorem repl_id (s : ByteArray) (o : UInt8) (new : ByteArray) (h : ∀ c ∈ s.data.toList, c ≠ o) (hne : ([o] == new.data.toList) = false) (hn : new.size ≤ 100) (w : World) (hG : G5 w) (hs : s.size ≤ 4000000) :
    Calls Tryz.prog 44 #[.string s, .string ⟨#[o]⟩, .string new] w fun e w' => e = .returned (.string s) ∧ Below w.heap.size w w' := by
  obtain ⟨m, hm⟩ := hG
  have hc := countB6 s o
  have h2 := Tryz.strings_ReplaceAll s ⟨#[o]⟩ new m w (by omega) hm (show 1 ≤ 1 from Nat.le_refl _) (by
    have : Lib.countB s ⟨#[o]⟩ * new.size ≤ 4000000 * 100 := Nat.mul_le_mul (by omega) hn
    omega)
  rw [show (⟨#[o]⟩ : ByteArray).data.toList = [o] from rfl, rep_all o _ _ hne, flat_id _ _ (fun c hc => by unfold repC; rw [if_neg (h c hc)])] at h2
  refine h2.mono ?_
  rintro e w' ⟨rfl, hb⟩
  exact ⟨by rw [show (⟨s.data.toList.toArray⟩ : ByteArray) = s from mba_self s], hb⟩

set_option maxHeartbeats 1000000 in
set_option maxRecDepth 100000 in
theorem escaped_id (s : ByteArray) (h : ∀ c ∈ s.data.toList, pkC c = true) (w : World) (hG : G5 w) (hs : s.size ≤ 4000000) :
    Calls Tryz.prog 22 #[.string s] w fun e w' => e = .returned (.string s) ∧ Below w.heap.size w w' := by
  have H1 := hid (fun w hG => repl_id s 37 ⟨#[37, 50, 53]⟩ (fun c hc => (pkC_facts c (h c hc)).2.2.1) (by decide) (by decide) w hG hs)
  have H2 := hid (fun w hG => repl_id s 35 ⟨#[37, 50, 51]⟩ (fun c hc => (pkC_facts c (h c hc)).2.2.2.1) (by decide) (by decide) w hG hs)
  have H3 := hid (fun w hG => repl_id s 63 ⟨#[37, 51, 70]⟩ (fun c hc => (pkC_facts c (h c hc)).2.2.2.2.1) (by decide) (by decide) w hG hs)
  have H4 := hid (fun w hG => repl_id s 44 ⟨#[37, 50, 67]⟩ (fun c hc => (pkC_facts c (h c hc)).2.2.2.2.2) (by decide) (by decide) w hG hs)
  have H5 : Hid (∀ w, Calls Tryz.prog 45 #[.string s, .int .i64 1] w fun e w' => e = .returned (.string s) ∧ Below w.heap.size w w') := fun w => by
    have := percent_any s 1 w (by omega)
    rw [pct_none 1 _ (fun d hd => set1_out d (by have := pkC_facts d (h d hd); omega) (pkC_facts d (h d hd)).2.1), show (⟨s.data.toList.toArray⟩ : ByteArray) = s from mba_self s] at this
    exact this
  have HG := hid hG
  clear h hG
  go_enter Tryz.func22, Tryz.ntmps22
  go_wp2_with fail
  refine (H1.out _ HG.out).mono ?_
  rintro e w1 ⟨rfl, hb1⟩
  have HB1 := hid hb1
  clear hb1
  go_wp2_with fail
  refine (H2.out _ (HG.out.kept HB1.out)).mono ?_
  rintro e w2 ⟨rfl, hb2⟩
  have HB2 := hid (below2 HB1.out hb2)
  clear hb2
  go_wp2_with fail
  refine (H3.out _ (HG.out.kept HB2.out)).mono ?_
  rintro e w3 ⟨rfl, hb3⟩
  have HB3 := hid (below2 HB2.out hb3)
  clear hb3
  go_wp2_with fail
  refine (H4.out _ (HG.out.kept HB3.out)).mono ?_
  rintro e w4 ⟨rfl, hb4⟩
  have HB4 := hid (below2 HB3.out hb4)
  clear hb4
  go_wp2_with fail
  refine (H5.out _).mono ?_
  rintro e w5 ⟨rfl, hb5⟩
  have HB5 := hid (below2 HB4.out hb5)
  clear hb5
  go_wp2_with fail
  go_ret
  exact ⟨rfl, HB5.out⟩

/-- The address of a plain kind and any bytes. -/
def mkV (A M l : List UInt8) : List UInt8 := [100, 97, 116, 97, 58] ++ (A ++ 47 :: M) ++ [59, 98, 97, 115, 101, 54, 52, 44] ++ e64 l

set_option maxHeartbeats 1000000 in
set_option maxRecDepth 100000 in
theorem make_d (A M : ByteArray) (a0 : Option Addr) (len cap : Nat) (l : List UInt8) (w : World) (hG : G5 w) (hA : ∀ c ∈ A.data.toList, pkC c = true) (hM : ∀ c ∈ M.data.toList, pkC c = true) (hAs : A.size ≤ 1000) (hMs : M.size ≤ 1000)
    (hv : SlB w (.slice a0 len cap) l) (hcap : len ≤ cap) (hcm : cap ≤ maxLen) (hs : l.length ≤ 100000) :
    Calls Tryz.prog 9 #[.agg #[.string A, .string M, .slice none 0 0], .slice a0 len cap] w fun e w' => e = .returned (.string (ba (mkV A.data.toList M.data.toList l))) ∧ Below w.heap.size w w' := by
  obtain ⟨T, hT⟩ : ∃ T, ba (A.data.toList ++ 47 :: M.data.toList) = T := ⟨_, rfl⟩
  have hTl : T.data.toList = A.data.toList ++ 47 :: M.data.toList := by rw [← hT]; rfl
  have hTs : T.size ≤ 4000 := by rw [Lib.size_eq, hTl, List.length_append, List.length_cons, ← Lib.size_eq, ← Lib.size_eq]; omega
  have HTx : Hid (∀ w, G5 w → Calls Tryz.prog 21 #[.agg #[.string A, .string M, .slice none 0 0]] w fun e w' => e = .returned (.string T) ∧ Below w.heap.size w w') := fun w hG => by
    have e : txtV ⟨A.data.toList, M.data.toList, []⟩ = A.data.toList ++ 47 :: M.data.toList := by simp [txtV, essV]
    have := mtext_any A M (.slice none 0 0) [] w hG (own_hd (B := 0) (e := 43) ⟨rfl, .inl ⟨rfl, rfl⟩⟩) (by rw [e, ← hTl, ← Lib.size_eq]; omega)
    rw [e, hT] at this
    exact this
  have HEs := hid (fun w hG => escaped_id T (fun c hc => by
    rw [hTl] at hc
    rcases List.mem_append.1 hc with hc | hc
    · exact hA c hc
    · rcases List.mem_cons.1 hc with rfl | hc
      · decide
      · exact hM c hc) w hG (by omega))
  obtain ⟨E, hE⟩ : ∃ E : ByteArray, ⟨(e64 l).toArray⟩ = E := ⟨_, rfl⟩
  have hEs : E.size ≤ 1000000 := by
    rw [← hE, Lib.size_eq]
    show (e64 l).length ≤ _
    have := e64_le l
    omega
  have HEn : Hid (∀ w, SlB w (.slice a0 len cap) l → Calls Tryz.prog 23 #[.slice a0 len cap] w fun e w' => e = .returned (.string E) ∧ Below w.heap.size w w') := fun w hv => by
    rw [← hE]; exact encode64_any a0 len cap l w hv hcap hcm (by omega)
  have HR := hid (show ba (mkV A.data.toList M.data.toList l) = ⟨#[100, 97, 116, 97, 58]⟩ ++ T ++ ⟨#[59]⟩ ++ ⟨#[98, 97, 115, 101, 54, 52]⟩ ++ ⟨#[44]⟩ ++ E by
    rw [← hT, ← hE]
    exact xext (by simp [ba, mkV]))
  have HG := hid hG
  have HV := hid hv
  have hb0 : Below w.heap.size w (w.alloc (.cells #[.string A, .string M, .slice none 0 0] 26)) := (Below.refl _ _).alloc (Nat.le_refl _) _
  have HB0 := hid hb0
  clear hT hTl hE hA hM hG hv hcap hcm hb0
  go_enter Tryz.func9, Tryz.ntmps9
  go_wp2_with fail
  refine (HTx.out _ (HG.out.kept HB0.out)).mono ?_
  rintro e w1 ⟨rfl, hb1⟩
  have HB1 := hid (below2 HB0.out hb1)
  clear hb1
  go_wp2_with fail
  refine (HEs.out _ (HG.out.kept HB1.out)).mono ?_
  rintro e w2 ⟨rfl, hb2⟩
  have HB2 := hid (below2 HB1.out hb2)
  clear hb2
  go_wp2_with fail
  refine (HEn.out _ (HV.out.kept HB2.out)).mono ?_
  rintro e w3 ⟨rfl, hb3⟩
  have HB3 := hid (below2 HB2.out hb3)
  clear hb3
  go_wp2_with fail
  go_ret
  exact ⟨by rw [HR.out]; rfl, HB3.out⟩

end Go.Proofs.YtjmkccnjjofmeaaGreatDoor

namespace Go.Proofs.YtjmkccnjjofmeaaGreatDoor
open Go.RowKit

theorem mk_num : ba (mkV [97] [98] [97]) = ⟨#[100, 97, 116, 97, 58, 97, 47, 98, 59, 98, 97, 115, 101, 54, 52, 44, 89, 81, 61, 61]⟩ := by
  have : mkV [97] [98] [97] = [100, 97, 116, 97, 58, 97, 47, 98, 59, 98, 97, 115, 101, 54, 52, 44, 89, 81, 61, 61] := by decide +kernel
  rw [this]; rfl

set_option maxHeartbeats 4000000 in
set_option maxRecDepth 100000 in
theorem dataNumbers_walk (w : World) (hg : Gd w) (hG : G5 w) :
    Calls Tryz.prog 3 #[] w fun e w' => e = .returned (.bool true) ∧ Below w.heap.size w w' := by
  have Hg := hid hg
  have HG := hid hG
  clear hg hG
  go_enter Tryz.func3, Tryz.ntmps3
  go_wp2_with fail
  refine (lread_at _ ⟨#[]⟩ k_4 (by decide) (by decide) _ Hg.out HG.out).mono ?_
  rintro e w1 ⟨rfl, hb1⟩
  have HB1 := hid hb1
  clear hb1
  go_wp2_with fail
  refine (lread_at _ ⟨#[116, 101, 120, 116, 47, 112, 108, 97, 105, 110, 59, 99, 104, 97, 114, 115, 101, 116, 61, 120, 124]⟩ k_5 (by decide) (by decide) _ (Hg.out.kept HB1.out) (HG.out.kept HB1.out)).mono ?_
  rintro e w2 ⟨rfl, hb2⟩
  have HB2 := hid (below2 HB1.out hb2)
  clear hb2
  go_wp2_with fail
  refine (lread_at _ ⟨#[]⟩ k_6 (by decide) (by decide) _ (Hg.out.kept HB2.out) (HG.out.kept HB2.out)).mono ?_
  rintro e w3 ⟨rfl, hb3⟩
  have HB3 := hid (below2 HB2.out hb3)
  clear hb3
  go_wp2_with fail
  refine (lread_at _ ⟨#[97, 47, 98, 124, 97]⟩ k_7 (by decide) (by decide) _ (Hg.out.kept HB3.out) (HG.out.kept HB3.out)).mono ?_
  rintro e w4 ⟨rfl, hb4⟩
  have HB4 := hid (below2 HB3.out hb4)
  clear hb4
  go_wp2_with fail
  refine (lread_at _ ⟨#[97, 47, 98, 124, 99, 63, 100]⟩ k_8 (by decide) (by decide) _ (Hg.out.kept HB4.out) (HG.out.kept HB4.out)).mono ?_
  rintro e w5 ⟨rfl, hb5⟩
  have HB5 := hid (below2 HB4.out hb5)
  clear hb5
  have hb0 : Below w5.heap.size w5 (w5.alloc (.cells #[.int .u8 97] 5 (1, 2))) := (Below.refl _ _).alloc (Nat.le_refl _) _
  have hv : SlB (w5.alloc (.cells #[.int .u8 97] 5 (1, 2))) (.slice (some ⟨w5.heap.size, 0, none⟩) 1 1) [97] := by
    refine .inr ⟨_, _, rfl, fun j hj => ?_⟩
    obtain rfl : j = 0 := by simpa using hj
    rw [Addr.add_lit, Lib.cell_of_heap (heap_alloc_new _ _)]
    rfl
  have HBm := hid (below2 HB5.out hb0)
  have HVm := hid hv
  clear hb0 hv
  have hcs : (convert 27 27 (.slice (some ⟨w5.heap.size, 0, none⟩) 1 1)).run Tryz.prog (w5.alloc (.cells #[.int .u8 97] 5)) = .ok (.slice (some ⟨w5.heap.size, 0, none⟩) 1 1) (w5.alloc (.cells #[.int .u8 97] 5 (1, 2))) := Lib.run_convert_bytes_const (P := Tryz.prog) w5 27 5 #[.int .u8 97] 1 1 Tryz.underlying27 Tryz.underlying5
  go_wp2_with fail
  have HMk := hid (make_d ⟨#[97]⟩ ⟨#[98]⟩ _ _ _ [97] _ (HG.out.kept HBm.out) (by decide) (by decide) (by decide) (by decide) HVm.out (by decide) (by decide) (by decide))
  rw [show (⟨#[97]⟩ : ByteArray).data.toList = [97] from rfl, show (⟨#[98]⟩ : ByteArray).data.toList = [98] from rfl, mk_num] at HMk
  refine HMk.out.mono ?_
  rintro e w6 ⟨rfl, hb6⟩
  have HB6 := hid (below2 HBm.out hb6)
  clear hb6 hcs HMk HVm
  go_wp2_with fail
  refine (lread_at _ ⟨#[]⟩ k_9 (by decide) (by decide) _ (Hg.out.kept HB6.out) (HG.out.kept HB6.out)).mono ?_
  rintro e w7 ⟨rfl, hb7⟩
  have HB7 := hid (below2 HB6.out hb7)
  clear hb7
  go_wp2_with fail
  refine (known_d _ (Hg.out.kept HB7.out) (HG.out.kept HB7.out)).mono ?_
  rintro e w8 ⟨rfl, hb8⟩
  have HB8 := hid (below2 HB7.out hb8)
  clear hb8
  go_wp2_with fail
  go_ret
  exact ⟨rfl, HB8.out⟩

end Go.Proofs.YtjmkccnjjofmeaaGreatDoor

namespace Go.Proofs.YtjmkccnjjofmeaaGreatDoor
theorem d64_facts : ∀ k, k < 64 → val64I (d64 k).toNat = k ∧ is64 (d64 k) = true ∧ d64 k ≠ 61 ∧ blankI (d64 k).toNat = false := by decide +kernel

theorem d64_val (k : Nat) (h : k < 64) : (val64I (d64 k).toNat).toNat = k := by rw [(d64_facts k h).1]; rfl

/-- The digits without the padding. -/
def eD : List UInt8 → List UInt8
  | [] => []
  | [a] => [d64 (a.toNat / 4), d64 (a.toNat % 4 * 16)]
  | [a, b] => [d64 (a.toNat / 4), d64 (a.toNat % 4 * 16 + b.toNat / 16), d64 (b.toNat % 16 * 4)]
  | a :: b :: c :: r => [d64 (a.toNat / 4), d64 (a.toNat % 4 * 16 + b.toNat / 16), d64 (b.toNat % 16 * 4 + c.toNat / 64), d64 (c.toNat % 64)] ++ eD r

def padE : List UInt8 → List UInt8
  | [] => []
  | [_] => [61, 61]
  | [_, _] => [61]
  | _ :: _ :: _ :: r => padE r

theorem e64_split (l : List UInt8) : e64 l = eD l ++ padE l := by
  match l with
  | [] => rfl
  | [a] => rfl
  | [a, b] => rfl
  | a :: b :: c :: r =>
    have := e64_split r
    simp [e64, eD, padE, this]

theorem padE_forms (l : List UInt8) : padE l = [] ∨ padE l = [61] ∨ padE l = [61, 61] := by
  match l with
  | [] => simp [padE]
  | [a] => simp [padE]
  | [a, b] => simp [padE]
  | a :: b :: c :: r => exact padE_forms r

theorem eD_mem (l : List UInt8) : ∀ d ∈ eD l, ∃ k, k < 64 ∧ d = d64 k := by
  match l with
  | [] => intro d h; simp [eD] at h
  | [a] =>
    intro d h
    have ha := a.toNat_lt
    simp [eD] at h
    rcases h with rfl | rfl
    · exact ⟨_, by omega, rfl⟩
    · exact ⟨_, by omega, rfl⟩
  | [a, b] =>
    intro d h
    have ha := a.toNat_lt
    have hb := b.toNat_lt
    simp [eD] at h
    rcases h with rfl | rfl | rfl
    · exact ⟨_, by omega, rfl⟩
    · exact ⟨_, by omega, rfl⟩
    · exact ⟨_, by omega, rfl⟩
  | a :: b :: c :: r =>
    intro d h
    have ha := a.toNat_lt
    have hb := b.toNat_lt
    have hc := c.toNat_lt
    simp [eD] at h
    rcases h with rfl | rfl | rfl | rfl | h
    · exact ⟨_, by omega, rfl⟩
    · exact ⟨_, by omega, rfl⟩
    · exact ⟨_, by omega, rfl⟩
    · exact ⟨_, by omega, rfl⟩
    · exact eD_mem r d h

theorem e64_mod (l : List UInt8) : (e64 l).length % 4 = 0 := by
  match l with
  | [] => rfl
  | [a] => simp [e64]
  | [a, b] => simp [e64]
  | a :: b :: c :: r =>
    have := e64_mod r
    simp [e64]
    omega

theorem eD_mod (l : List UInt8) : (eD l).length % 4 ≠ 1 := by
  match l with
  | [] => simp [eD]
  | [a] => simp [eD]
  | [a, b] => simp [eD]
  | a :: b :: c :: r =>
    have := eD_mod r
    simp [eD]
    omega

theorem step_0 (n : Nat) (out : List UInt8) (k : Nat) (h : k < 64) : step64 (n, 0, out) (d64 k) = (n * 64 + k, 6, out) := by
  unfold step64; simp [d64_val k h]

theorem step_6 (n : Nat) (out : List UInt8) (k : Nat) (h : k < 64) : step64 (n, 6, out) (d64 k) = (n * 64 + k, 4, out ++ [UInt8.ofNat ((n * 64 + k) / 16)]) := by
  unfold step64; simp [d64_val k h]

theorem step_4 (n : Nat) (out : List UInt8) (k : Nat) (h : k < 64) : step64 (n, 4, out) (d64 k) = (n * 64 + k, 2, out ++ [UInt8.ofNat ((n * 64 + k) / 4)]) := by
  unfold step64; simp [d64_val k h]

theorem step_2 (n : Nat) (out : List UInt8) (k : Nat) (h : k < 64) : step64 (n, 2, out) (d64 k) = (n * 64 + k, 0, out ++ [UInt8.ofNat (n * 64 + k)]) := by
  unfold step64; simp [d64_val k h]

theorem ofNat_is (a : UInt8) (m : Nat) (h : m % 256 = a.toNat) : UInt8.ofNat m = a := by
  apply UInt8.toNat_inj.1
  simp [h]

theorem run_eD (l : List UInt8) : ∀ (n : Nat) (out : List UInt8), ((eD l).foldl step64 (n, 0, out)).2.2 = out ++ l := by
  match l with
  | [] => intro n out; simp [eD]
  | [a] =>
    intro n out
    have ha := a.toNat_lt
    simp only [eD, List.foldl_cons, List.foldl_nil]
    rw [step_0 _ _ _ (by omega), step_6 _ _ _ (by omega), ofNat_is a _ (by omega)]
  | [a, b] =>
    intro n out
    have ha := a.toNat_lt
    have hb := b.toNat_lt
    simp only [eD, List.foldl_cons, List.foldl_nil]
    rw [step_0 _ _ _ (by omega), step_6 _ _ _ (by omega), step_4 _ _ _ (by omega), ofNat_is a _ (by omega), ofNat_is b _ (by omega)]
    simp
  | a :: b :: c :: r =>
    intro n out
    have ha := a.toNat_lt
    have hb := b.toNat_lt
    have hc := c.toNat_lt
    have ih := run_eD r
    simp only [eD, List.cons_append, List.nil_append, List.foldl_cons]
    rw [step_0 _ _ _ (by omega), step_6 _ _ _ (by omega), step_4 _ _ _ (by omega), step_2 _ _ _ (by omega), ih, ofNat_is a _ (by omega), ofNat_is b _ (by omega), ofNat_is c _ (by omega)]
    simp

theorem trim_yes (x : List UInt8) : Lib.trimSuffix (x ++ [61]) [61] = x := by
  unfold Lib.trimSuffix
  have : Lib.hasSuffix (x ++ [61]) [61] = true := by
    rw [← Lib.hasSuffix_of_drop]; simp
  simp [this]

theorem trim_no (x : List UInt8) (h : ∀ d ∈ x, d ≠ 61) : Lib.trimSuffix x [61] = x := by
  unfold Lib.trimSuffix
  have : Lib.hasSuffix x [61] = false := by
    rw [← Lib.hasSuffix_of_drop]
    rw [Bool.and_eq_false_iff]
    by_cases hx : x = []
    · left; simp [hx]
    · right
      rw [beq_eq_false_iff_ne]
      intro e
      have hm : (61 : UInt8) ∈ x.drop (x.length - 1) := by
        have e' : x.drop (x.length - 1) = [61] := e
        rw [e']; simp
      exact h 61 (List.mem_of_mem_drop hm) rfl
  simp [this]

theorem unpadded (l : List UInt8) : noPadding (e64 l) = eD l := by
  have hne : ∀ d ∈ eD l, d ≠ 61 := by
    intro d hd
    obtain ⟨k, hk, rfl⟩ := eD_mem l d hd
    exact (d64_facts k hk).2.2.1
  unfold noPadding
  rw [if_pos (e64_mod l), e64_split]
  rcases padE_forms l with h | h | h
  · rw [h, List.append_nil, trim_no _ hne, trim_no _ hne]
  · rw [h, trim_yes, trim_no _ hne]
  · rw [h, show eD l ++ [61, 61] = (eD l ++ [61]) ++ [61] by simp, trim_yes, trim_yes]

theorem e64_noBlank (l : List UInt8) : ∀ d ∈ e64 l, blankI d.toNat = false := by
  intro d hd
  rw [e64_split, List.mem_append] at hd
  rcases hd with hd | hd
  · obtain ⟨k, hk, rfl⟩ := eD_mem l d hd
    exact (d64_facts k hk).2.2.2
  · rcases padE_forms l with h | h | h <;> rw [h] at hd <;> simp at hd
    · subst hd; rfl
    · subst hd; rfl

theorem noBlanks_same (l : List UInt8) (h : ∀ d ∈ l, blankI d.toNat = false) : noBlanks l = l := by
  unfold noBlanks
  rw [List.filter_eq_self]
  intro d hd
  simp [h d hd]

theorem b64_of (l m : List UInt8) (h : noBlanks m = e64 l) : b64 m = some l := by
  unfold b64
  rw [h, unpadded, if_neg (eD_mod l)]
  have hall : (eD l).all is64 = true := by
    rw [List.all_eq_true]
    intro d hd
    obtain ⟨k, hk, rfl⟩ := eD_mem l d hd
    exact (d64_facts k hk).2.1
  rw [hall]
  simp only [if_true]
  unfold run64
  rw [run_eD]
  rfl

theorem b64_back (l : List UInt8) : b64 (e64 l) = some l := b64_of l _ (noBlanks_same _ (e64_noBlank l))

theorem b64_blanks (l : List UInt8) (i : Nat) : b64 ((e64 l).take i ++ ([32, 10] ++ (e64 l).drop i)) = some l := by
  apply b64_of
  have h1 : noBlanks ((e64 l).take i) = (e64 l).take i := noBlanks_same _ fun d hd => e64_noBlank l d (List.mem_of_mem_take hd)
  have h2 : noBlanks ((e64 l).drop i) = (e64 l).drop i := noBlanks_same _ fun d hd => e64_noBlank l d (List.mem_of_mem_drop hd)
  have h3 : noBlanks ([32, 10] : List UInt8) = [] := by decide
  have happ : ∀ x y : List UInt8, noBlanks (x ++ y) = noBlanks x ++ noBlanks y := fun x y => by simp [noBlanks]
  rw [happ, happ, h1, h2, h3, List.nil_append, List.take_append_drop]

end Go.Proofs.YtjmkccnjjofmeaaGreatDoor

namespace Go.Proofs.YtjmkccnjjofmeaaGreatDoor
theorem hexD_facts : ∀ k, k < 16 → is16I (hexD k).toNat = true ∧ val16I (hexD k).toNat = k := by decide +kernel

theorem unpct_esc (c : UInt8) (r : List UInt8) : unpct (esc c ++ r) = c :: unpct r := by
  have hc := c.toNat_lt
  have h1 := hexD_facts (c.toNat / 16) (by omega)
  have h2 := hexD_facts (c.toNat % 16) (by omega)
  have e : pcd (37 :: hexD (c.toNat / 16) :: hexD (c.toNat % 16) :: r) = (c, true) := by
    rw [pcd_three, h1.1, h2.1, h1.2, h2.2]
    simp only [Bool.and_self, if_true]
    congr 1
    apply UInt8.toNat_inj.1
    simp
    omega
  show unpct (37 :: (hexD (c.toNat / 16) :: hexD (c.toNat % 16) :: r)) = _
  rw [unpct_cons, e]
  rfl

theorem unpct_pct (set : Int) (l : List UInt8) (h : ∀ c ∈ l, c ≠ 37) : unpct (pct set l) = l := by
  induction l with
  | nil => rfl
  | cons c l ih =>
    have h1 := h c (by simp)
    have h2 := ih fun d hd => h d (by simp [hd])
    have e : pct set (c :: l) = pct1 set c ++ pct set l := by simp [pct]
    rw [e]
    unfold pct1
    split
    · rw [unpct_esc, h2]
    · show unpct (c :: pct set l) = _
      rw [unpct_cons, pcd_other _ _ h1]
      simp [h2]

end Go.Proofs.YtjmkccnjjofmeaaGreatDoor

namespace Go.Proofs.YtjmkccnjjofmeaaGreatDoor
open Go.RowKit

set_option maxHeartbeats 400000 in
theorem fewBytes_any (a : Option Addr) (len cap n : Nat) (l : List UInt8) (w : World) (hl : l.length = len) (hS : SlB w (.slice a len cap) l) (hc : len ≤ cap) (hm : cap ≤ maxLen) (hn : n ≤ 9223372036854775807) :
    Calls Tryz.prog 15 #[.slice a len cap, .int .i64 n] w fun e w' => ∃ len', len' = (l.take n).length ∧ len' ≤ cap ∧ e = .returned (.slice a len' cap) ∧ SlB w (.slice a len' cap) (l.take n) ∧ w = w' := by
  unfold maxLen at hm
  by_cases h : n < len
  · have h' : (n : Int) < (len : Int) := by omega
    go_enter Tryz.func15, Tryz.ntmps15
    go_wp2
    go_ret
    exact ⟨n, by simp; omega, by omega, rfl, hS.take n (by omega), rfl⟩
  · have h' : (len : Int) ≤ (n : Int) := by omega
    go_enter Tryz.func15, Tryz.ntmps15
    go_wp2
    go_ret
    have e : l.take n = l := List.take_of_length_le (by omega)
    rw [e]
    exact ⟨len, hl.symm, hc, rfl, hS, rfl⟩

end Go.Proofs.YtjmkccnjjofmeaaGreatDoor

namespace Go.Proofs.YtjmkccnjjofmeaaGreatDoor
open Go.RowKit

theorem SlB.some {w : World} {a : Option Addr} {len cap : Nat} {l : List UInt8} (h : SlB w (.slice a len cap) l) (h0 : 0 < l.length) : ∃ x, a = some x ∧ len = l.length ∧ ∀ j (hj : j < l.length), w.cell? (x.add j) = some (.int .u8 (l[j].toNat : Int)) := by
  rcases h with ⟨c, e, rfl⟩ | ⟨x, c, e, hc⟩
  · simp at h0
  · obtain ⟨rfl, rfl, rfl⟩ := Value.slice.inj e
    exact ⟨x, rfl, rfl, hc⟩

theorem SlB.length {w : World} {a : Option Addr} {len cap : Nat} {l : List UInt8} (h : SlB w (.slice a len cap) l) : len = l.length := by
  rcases h with ⟨c, e, rfl⟩ | ⟨x, c, e, hc⟩
  · obtain ⟨_, rfl, _⟩ := Value.slice.inj e
    rfl
  · obtain ⟨_, rfl, _⟩ := Value.slice.inj e
    rfl

theorem byte_ne {a b : UInt8} (h : a ≠ b) : ((a.toNat : Int) != (b.toNat : Int)) = true := by
  rw [bne_iff_ne]
  intro e
  exact h (UInt8.toNat_inj.1 (by omega))

set_option maxHeartbeats 1000000 in
theorem same_any (a b : Option Addr) (la lb ca cb : Nat) (x y : List UInt8) (w : World) (hx : SlB w (.slice a la ca) x) (hy : SlB w (.slice b lb cb) y) (hxs : x.length ≤ 140737488351232) (hys : y.length ≤ 140737488351232) :
    Calls Tryz.prog 17 #[.slice a la ca, .slice b lb cb] w fun e w' => e = .returned (.bool (x == y)) ∧ Below w.heap.size w w' := by
  obtain rfl := hx.length
  obtain rfl := hy.length
  by_cases hlen : x.length = y.length
  · have hl' : ((x.length : Int) != (y.length : Int)) = false := by simp; omega
    have hle1 : x.length ≤ y.length := by omega
    have hle2 : y.length ≤ x.length := by omega
    clear hlen
    go_enter Tryz.func17, Tryz.ntmps17
    go_wp2
    go_loopw [5] (fun i wr => ∃ k : Nat, k ≤ x.length ∧ i = .int .i64 k ∧ x.take k = y.take k ∧ Below w.heap.size w wr) (fun i _ => x.length - (intOf i).toNat)
    case atStart => exact ⟨0, Nat.zero_le _, rfl, rfl, Below.refl _ _⟩
    case round =>
      obtain ⟨k, hk, rfl, heq, hbw⟩ := hrel
      have HQ := hid heq
      clear heq
      by_cases hlt : k < x.length
      · obtain ⟨p, rfl, _, hpc⟩ := (hx.kept hbw).some (by omega)
        obtain ⟨q, rfl, _, hqc⟩ := (hy.kept hbw).some (by omega)
        have hky : k < y.length := by omega
        have c1 := hpc k hlt
        have c2 := hqc k hky
        have HX := hid (List.take_succ_eq_append_getElem hlt)
        have HY := hid (List.take_succ_eq_append_getElem hky)
        generalize hgx : x[k] = cx at *
        generalize hgy : y[k] = cy at *
        have hki : (k : Int) < (x.length : Int) := by omega
        have hki2 : (k : Int) < (y.length : Int) := by omega
        clear hpc hqc
        by_cases hc : cx = cy
        · have hc' : ((cx.toNat : Int) != (cy.toNat : Int)) = false := by rw [hc]; simp
          have HC := hid hc
          clear hc
          go_wp2
          go_quiet (fail)
          go_wp2
          go_roundw
          case rel => exact ⟨k + 1, by omega, by go_num, by rw [HX.out, HY.out, HQ.out, HC.out], below_drewN hbw _⟩
          case measure => simp [intOf]; omega
        · have hc' := byte_ne hc
          have HC := hid hc
          clear hc
          go_wp2
          go_quiet (fail)
          go_wp2
          go_ret
          refine ⟨ret_bool ?_, below_drewN hbw _⟩
          symm
          rw [beq_eq_false_iff_ne]
          intro h
          subst h
          exact HC.out (hgx.symm.trans hgy)
      · go_wp2
        go_ret
        refine ⟨ret_bool ?_, hbw⟩
        have h1 := HQ.out
        rw [List.take_of_length_le (by omega), List.take_of_length_le (by omega)] at h1
        simp [h1]
  · have hl' : ((x.length : Int) != (y.length : Int)) = true := by simp; omega
    go_enter Tryz.func17, Tryz.ntmps17
    go_wp2
    go_ret
    refine ⟨ret_bool ?_, Below.refl _ _⟩
    symm
    rw [beq_eq_false_iff_ne]
    intro h
    exact hlen (congrArg List.length h)

end Go.Proofs.YtjmkccnjjofmeaaGreatDoor
