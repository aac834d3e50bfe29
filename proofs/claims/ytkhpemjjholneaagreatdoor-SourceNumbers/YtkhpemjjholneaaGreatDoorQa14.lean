/-
  Walks and plain facts that this claim leans on, put together out of 4 texts: Yd, Ye, Yg, Um.
-/
import Derived.Test.YtkhpemjjholneaaGreatDoorProg
import Derived.Test.YtkhpemjjholneaaGreatDoorQa1
import Derived.Test.YtkhpemjjholneaaGreatDoorQa2
import Derived.Test.YtkhpemjjholneaaGreatDoorQa3
import Derived.Test.YtkhpemjjholneaaGreatDoorQa4
import Derived.Test.YtkhpemjjholneaaGreatDoorQa5
import Derived.Test.YtkhpemjjholneaaGreatDoorQa6
import Derived.Test.YtkhpemjjholneaaGreatDoorQa7
import Derived.Test.YtkhpemjjholneaaGreatDoorQa8
import Derived.Test.YtkhpemjjholneaaGreatDoorQa9
import Derived.Test.YtkhpemjjholneaaGreatDoorQa10
import Derived.Test.YtkhpemjjholneaaGreatDoorQa11
import Derived.Test.YtkhpemjjholneaaGreatDoorQa12
import Derived.Test.YtkhpemjjholneaaGreatDoorQa13
import Derived.Laws.RangeAny
import Derived.Lib.DecodeN
import Derived.Lib.OthersKept
import Derived.Deep.LoopGhost
import Derived.RegionTactic
import Derived.Deep.RegionWith
import Derived.Deep.QuietTactic
import Derived.BigQuiet
import Derived.Lib.AppendIntMem
import Derived.Lib.SmallJoins
import Derived.WalkSmall
import Derived.WalkMore
import Derived.Lib.LastIndexByte
import Derived.OwnWalk
import Derived.Deep.RegionLaw
import Derived.Laws.AppendOwn
import Derived.Laws.CopyOwn
import Derived.Laws.ResultCell
import Derived.Deep.MidRow
import Derived.Shelf.Strings.Builder1
import Derived.Shelf.Strings.Builder2
import Derived.Shelf.Strings.OnBuilder
import Derived.Shelf.Strings.Trim
import Derived.Shelf.Small.Utf8
import Derived.Shelf.Small.Bits
import Derived.Shelf.Small.Strs
import Derived.Shelf.Small.Wraps
import Derived.Shelf.Strings.BuilderF
import Derived.Shelf.Strings.BuilderK
import Derived.Shelf.Strings.BuilderRune
import Derived.Shelf.Utf8.AppendRune
import Derived.Shelf.Utf8.AppendRunePlain
import Derived.Shelf.Strings.Builder2Cap
import Derived.Shelf.Strconv.Itoa0
import Derived.Shelf.Strconv.Itoa1
import Derived.Shelf.LaysM
import Derived.Shelf.Strconv.Itoa2
import Derived.Shelf.Strconv.Itoa3
import Derived.Shelf.Strings.Search1
import Derived.Shelf.Strings.Search2
import Derived.Shelf.Strings.Search3
import Derived.Shelf.Strings.Cut
import Derived.Shelf.Strings.Count
import Derived.Shelf.Strings.Shaped
import Derived.Shelf.Sort.Plain
import Derived.Shelf.Strings.LastIndex
import Derived.Shelf.Strings.Prefix
import Derived.Shelf.Strings.Split
import Derived.Shelf.Strings.Replace
import Derived.Shelf.Strings.Runes
import Derived.Shelf.Strings.IndexAny
import Derived.Shelf.Strings.AsciiSet
import Derived.Shelf.Strings.IndexAnyAll
import Derived.Shelf.Unicode.DecodeSlow
import Derived.Shelf.Unicode.DecodeAny
import Derived.Shelf.Unicode.DecodeLast
import Derived.Shelf.Strings.FieldsFuncAny
import Derived.Shelf.Strings.FieldsFuncGrows
import Derived.Shelf.Slices.Equal
import Derived.Ground.Names2Prog
import Derived.Shelf.Slices.Clone
import Derived.Ground.SlgnProg
import Derived.Shelf.SlicesE.Equal
import Derived.Shelf.SlicesE.Clone
import Derived.WalkKit
import Derived.WalkSpells
import Derived.WalkLawsBesides
import Derived.Lib.Strings
import Derived.Lib.UnsafeStr
import Derived.Laws.IdiomStrings
import Derived.Lib.Bytealg
import Derived.Lib.FrozenHead2
import Derived.Lib.Builder
import Derived.Deep.WholeRow
import Derived.Lib.IndexMore
import Derived.Lib.Join
import Derived.Laws.BitsAllLaws
import Derived.Laws.OwnMore
import Derived.LoopN
import Derived.Lib.BufferMore
import Derived.Lib.IndexAny
import Derived.Lib.Replace
import Derived.Lib.TrimByte
import Derived.Lib.ItoaNum
import Derived.Laws.BytesString
import Derived.Laws.Runes
import Derived.Scope
import Derived.ScopeJumps
import Derived.BigRegion
set_option linter.unusedSimpArgs false
set_option linter.unusedVariables false

namespace Go.Proofs.YtkhpemjjholneaaGreatDoor
open Go.RowKit

theorem beqL_yes {a b : List UInt8} (h : a = b) : (a == b) = true := by rw [h]; exact beq_self_eq_true _

theorem beqL_no {a b : List UInt8} (h : a ≠ b) : (a == b) = false := beq_eq_false_iff_ne.2 h

set_option maxHeartbeats 1000000 in
theorem scheme11_any (a b : ByteArray) (w : World) :
    Calls Tryz.prog 32 #[.string a, .string b] w fun e w' => e = .returned (.bool (schM a.data.toList b.data.toList)) ∧ w = w' := by
  by_cases h0 : a.data.toList = b.data.toList
  · have HN := hid (show schM a.data.toList b.data.toList = true by unfold schM; rw [h0]; simp)
    have e0 : (a.toList == b.toList) = true := by rw [Lib.toList_data b]; exact beq_yes a _ h0
    clear h0
    go_enter Tryz.func32, Tryz.ntmps32
    go_wp2
    go_ret
    rw [HN.out]; exact ⟨rfl, rfl⟩
  · have e0 : (a.toList == b.toList) = false := by rw [Lib.toList_data b]; exact beq_no a _ h0
    have z0 := beqL_no h0
    by_cases h1 : a.data.toList = sHttp
    · have e1 := beq_yes a [104, 116, 116, 112] h1
      by_cases h2 : b.data.toList = sHttps
      · have e2 := beq_yes b [104, 116, 116, 112, 115] h2
        have HN := hid (show schM a.data.toList b.data.toList = true by unfold schM; rw [z0, if_pos h1, beqL_yes h2]; rfl)
        clear h0 h1 h2 z0
        go_enter Tryz.func32, Tryz.ntmps32
        go_wp2
        go_ret
        rw [HN.out]; exact ⟨rfl, rfl⟩
      · have e2 := beq_no b [104, 116, 116, 112, 115] h2
        by_cases h3 : b.data.toList = sWs
        · have e3 := beq_yes b [119, 115] h3
          have HN := hid (show schM a.data.toList b.data.toList = true by unfold schM; rw [z0, if_pos h1, beqL_no h2, beqL_yes h3]; rfl)
          clear h0 h1 h2 h3 z0
          go_enter Tryz.func32, Tryz.ntmps32
          go_wp2
          go_ret
          rw [HN.out]; exact ⟨rfl, rfl⟩
        · have e3 := beq_no b [119, 115] h3
          obtain ⟨q, hq⟩ : ∃ q, (b.toList == [119, 115, 115]) = q := ⟨_, rfl⟩
          have HN := hid (show schM a.data.toList b.data.toList = q by unfold schM; rw [z0, if_pos h1, beqL_no h2, beqL_no h3, ← hq, Lib.toList_data]; rfl)
          clear h0 h1 h2 h3 z0
          go_enter Tryz.func32, Tryz.ntmps32
          go_wp2
          go_ret
          rw [HN.out]; exact ⟨rfl, rfl⟩
    · have e1 := beq_no a [104, 116, 116, 112] h1
      by_cases h2 : a.data.toList = sWs
      · have e2 := beq_yes a [119, 115] h2
        obtain ⟨q, hq⟩ : ∃ q, (b.toList == [119, 115, 115]) = q := ⟨_, rfl⟩
        have HN := hid (show schM a.data.toList b.data.toList = q by unfold schM; rw [z0, if_neg h1, if_pos h2, ← hq, Lib.toList_data]; rfl)
        clear h0 h1 h2 z0
        go_enter Tryz.func32, Tryz.ntmps32
        go_wp2
        go_ret
        rw [HN.out]; exact ⟨rfl, rfl⟩
      · have e2 := beq_no a [119, 115] h2
        have HN := hid (show schM a.data.toList b.data.toList = false by unfold schM; rw [z0, if_neg h1, if_neg h2]; rfl)
        clear h0 h1 h2 z0
        go_enter Tryz.func32, Tryz.ntmps32
        go_wp2
        go_ret
        rw [HN.out]; exact ⟨rfl, rfl⟩

set_option maxHeartbeats 1000000 in
theorem fetched_any (s : ByteArray) (w : World) :
    Calls Tryz.prog 125 #[.string s] w fun e w' => e = .returned (.bool (fetV s.data.toList)) ∧ w = w' := by
  by_cases h0 : s.data.toList = sHttp
  · have e0 := beq_yes s [104, 116, 116, 112] h0
    have HN := hid (show fetV s.data.toList = true by unfold fetV; rw [beqL_yes h0]; rfl)
    clear h0
    go_enter Tryz.func125, Tryz.ntmps125
    go_wp2
    go_ret
    rw [HN.out]; exact ⟨rfl, rfl⟩
  · have e0 := beq_no s [104, 116, 116, 112] h0
    by_cases h1 : s.data.toList = sHttps
    · have e1 := beq_yes s [104, 116, 116, 112, 115] h1
      have HN := hid (show fetV s.data.toList = true by unfold fetV; rw [beqL_no h0, beqL_yes h1]; rfl)
      clear h0 h1
      go_enter Tryz.func125, Tryz.ntmps125
      go_wp2
      go_ret
      rw [HN.out]; exact ⟨rfl, rfl⟩
    · have e1 := beq_no s [104, 116, 116, 112, 115] h1
      by_cases h2 : s.data.toList = sWs
      · have e2 := beq_yes s [119, 115] h2
        have HN := hid (show fetV s.data.toList = true by unfold fetV; rw [beqL_no h0, beqL_no h1, beqL_yes h2]; rfl)
        clear h0 h1 h2
        go_enter Tryz.func125, Tryz.ntmps125
        go_wp2
        go_ret
        rw [HN.out]; exact ⟨rfl, rfl⟩
      · have e2 := beq_no s [119, 115] h2
        by_cases h3 : s.data.toList = sWss
        · have e3 := beq_yes s [119, 115, 115] h3
          have HN := hid (show fetV s.data.toList = true by unfold fetV; rw [beqL_no h0, beqL_no h1, beqL_no h2, beqL_yes h3]; rfl)
          clear h0 h1 h2 h3
          go_enter Tryz.func125, Tryz.ntmps125
          go_wp2
          go_ret
          rw [HN.out]; exact ⟨rfl, rfl⟩
        · have e3 := beq_no s [119, 115, 115] h3
          have HN := hid (show fetV s.data.toList = false by unfold fetV; rw [beqL_no h0, beqL_no h1, beqL_no h2, beqL_no h3]; rfl)
          clear h0 h1 h2 h3
          go_enter Tryz.func125, Tryz.ntmps125
          go_wp2
          go_ret
          rw [HN.out]; exact ⟨rfl, rfl⟩

set_option maxHeartbeats 400000 in
theorem sletter_any (c : Int) (w : World) :
    Calls Tryz.prog 177 #[.int .u8 c] w fun e w' => e = .returned (.bool (letterI c)) ∧ w = w' := by
  go_enter Tryz.func177, Tryz.ntmps177
  go_wp2
  all_goals
    go_ret
    exact ⟨ret_bool (by rw [Bool.eq_iff_iff]; simp [letterI]; omega), rfl⟩

/-- A byte of a scheme. -/
def schI (c : Int) : Bool := letterI c || (digitI c || (c == 43 || (c == 45 || c == 46)))

theorem schI_C (c : UInt8) : schI c.toNat = schC c := by
  have key : ∀ n < 256, schI ((UInt8.ofNat n).toNat : Int) = schC (UInt8.ofNat n) := by decide +kernel
  have e : UInt8.ofNat c.toNat = c := by simp
  have := key c.toNat c.toNat_lt
  rw [e] at this
  exact this

set_option maxHeartbeats 1000000 in
theorem schemeByte_any (c : Int) (w : World) :
    Calls Tryz.prog 178 #[.int .u8 c] w fun e w' => e = .returned (.bool (schI c)) ∧ w = w' := by
  have HL := hid (fun w => sletter_any c w)
  obtain ⟨q, hq⟩ : ∃ q, letterI c = q := ⟨_, rfl⟩
  rw [hq] at HL
  have HQ := hid hq
  clear hq
  by_cases h1 : c = 43
  · subst h1
    go_enter Tryz.func178, Tryz.ntmps178
    go_wp2
    go_ret
    exact ⟨ret_bool (by decide), rfl⟩
  · by_cases h2 : c = 45
    · subst h2
      go_enter Tryz.func178, Tryz.ntmps178
      go_wp2
      go_ret
      exact ⟨ret_bool (by decide), rfl⟩
    · by_cases h3 : c = 46
      · subst h3
        go_enter Tryz.func178, Tryz.ntmps178
        go_wp2
        go_ret
        exact ⟨ret_bool (by decide), rfl⟩
      · have e1 : (c == 43) = false := beq_eq_false_iff_ne.2 h1
        have e2 : (c == 45) = false := beq_eq_false_iff_ne.2 h2
        have e3 : (c == 46) = false := beq_eq_false_iff_ne.2 h3
        have HS := hid (show schI c = (q || digitI c) by unfold schI; rw [HQ.out, e1, e2, e3]; simp)
        clear h1 h2 h3
        obtain ⟨d1, hd1⟩ : ∃ d, decide ((48 : Int) ≤ c) = d := ⟨_, rfl⟩
        obtain ⟨d2, hd2⟩ : ∃ d, decide (c ≤ (57 : Int)) = d := ⟨_, rfl⟩
        have HD := hid (show digitI c = (d1 && d2) by unfold digitI; rw [hd1, hd2])
        cases q <;> cases d1 <;>
        · go_enter Tryz.func178, Tryz.ntmps178
          go_wp2_with (go_at_call 177; refine (HL.out _).mono ?_; rintro e w' ⟨rfl, rfl⟩)
          go_ret
          exact ⟨ret_bool (by rw [HS.out, HD.out]; rfl), rfl⟩

set_option maxHeartbeats 1000000 in
theorem scut_gen (s ends : ByteArray) (w : World) (hs : s.size ≤ 4000000000)
    (hI : Calls Tryz.prog 180 #[.string s, .string ends] w fun e w' => e = .returned (.int .i64 (Lib.indexAny s.data.toList ends.data.toList)) ∧ Below w.heap.size w w') :
    Calls Tryz.prog 132 #[.string s, .string ends] w fun e w' => e = .returned (.tuple #[.string ⟨(aheadV ends.data.toList s.data.toList).1.toArray⟩, .string ⟨(aheadV ends.data.toList s.data.toList).2.toArray⟩]) ∧ Below w.heap.size w w' := by
  have HI := hid hI
  clear hI
  rcases ahead_index ends.data.toList s.data.toList with ⟨h1, h2⟩ | ⟨i, hi, h1, h2⟩
  · have H2 := hid h2
    clear h2
    have e0 : s.extract 0 s.size = ⟨s.data.toList.toArray⟩ := ba_ext (by rw [extract_drop]; simp)
    have e1 : s.extract s.size s.size = ⟨#[]⟩ := ba_ext (by rw [extract_drop]; simp)
    have HE0 := hid e0
    have HE1 := hid e1
    clear e0 e1
    have hsz : (0 : Int) ≤ (s.size : Int) := by omega
    go_enter Tryz.func132, Tryz.ntmps132
    go_wp2_with (go_at_call 180; refine HI.out.mono ?_; rintro e w1 ⟨rfl, hb1⟩; rw [h1])
    go_region
    all_goals
      go_wp2
      go_ret2
      refine ⟨?_, by first | exact hb1 | exact hb1.trans ((Below.refl _ w1).drew.mono hb1.size) | exact hb1.drew⟩
      rw [H2.out]
      refine ret_ss ?_ ?_
      · first | exact HE0.out | (rw [← HE0.out]; simp) | simp
      · first | exact HE1.out | (rw [← HE1.out]; simp) | simp
  · have H2 := hid h2
    clear h2
    have hi' : (i : Int) < (s.size : Int) := by simp at hi; omega
    go_enter Tryz.func132, Tryz.ntmps132
    go_wp2_with (go_at_call 180; refine HI.out.mono ?_; rintro e w1 ⟨rfl, hb1⟩; rw [h1])
    go_region
    all_goals
      go_wp2
      go_ret2
      refine ⟨?_, by first | exact hb1 | exact hb1.drew⟩
      rw [H2.out]
      refine ret_ss ?_ ?_
      · exact ba_ext (by rw [Lib.extract_data]; simp)
      · exact ba_ext (by rw [extract_drop])

theorem scut2_any (s : ByteArray) (w : World) (hs : s.size ≤ 4000000000) :
    Calls Tryz.prog 132 #[.string s, .string ⟨#[58, 47]⟩] w fun e w' => e = .returned (.tuple #[.string ⟨(aheadV [58, 47] s.data.toList).1.toArray⟩, .string ⟨(aheadV [58, 47] s.data.toList).2.toArray⟩]) ∧ Below w.heap.size w w' :=
  scut_gen s ⟨#[58, 47]⟩ w hs (m11indexAny2_any s w hs)

theorem scut1_any (s : ByteArray) (w : World) (hs : s.size ≤ 4000000000) :
    Calls Tryz.prog 132 #[.string s, .string ⟨#[47]⟩] w fun e w' => e = .returned (.tuple #[.string ⟨(aheadV [47] s.data.toList).1.toArray⟩, .string ⟨(aheadV [47] s.data.toList).2.toArray⟩]) ∧ Below w.heap.size w w' :=
  scut_gen s ⟨#[47]⟩ w hs (m11indexAny1_any s w)

end Go.Proofs.YtkhpemjjholneaaGreatDoor

namespace Go.Proofs.YtkhpemjjholneaaGreatDoor
open Go.RowKit

theorem hostM_empty {n h : List UInt8} (e : h = []) : hostM n h = false := by unfold hostM; rw [if_pos (.inl e), e]; rfl

theorem hostM_any {n h : List UInt8} (e : h ≠ []) (e2 : n = [42]) : hostM n h = true := by unfold hostM; rw [if_pos (.inr e2)]; simp [e]

theorem hostM_below {n h : List UInt8} (e : h ≠ []) (e2 : n ≠ [42]) (e3 : Lib.hasPrefix n [42, 46] = true) (e4 : n ≠ [42, 46]) : hostM n h = (Lib.hasSuffix h (n.drop 1) && decide ((n.drop 1).length < h.length)) := by
  unfold hostM
  rw [if_neg (by simp [e, e2]), e3]
  simp [e4]

theorem hostM_same {n h : List UInt8} (e : h ≠ []) (e2 : n ≠ [42]) (e3 : Lib.hasPrefix n [42, 46] = false ∨ n = [42, 46]) : hostM n h = (n == h) := by
  unfold hostM
  rw [if_neg (by simp [e, e2]), if_neg]
  rcases e3 with e3 | e3
  · rw [e3]; simp
  · rw [e3]; decide

set_option maxHeartbeats 2000000 in
theorem hostMeans_any (n h : ByteArray) (w : World) (hn : n.size ≤ 4000000000) (hh : h.size ≤ 4000000000) :
    Calls Tryz.prog 133 #[.string n, .string h] w fun e w' => e = .returned (.bool (hostM n.data.toList h.data.toList)) ∧ w = w' := by
  have HP : Hid (∀ w : World, Calls Tryz.prog 39 #[.string n, .string ⟨#[42, 46]⟩] w fun e w' => e = .returned (.bool (Lib.hasPrefix n.data.toList [42, 46])) ∧ w' = w) := fun w => Tryz.strings_HasPrefix n ⟨#[42, 46]⟩ w
  by_cases h0 : h.data.toList = []
  · have HN := hid (hostM_empty (n := n.data.toList) h0)
    have he := empty_yes h h0
    clear h0
    go_enter Tryz.func133, Tryz.ntmps133
    go_wp2
    go_ret
    rw [HN.out]; exact ⟨rfl, rfl⟩
  · have he := empty_no h h0
    by_cases h1 : n.data.toList = [42]
    · have HN := hid (hostM_any h0 h1)
      have e1 := beq_yes n [42] h1
      clear h0 h1
      go_enter Tryz.func133, Tryz.ntmps133
      go_wp2
      go_ret
      rw [HN.out]; exact ⟨rfl, rfl⟩
    · have e1 := beq_no n [42] h1
      by_cases h2 : n.data.toList = [42, 46]
      · have HN := hid (hostM_same h0 h1 (.inr h2))
        have e2 := beq_yes n [42, 46] h2
        have HPt := hid (show Lib.hasPrefix n.data.toList [42, 46] = true by rw [h2]; rfl)
        obtain ⟨q, hq⟩ : ∃ q, (n.toList == h.toList) = q := ⟨_, rfl⟩
        have HQ := hid (show (n.data.toList == h.data.toList) = q by rw [← hq, Lib.toList_data, Lib.toList_data])
        clear h0 h1 h2
        go_enter Tryz.func133, Tryz.ntmps133
        go_wp2_with (go_at_call 39; refine (HP.out _).mono ?_; rintro e w1 ⟨rfl, hw⟩; rw [hw, HPt.out]; clear hw)
        go_ret
        rw [HN.out, HQ.out]; exact ⟨rfl, rfl⟩
      · have e2 := beq_no n [42, 46] h2
        cases hp : Lib.hasPrefix n.data.toList [42, 46] with
        | false =>
          have HN := hid (hostM_same h0 h1 (.inl hp))
          have HPt := hid hp
          obtain ⟨q, hq⟩ : ∃ q, (n.toList == h.toList) = q := ⟨_, rfl⟩
          have HQ := hid (show (n.data.toList == h.data.toList) = q by rw [← hq, Lib.toList_data, Lib.toList_data])
          clear h0 h1 h2 hp
          go_enter Tryz.func133, Tryz.ntmps133
          go_wp2_with (go_at_call 39; refine (HP.out _).mono ?_; rintro e w1 ⟨rfl, hw⟩; rw [hw, HPt.out]; clear hw)
          go_ret
          rw [HN.out, HQ.out]; exact ⟨rfl, rfl⟩
        | true =>
          have HN := hid (hostM_below h0 h1 hp h2)
          have HPt := hid hp
          have hn1 : 1 ≤ n.size := by
            rw [Lib.size_eq]
            cases hx : n.data.toList with
            | nil => rw [hx] at hp; exact absurd hp (by decide)
            | cons c r => simp
          have hn1' : (1 : Int) ≤ (n.size : Int) := by omega
          obtain ⟨E, hE⟩ : ∃ E : ByteArray, n.extract 1 n.size = E := ⟨_, rfl⟩
          have hEl : E.data.toList = n.data.toList.drop 1 := by rw [← hE, extract_drop]
          have HS := hid (fun w => Tryz.strings_HasSuffix h E w (by omega))
          obtain ⟨q, hq⟩ : ∃ q, Lib.hasSuffix h.data.toList E.data.toList = q := ⟨_, rfl⟩
          rw [hq] at HS
          obtain ⟨d, hd⟩ : ∃ d, decide (E.size < h.size) = d := ⟨_, rfl⟩
          have HV := hid (show hostM n.data.toList h.data.toList = (q && d) by
            rw [HN.out, ← hEl, hq, ← hd]
            rfl)
          clear h0 h1 h2 hp HN hEl hq
          cases q with
          | false =>
            go_enter Tryz.func133, Tryz.ntmps133
            go_wp2_with (first | (go_at_call 39; refine (HP.out _).mono ?_; rintro e w1 ⟨rfl, hw⟩; rw [hw, HPt.out]; clear hw) | (go_at_call 64; refine (HS.out _).mono ?_; rintro e w1 ⟨rfl, hw⟩; rw [hw]; clear hw))
            go_ret
            rw [HV.out]; exact ⟨rfl, rfl⟩
          | true =>
            go_enter Tryz.func133, Tryz.ntmps133
            go_wp2_with (first | (go_at_call 39; refine (HP.out _).mono ?_; rintro e w1 ⟨rfl, hw⟩; rw [hw, HPt.out]; clear hw) | (go_at_call 64; refine (HS.out _).mono ?_; rintro e w1 ⟨rfl, hw⟩; rw [hw]; clear hw))
            go_ret
            rw [HV.out]; exact ⟨rfl, rfl⟩

set_option maxHeartbeats 2000000 in
set_option maxRecDepth 100000 in
theorem scutScheme_any (s : ByteArray) (w : World) (hg : Gd w) (hs : s.size ≤ 4000000000) :
    Calls Tryz.prog 129 #[.string s] w fun e w' => e = .returned (.tuple #[.string ⟨((schemeV s.data.toList).getD ([], [])).1.toArray⟩, .string ⟨((schemeV s.data.toList).getD ([], [])).2.toArray⟩, .bool (schemeV s.data.toList).isSome]) ∧ Below w.heap.size w w' := by
  have HG := hid hg
  clear hg
  have hl := part_le 58 s.data.toList
  obtain ⟨A, hA⟩ : ∃ A : ByteArray, A = ⟨(part 58 s.data.toList).1.toArray⟩ := ⟨_, rfl⟩
  obtain ⟨R, hR⟩ : ∃ R : ByteArray, R = ⟨(part 58 s.data.toList).2.1.toArray⟩ := ⟨_, rfl⟩
  obtain ⟨ok, hok⟩ : ∃ ok, ok = (part 58 s.data.toList).2.2 := ⟨_, rfl⟩
  have hAl : A.data.toList = (part 58 s.data.toList).1 := by rw [hA]
  have hRl : R.data.toList = (part 58 s.data.toList).2.1 := by rw [hR]
  have hAs : A.size ≤ 4000000000 := by rw [hA]; exact size_le hl.1 hs
  have HCut : Hid (∀ w : World, Gd w → Calls Tryz.prog 47 #[.string s, .string ⟨#[58]⟩] w fun e w' => e = .returned (.tuple #[.string A, .string R, .bool ok]) ∧ Below w.heap.size w w') := fun w hg => by
    have := cut_any s ⟨#[58]⟩ w hg hs
    rw [show (⟨#[58]⟩ : ByteArray).data.toList = [58] from rfl, cut_part, ← hA, ← hR, ← hok] at this
    exact this
  have HNo : Hid ((ok && schOk A.data.toList) = false → schemeV s.data.toList = none) := fun h => by unfold schemeV; rw [← hAl, ← hok, h]; rfl
  have HYes : Hid ((ok && schOk A.data.toList) = true → schemeV s.data.toList = some (low A.data.toList, R.data.toList)) := fun h => by
    unfold schemeV; rw [← hAl, ← hok, h, ← hRl]; rfl
  clear hA hR hok hl hAl hRl
  have HLo := hid (fun w => lower_any A w (by omega))
  cases hok2 : ok with
  | false =>
    subst hok2
    have HN := hid (HNo.out rfl)
    go_enter Tryz.func129, Tryz.ntmps129
    go_wp2_with (go_at_call 47; refine (HCut.out _ HG.out).mono ?_; rintro e w1 ⟨rfl, hb1⟩)
    go_ret3
    rw [HN.out]; exact ⟨rfl, hb1⟩
  | true =>
    subst hok2
    by_cases h0 : A.data.toList = []
    · have HN := hid (HNo.out (by rw [h0]; rfl))
      have he := empty_yes A h0
      clear h0
      go_enter Tryz.func129, Tryz.ntmps129
      go_wp2_with (go_at_call 47; refine (HCut.out _ HG.out).mono ?_; rintro e w1 ⟨rfl, hb1⟩)
      go_ret3
      rw [HN.out]; exact ⟨rfl, hb1⟩
    · have he := empty_no A h0
      have hA0 : 0 < A.size := by
        rw [Lib.size_eq]; exact List.length_pos_iff.2 h0
      have hA0' : (0 : Int) < (A.size : Int) := by omega
      clear h0
      by_cases h1 : letterI A[0].toNat = true
      · have H1 := hid h1
        go_enter Tryz.func129, Tryz.ntmps129
        go_wp2_with (first | (go_at_call 47; refine (HCut.out _ HG.out).mono ?_; rintro e w1 ⟨rfl, hb1⟩) | (go_at_call 177; refine (sletter_any _ _).mono ?_; rintro e w' ⟨rfl, rfl⟩; rw [H1.out]))
        have HB1 := hid hb1
        clear h1 hb1
        go_loop [29] (fun i => ∃ k : Nat, k ≤ A.size ∧ i = .int .i64 k ∧ (A.data.toList.take k).all schC = true) (fun i => A.size - (intOf i).toNat)
        case atStart => exact ⟨0, Nat.zero_le _, rfl, rfl⟩
        case round =>
          obtain ⟨k, hk, rfl, hall⟩ := hrel
          have HA := hid hall
          clear hall
          by_cases hlt : k < A.size
          · have HT := hid (take_snoc A k hlt)
            cases hb : schC A[k] with
            | true =>
              have HB := hid hb
              have HSB := hid (show schI (A[k].toNat : Int) = true by rw [schI_C]; exact hb)
              clear hb
              go_wp2_with (go_at_call 178; refine (schemeByte_any _ _).mono ?_; rintro e w' ⟨rfl, rfl⟩; rw [HSB.out])
              go_round
              case rel => exact ⟨k + 1, by omega, by go_num, by rw [HT.out, List.all_append, HA.out]; simp [HB.out]⟩
              case measure => simp [intOf]; omega
            | false =>
              have HN := hid (HNo.out (by rw [schOk_bad A k hlt hb, Bool.and_false]))
              have HSB := hid (show schI (A[k].toNat : Int) = false by rw [schI_C]; exact hb)
              clear hb
              go_wp2_with (go_at_call 178; refine (schemeByte_any _ _).mono ?_; rintro e w' ⟨rfl, rfl⟩; rw [HSB.out])
              go_ret3
              rw [HN.out]; exact ⟨rfl, HB1.out⟩
          · have HY := hid (HYes.out (by
              have := HA.out
              rw [take_all A k hlt] at this
              rw [schOk_all A hA0 H1.out this]; rfl))
            go_wp2_with (go_at_call 126; refine (HLo.out _).mono ?_; rintro e w' ⟨rfl, hb2⟩)
            go_ret3
            rw [HY.out]
            exact ⟨rfl, by first | exact below2 HB1.out hb2 | (subst hb2; exact HB1.out) | exact HB1.out⟩
      · have h1' : letterI A[0].toNat = false := by simpa using h1
        have HN := hid (HNo.out (by rw [schOk_head A hA0 h1', Bool.and_false]))
        have H1 := hid h1'
        clear h1 h1'
        go_enter Tryz.func129, Tryz.ntmps129
        go_wp2_with (first | (go_at_call 47; refine (HCut.out _ HG.out).mono ?_; rintro e w1 ⟨rfl, hb1⟩) | (go_at_call 177; refine (sletter_any _ _).mono ?_; rintro e w' ⟨rfl, rfl⟩; rw [H1.out]))
        go_ret3
        rw [HN.out]; exact ⟨rfl, hb1⟩

end Go.Proofs.YtkhpemjjholneaaGreatDoor

namespace Go.Proofs.YtkhpemjjholneaaGreatDoor
open Go.RowKit

theorem portM_empty {t : List UInt8} {u : Adr} (h : t = []) : portM t u = (u.port == -1) := by unfold portM; rw [if_pos h]

theorem portM_star {t : List UInt8} {u : Adr} (h : t = [58, 42]) : portM t u = true := by unfold portM; rw [if_neg (by rw [h]; simp), if_pos h]

theorem portM_num {t : List UInt8} {u : Adr} {P n : Int} {ok c4 sH sW e1 e2 : Bool} (h0 : t ≠ []) (h1 : t ≠ [58, 42]) (hP : hasP u = P) (hok : intOk (t.drop 1) = ok) (hn : intV (t.drop 1) = n) (h4 : (P == 443) = c4) (hH : (u.scheme == sHttps) = sH) (hW : (u.scheme == sWss) = sW) (he1 : (n == P) = e1) (he2 : (n == 80) = e2) :
    portM t u = (ok && (e1 || (e2 && (c4 && (sH || sW))))) := by
  unfold portM saferM
  rw [if_neg h0, if_neg h1, hP, hok, hn, h4, hH, hW, he1, he2]

set_option maxHeartbeats 4000000 in
set_option maxRecDepth 100000 in
theorem portMeans_any (t : ByteArray) (u : Adr) (pv : Value) (w : World) (ht : t.size ≤ 4000000000) (hsl : IsSl pv) :
    Calls Tryz.prog 135 #[.string t, adrVal u pv] w fun e w' => e = .returned (.bool (portM t.data.toList u)) ∧ Below w.heap.size w w' := by
  have HBx := hid (show Below w.heap.size w (w.alloc (.cells (adrCells u pv).toArray 45)) from (Below.refl _ w).alloc (Nat.le_refl _) _)
  obtain ⟨a0, n0, c0, rfl⟩ := hsl
  obtain ⟨PO, hPO⟩ : ∃ p, u.port = p := ⟨_, rfl⟩
  obtain ⟨SC, hSC⟩ : ∃ X : ByteArray, X = ⟨u.scheme.toArray⟩ := ⟨_, rfl⟩
  have hSl : SC.data.toList = u.scheme := by rw [hSC]
  obtain ⟨s1, s2, s3, b4, b6, s8, s9, b10, b11, hx⟩ : ∃ s1 s2 s3 b4 b6 s8 s9 b10 b11, adrCells u (.slice a0 n0 c0) = [.string SC, .string s1, .string s2, .string s3, .bool b4, .int .i64 PO, .bool b6, .slice a0 n0 c0, .string s8, .string s9, .bool b10, .bool b11] := ⟨_, _, _, _, _, _, _, _, _, by rw [hSC, ← hPO]; rfl⟩
  unfold adrVal
  rw [hx] at HBx ⊢
  clear hx hSC
  by_cases h0 : t.data.toList = []
  · have HN := hid (portM_empty (u := u) h0)
    have he := empty_yes t h0
    rw [hPO] at HN
    clear h0 hPO hSl
    go_enter Tryz.func135, Tryz.ntmps135
    go_wp2
    go_ret
    rw [HN.out]; exact ⟨rfl, HBx.out⟩
  · have he := empty_no t h0
    by_cases h1 : t.data.toList = [58, 42]
    · have HN := hid (portM_star (u := u) h1)
      have e1 := beq_yes t [58, 42] h1
      clear h0 h1 hPO hSl
      go_enter Tryz.func135, Tryz.ntmps135
      go_wp2
      go_ret
      rw [HN.out]; exact ⟨rfl, HBx.out⟩
    · have e1 := beq_no t [58, 42] h1
      have hn1 : 1 ≤ t.size := by
        rw [Lib.size_eq]
        exact List.length_pos_iff.2 h0
      have hn1' : (1 : Int) ≤ (t.size : Int) := by omega
      obtain ⟨E, hE⟩ : ∃ E : ByteArray, t.extract 1 t.size = E := ⟨_, rfl⟩
      have hEl : E.data.toList = t.data.toList.drop 1 := by rw [← hE, extract_drop]
      have hEs : E.size ≤ 4000000000 := by rw [Lib.size_eq, hEl, List.length_drop, ← Lib.size_eq]; omega
      have HI := hid (fun w => int_any E w (by omega))
      obtain ⟨ok, hok⟩ : ∃ b, intOk E.data.toList = b := ⟨_, rfl⟩
      obtain ⟨n, hn⟩ : ∃ b, intV E.data.toList = b := ⟨_, rfl⟩
      rw [hok, hn] at HI
      rw [hEl] at hok hn
      obtain ⟨P, hP⟩ : ∃ p, hasP u = p := ⟨_, rfl⟩
      obtain ⟨c4, h4⟩ : ∃ b, (P == 443) = b := ⟨_, rfl⟩
      obtain ⟨sH, hH⟩ : ∃ b, (SC.toList == [104, 116, 116, 112, 115]) = b := ⟨_, rfl⟩
      obtain ⟨sW, hW⟩ : ∃ b, (SC.toList == [119, 115, 115]) = b := ⟨_, rfl⟩
      obtain ⟨q1, hq1⟩ : ∃ b, (n == P) = b := ⟨_, rfl⟩
      obtain ⟨q2, hq2⟩ : ∃ b, (n == 80) = b := ⟨_, rfl⟩
      have HN := hid (portM_num h0 h1 hP hok hn h4 (sH := sH) (sW := sW) (by rw [← hH, ← hSl, Lib.toList_data]; rfl) (by rw [← hW, ← hSl, Lib.toList_data]; rfl) hq1 hq2)
      have HO := hid (fun w => own_any SC w)
      have hPc : (PO = -1 ∧ ownV SC.data.toList = P) ∨ (PO ≠ -1 ∧ PO = P) := by
        unfold hasP at hP
        rw [hPO] at hP
        by_cases h : PO = -1
        · rw [if_pos h] at hP; exact .inl ⟨h, by rw [hSl]; exact hP⟩
        · rw [if_neg h] at hP; exact .inr ⟨h, hP⟩
      clear h0 h1 hPO hSl hP hEl hok hn
      rcases hPc with ⟨rfl, how⟩ | ⟨hne, rfl⟩
      · rw [how] at HO
        clear how
        cases ok <;> cases q1 <;> cases q2 <;> cases c4 <;> cases sH <;>
        · go_enter Tryz.func135, Tryz.ntmps135
          go_wp2_with (first | (go_at_call 181; refine (HI.out _).mono ?_; rintro e w1 ⟨rfl, hw⟩; rw [← hw]; clear hw) | (go_at_call 37; refine (HO.out _).mono ?_; rintro e w1 ⟨rfl, hw⟩; rw [← hw]; clear hw))
          go_ret
          rw [HN.out]; exact ⟨ret_bool (by simp), HBx.out⟩
      · have hnb : (PO == -1) = false := beq_eq_false_iff_ne.2 hne
        clear hne
        cases ok <;> cases q1 <;> cases q2 <;> cases c4 <;> cases sH <;>
        · go_enter Tryz.func135, Tryz.ntmps135
          go_wp2_with (first | (go_at_call 181; refine (HI.out _).mono ?_; rintro e w1 ⟨rfl, hw⟩; rw [← hw]; clear hw) | (go_at_call 37; refine (HO.out _).mono ?_; rintro e w1 ⟨rfl, hw⟩; rw [← hw]; clear hw))
          go_ret
          rw [HN.out]; exact ⟨ret_bool (by simp), HBx.out⟩

end Go.Proofs.YtkhpemjjholneaaGreatDoor

namespace Go.Proofs.YtkhpemjjholneaaGreatDoor
open Go.RowKit

theorem AdrIn.set {w : World} {b : Nat} {u v : Adr} {pv qv : Value} (h : AdrIn w b u pv) (j : Nat) (x : Value) (hx : (adrCells u pv).set j x = adrCells v qv) : AdrIn (w.setCell ⟨b, j, none⟩ x) b v qv := by
  unfold AdrIn
  rw [Lib.heap_setCell_same h, ← hx]
  simp

/-- The refusal's number of an authority; 0: none. -/
def authE : Except Int (List UInt8 × List UInt8 × List UInt8 × Int) → Int
  | .ok _ => 0
  | .error e => e

/-- What an authority leaves in the address. -/
def authU (u : Adr) : Except Int (List UInt8 × List UInt8 × List UInt8 × Int) → Adr
  | .ok (a, b, h, p) => { u with user := a, pass := b, host := h, hasHost := true, port := p }
  | .error _ => u

def AuthPost (b : Nat) (u : Adr) (pv : Value) (r : Except Int (List UInt8 × List UInt8 × List UInt8 × Int)) (w : World) (e : Ending) (w' : World) : Prop :=
  e = .returned (.int .i64 (authE r)) ∧ Below b w w' ∧ (authE r = 0 → AdrIn w' b (authU u r) pv)

theorem auth_port {sc s : List UInt8} (h : portV (ownV sc) (((atV s).2.drop (colV (atV s).2)).drop 1) = none) : authV sc s = .error 11 := by rw [authV, h]

theorem auth_host {sc s : List UInt8} {p : Int} (h : portV (ownV sc) (((atV s).2.drop (colV (atV s).2)).drop 1) = some p) (h2 : parseV ((atV s).2.take (colV (atV s).2)) (specV sc) = none) : authV sc s = .error 10 := by rw [authV, h]; simp only; rw [h2]

theorem auth_empty {sc s h : List UInt8} {p : Int} (h1 : portV (ownV sc) (((atV s).2.drop (colV (atV s).2)).drop 1) = some p) (h2 : parseV ((atV s).2.take (colV (atV s).2)) (specV sc) = some h) (h3 : h = [] ∧ (pct 6 (part 58 (atV s).1).1 ≠ [] ∨ pct 6 (part 58 (atV s).1).2.1 ≠ [] ∨ ((atV s).2.drop (colV (atV s).2)).drop 1 ≠ [])) : authV sc s = .error 10 := by rw [authV, h1]; simp only; rw [h2]; simp only; rw [if_pos h3]

theorem auth_ok {sc s h : List UInt8} {p : Int} (h1 : portV (ownV sc) (((atV s).2.drop (colV (atV s).2)).drop 1) = some p) (h2 : parseV ((atV s).2.take (colV (atV s).2)) (specV sc) = some h) (h3 : ¬ (h = [] ∧ (pct 6 (part 58 (atV s).1).1 ≠ [] ∨ pct 6 (part 58 (atV s).1).2.1 ≠ [] ∨ ((atV s).2.drop (colV (atV s).2)).drop 1 ≠ []))) : authV sc s = .ok (pct 6 (part 58 (atV s).1).1, pct 6 (part 58 (atV s).1).2.1, h, p) := by rw [authV, h1]; simp only; rw [h2]; simp only; rw [if_neg h3]

theorem colN_le (L : Nat) : ∀ (l : List UInt8) (b : Bool) (i k : Nat), k ≤ L → i + l.length ≤ L → colN b i k l ≤ L
  | [], b, i, k, hk, _ => by cases b <;> exact hk
  | c :: l, false, i, k, hk, hl => by
    rw [colN]
    simp at hl
    split
    · exact colN_le L l false (i + 1) i (by omega) (by omega)
    · split
      · exact colN_le L l true (i + 1) k hk (by omega)
      · exact colN_le L l false (i + 1) k hk (by omega)
  | c :: l, true, i, k, hk, hl => by
    rw [colN]
    simp at hl
    split
    · exact colN_le L l false (i + 1) k hk (by omega)
    · exact colN_le L l true (i + 1) k hk (by omega)

theorem colV_le (l : List UInt8) : colV l ≤ l.length := colN_le l.length l false 0 l.length (Nat.le_refl _) (by omega)

/-- At the place that is told stands a ':', or the end. -/
theorem colN_at (s : List UInt8) : ∀ (l : List UInt8) (b : Bool) (i k : Nat), s.drop i = l → (k = s.length ∨ s[k]? = some 58) → (colN b i k l = s.length ∨ s[colN b i k l]? = some 58)
  | [], b, i, k, _, hk => by cases b <;> exact hk
  | c :: l, b, i, k, e, hk => by
    have hi : i < s.length := by
      rcases Nat.lt_or_ge i s.length with h | h
      · exact h
      · rw [List.drop_of_length_le h] at e; cases e
    have e2 : s[i] = c ∧ s.drop (i + 1) = l := by
      rw [List.drop_eq_getElem_cons hi] at e
      injection e with h1 h2
      exact ⟨h1, h2⟩
    cases b with
    | false =>
      rw [colN]
      split
      · rename_i h
        exact colN_at s l false (i + 1) i e2.2 (.inr (by rw [List.getElem?_eq_getElem hi, e2.1, h]))
      · split
        · exact colN_at s l true (i + 1) k e2.2 hk
        · exact colN_at s l false (i + 1) k e2.2 hk
    | true =>
      rw [colN]
      split
      · exact colN_at s l false (i + 1) k e2.2 hk
      · exact colN_at s l true (i + 1) k e2.2 hk

theorem colV_at (s : List UInt8) : colV s = s.length ∨ s[colV s]? = some 58 := colN_at s s false 0 s.length rfl (.inl rfl)

theorem trim_colon (s : List UInt8) : Lib.trimPrefix (s.drop (colV s)) [58] = (s.drop (colV s)).drop 1 := by
  rcases colV_at s with h | h
  · rw [h, List.drop_of_length_le (Nat.le_refl _)]; rfl
  · obtain ⟨hlt, hc⟩ := List.getElem?_eq_some_iff.1 h
    rw [List.drop_eq_getElem_cons hlt, hc]
    simp [Lib.trimPrefix, Lib.hasPrefix]

theorem at_le (l : List UInt8) : (atV l).1.length ≤ l.length ∧ (atV l).2.length ≤ l.length := by
  unfold atV
  split
  · simp only [List.length_reverse]
    constructor
    · refine Nat.le_trans (List.drop_suffix 1 _).length_le ?_
      refine Nat.le_trans (List.dropWhile_suffix _).length_le ?_
      simp
    · refine Nat.le_trans (List.takeWhile_prefix _).length_le ?_
      simp
  · simp

end Go.Proofs.YtkhpemjjholneaaGreatDoor
