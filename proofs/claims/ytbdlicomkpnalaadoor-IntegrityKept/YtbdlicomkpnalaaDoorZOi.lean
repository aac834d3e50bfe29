/-
  The walks of integrity's Make and of the law's known.
-/
import Derived.Test.YtbdlicomkpnalaaDoorZk
import Derived.Lib.AppendIntMem
set_option linter.unusedSimpArgs false
set_option linter.unusedVariables false
namespace Go.Proofs.YtbdlicomkpnalaaDoor
open Go.RowKit

def Gp (w : World) : Prop := Lib.TabIs Tryd.prog w "internal/strconv.uint64pow10" .u64 Lib.pow10Tab
theorem gPow9 : Tryd.prog.globalNamed "internal/strconv.uint64pow10" = some 2 := by kernel_rfl
theorem Gp.kept {w w' : World} (h : Gp w) (hb : Below w.heap.size w w') : Gp w' := Joins.tab_stays gPow9 h hb (Nat.le_refl _)

theorem itoa9_any (n : Int) (w : World) (hg : Gp w) (h0 : -9223372036854775808 ≤ n) (h1 : n ≤ 9223372036854775807) :
    Calls Tryd.prog 39 #[.int .i64 n] w fun e w' => e = .returned (.string ⟨(Lib.itoa n).toArray⟩) ∧ Below w.heap.size w w' := by
  refine (Tryd.strconv_Itoa n h0 h1 w hg).mono ?_
  rintro e w' ⟨rfl, k, os, rfl⟩
  exact ⟨rfl, Lib.below_grow _ _ (Nat.le_refl _) _ _⟩

def mkV (b : Int) (r : List UInt8) : List UInt8 := [115, 104, 97] ++ Lib.itoa b ++ [45] ++ e64 r
def mkA (b : Int) (r : List UInt8) : ByteArray := ⟨#[115, 104, 97]⟩ ++ ⟨(Lib.itoa b).toArray⟩ ++ ⟨#[45]⟩ ++ ⟨(e64 r).toArray⟩
theorem mkA_list (b : Int) (r : List UInt8) : (mkA b r).data.toList = mkV b r := by
  unfold mkA mkV
  simp [ByteArray.data_append]

theorem e64_le9 (r : List UInt8) (h : r.length ≤ 64) : (e64 r).length ≤ 1000 := by
  have := e64_le r
  omega

def MkPost (b : Int) (l : List UInt8) (w : World) (e : Ending) (w' : World) : Prop :=
  e = .returned (match sumV sqr cbr b l with | some r => .tuple #[.string (mkA b r), .int .i64 0] | none => .tuple #[.string ⟨#[]⟩, .int .i64 1]) ∧ Below w.heap.size w w'

theorem itoa_small (b : Int) (h : b = 256 ∨ b = 384 ∨ b = 512) : (Lib.itoa b).length = 3 := by
  rcases h with rfl | rfl | rfl <;> decide +kernel

set_option maxHeartbeats 2000000 in
theorem make9_any (b : Int) (a0 : Option Addr) (len cap : Nat) (l : List UInt8) (w : World) (hg : Gt w) (hp : Gp w) (hv : SlB w (.slice a0 len cap) l) (hlc : len ≤ cap) (hcm : cap ≤ maxLen) (hl : l.length ≤ 100000) :
    Calls Tryd.prog 17 #[.int .i64 b, .slice a0 len cap] w (MkPost b l w) := by
  have HSM := hid (sum_any b a0 len cap l w hg hv hlc hcm hl)
  have HP := hid hp
  clear hg hv hlc hcm hl hp
  rcases hs : sumV sqr cbr b l with _ | r
  · have HS := hid hs
    clear hs
    go_enter Tryd.func17, Tryd.ntmps17
    go_wp2_with fail
    refine HSM.out.mono ?_
    rintro e w1 ⟨⟨hn, rfl⟩ | ⟨r2, G, n, hr2, hn2, rfl, hown⟩, hb1⟩
    case inr => rw [HS.out] at hr2; cases hr2
    clear hn
    go_wp2_with fail
    go_ret2
    exact ⟨by rw [HS.out]; rfl, hb1⟩
  · have HS := hid hs
    have hbc : b = 256 ∨ b = 384 ∨ b = 512 := by
      unfold sumV at hs
      split at hs
      · exact .inl (by assumption)
      · split at hs
        · exact .inr (.inl (by assumption))
        · split at hs
          · exact .inr (.inr (by assumption))
          · cases hs
    have HRL := hid (sumV_len hs)
    obtain ⟨E, hE⟩ : ∃ E : ByteArray, E = ⟨(e64 r).toArray⟩ := ⟨_, rfl⟩
    obtain ⟨T, hT⟩ : ∃ E : ByteArray, E = ⟨(Lib.itoa b).toArray⟩ := ⟨_, rfl⟩
    have hEs : E.size ≤ 1000 := by rw [Lib.size_eq, hE]; exact e64_le9 r HRL.out
    have hTs : T.size = 3 := by rw [Lib.size_eq, hT]; exact itoa_small b hbc
    have HTS := hid (show T.size ≤ 3 by omega)
    have HMK := hid (show mkA b r = ⟨#[115, 104, 97]⟩ ++ T ++ ⟨#[45]⟩ ++ E by rw [hE, hT]; rfl)
    have HIT := hid (show ∀ X, Below w.heap.size w X → Calls Tryd.prog 39 #[.int .i64 b] X fun e w' => e = .returned (.string T) ∧ Below X.heap.size X w' from fun X hX => by rw [hT]; exact itoa9_any b X (HP.out.kept hX) (by omega) (by omega))
    have HEN := hid (show ∀ X G n, SlB X (.slice (some ⟨G, 0, none⟩) n n) r → n ≤ 64 → Calls Tryd.prog 40 #[.slice (some ⟨G, 0, none⟩) n n] X fun e w' => e = .returned (.string E) ∧ Below X.heap.size X w' from fun X G n h hn => by rw [hE]; exact encode64_any _ n n r X h (Nat.le_refl _) (by unfold maxLen; omega) (by have := HRL.out; omega))
    have hTs' : T.size ≤ 3 := HTS.out
    clear hs hE hT hbc hTs
    go_enter Tryd.func17, Tryd.ntmps17
    go_wp2_with fail
    refine HSM.out.mono ?_
    rintro e w1 ⟨⟨hn, rfl⟩ | ⟨r2, G, n, hr2, hn2, rfl, hown⟩, hb1⟩
    · rw [HS.out] at hn; cases hn
    obtain rfl : r = r2 := Option.some.inj (HS.out.symm.trans hr2)
    have HSL := hid (show SlB w1 (.slice (some ⟨G, 0, none⟩) n n) r by
      subst hn2
      exact SlB.own hown)
    have HN64 := hid (show n ≤ 64 by rw [← hn2]; exact HRL.out)
    have HB1 := hid hb1
    clear hr2 hn2 hown hb1
    go_wp2_with fail
    refine (HIT.out _ HB1.out).mono ?_
    rintro e w2 ⟨rfl, hb2⟩
    have HB2 := hid (below2 HB1.out hb2)
    have HSL2 := hid (HSL.out.kept hb2)
    clear hb2
    go_wp2_with fail
    refine (HEN.out _ G n HSL2.out HN64.out).mono ?_
    rintro e w3 ⟨rfl, hb3⟩
    have HB3 := hid (below2 HB2.out hb3)
    clear hb3
    go_wp2_with fail
    go_ret2
    exact ⟨by rw [HS.out]; show _ = Ending.returned (.tuple #[.string (mkA b r), .int .i64 0]); rw [HMK.out]; rfl, HB3.out⟩

def kt1 : List UInt8 := [115, 104, 97, 50, 53, 54, 45, 97, 63, 98, 32, 83, 72, 65, 53, 49, 50, 45, 99, 32, 109, 100, 53, 45, 100]
def kit1 : It := ⟨256, [97], [98]⟩
def kit2 : It := ⟨512, [99], []⟩
theorem kt1_parse : parse9 kt1 = [kit1, kit2] := by kernel_rfl
theorem kt2_holds : holdsV sqr cbr [] [] = true := by decide +kernel
theorem kt3_holds : holdsV sqr cbr [115, 104, 97, 50, 53, 54, 45] [] = false := by decide +kernel

theorem nil_slb (w : World) : SlB w (.slice none 0 0) [] := .inl ⟨0, rfl, rfl⟩

theorem rt_two (w : World) (t : TypeId) : RtAt (w.alloc (.cells #[.int .i64 256, .string ⟨#[97]⟩, .string ⟨#[98]⟩, .int .i64 512, .string ⟨#[99]⟩, .string ⟨#[]⟩] t)) (.slice (some ⟨w.heap.size, 0, none⟩) 2 2) [kit1, kit2] := by
  refine ⟨_, 2, rfl, Nat.le_refl _, by decide, fun j hj => ⟨w.heap.size, 0, rfl, ?_⟩⟩
  have hj2 : j < 2 := hj
  rcases (show j = 0 ∨ j = 1 by omega) with rfl | rfl <;> simp [kit1, kit2]

set_option maxHeartbeats 2000000 in
theorem known9 (w : World) (hg : Gt w) (hm : Gm w) :
    Calls Tryd.prog 21 #[] w fun e w' => e = .returned (.bool true) ∧ Below w.heap.size w w' := by
  have HG := hid hg
  have HM := hid hm
  have HP := hid (parse9_any ⟨kt1.toArray⟩ w hm (by decide))
  unfold ParsePost9 at HP
  rw [show (⟨kt1.toArray⟩ : ByteArray).data.toList = kt1 from rfl, kt1_parse] at HP
  clear hg hm
  go_enter Tryd.func21, Tryd.ntmps21
  go_wp2_with fail
  refine HP.out.mono ?_
  rintro e w1 ⟨v1, rfl, hown1, hb1⟩
  have HB1 := hid hb1
  obtain ⟨W2, hW2⟩ : ∃ W2, W2 = w1.alloc (.cells #[.int .i64 256, .string ⟨#[97]⟩, .string ⟨#[98]⟩, .int .i64 512, .string ⟨#[99]⟩, .string ⟨#[]⟩] 91) := ⟨_, rfl⟩
  have HB2 := hid (show Below w1.heap.size w1 W2 by rw [hW2]; exact (Below.refl _ _).alloc (Nat.le_refl _) _)
  have HSM := hid (lsame9_any v1 (.slice (some ⟨w1.heap.size, 0, none⟩) 2 2) [kit1, kit2] W2 ((own_it hown1).kept HB2.out) (by rw [hW2]; exact rt_two w1 _) (by decide))
  rw [hW2] at HSM HB2
  have HB3 := hid (below2 HB1.out HB2.out)
  clear hW2 hown1 hb1
  go_wp2_with fail
  refine HSM.out.mono ?_
  rintro e w2 ⟨rfl, hb2⟩
  have HB4 := hid (below2 HB3.out hb2)
  clear hb2
  have HH1 := hid (show Calls Tryd.prog 18 #[.string ⟨#[]⟩, .slice none 0 0] w2 fun e w' => e = .returned (.bool true) ∧ Below w2.heap.size w2 w' by
    have := holds_any ⟨#[]⟩ none 0 0 [] w2 (HG.out.kept HB4.out) (HM.out.kept HB4.out) (by decide) (nil_slb w2) (Nat.le_refl _) (by decide) (by decide)
    rw [show (⟨#[]⟩ : ByteArray).data.toList = [] from rfl, kt2_holds] at this
    exact this)
  go_wp2_with fail
  refine HH1.out.mono ?_
  rintro e w3 ⟨rfl, hb3⟩
  have HB5 := hid (below2 HB4.out hb3)
  clear hb3
  have HH2 := hid (show Calls Tryd.prog 18 #[.string ⟨#[115, 104, 97, 50, 53, 54, 45]⟩, .slice none 0 0] w3 fun e w' => e = .returned (.bool false) ∧ Below w3.heap.size w3 w' by
    have := holds_any ⟨#[115, 104, 97, 50, 53, 54, 45]⟩ none 0 0 [] w3 (HG.out.kept HB5.out) (HM.out.kept HB5.out) (by decide) (nil_slb w3) (Nat.le_refl _) (by decide) (by decide)
    rw [show (⟨#[115, 104, 97, 50, 53, 54, 45]⟩ : ByteArray).data.toList = [115, 104, 97, 50, 53, 54, 45] from rfl, kt3_holds] at this
    exact this)
  go_wp2_with fail
  refine HH2.out.mono ?_
  rintro e w4 ⟨rfl, hb4⟩
  have HB6 := hid (below2 HB5.out hb4)
  clear hb4
  go_wp2_with fail
  go_ret
  exact ⟨rfl, HB6.out⟩

end Go.Proofs.YtbdlicomkpnalaaDoor
