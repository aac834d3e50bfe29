/-
  The walk of the law HostBad.
-/
import Derived.Test.YtdpihilikhbamaaDoorHc
import Derived.Test.YtdpihilikhbamaaDoorVo
import Derived.Test.YtdpihilikhbamaaDoorVq
import Derived.Deep.QuietTactic
import Derived.BigQuiet
import Derived.OpenShut
set_option linter.unusedSimpArgs false
set_option linter.unusedVariables false
namespace Go.Proofs.YtdpihilikhbamaaDoor
open Go.RowKit

def badB : ByteArray := ⟨#[0, 9, 10, 13, 32, 35, 47, 58, 60, 62, 63, 64, 91, 92, 93, 94, 124]⟩

theorem bad_at (k : Nat) (h : k < 17) : ∃ x, (badB.extract k (k + 1)).data.toList = [x] ∧ x ∈ forbL := by
  have hk : k < forbL.length := h
  refine ⟨forbL[k], ?_, List.getElem_mem hk⟩
  rw [Lib.extract_data]
  have e : badB.data.toList = forbL := rfl
  rw [e, show k + 1 - k = 1 by omega, List.drop_eq_getElem_cons hk]
  rfl

theorem list_head (X : ByteArray) (c : UInt8) (r : List UInt8) (h : X.data.toList = c :: r) (h0 : 0 < X.size) : X[0] = c := by
  have e : X[0] = X.data.toList[0]'(by rw [h]; simp) := rfl
  rw [e]; simp [h]

set_option maxHeartbeats 4000000 in
set_option maxRecDepth 100000 in
theorem hostBad_walk (s : ByteArray) (at0 which : Int) (w : World) (hs : s.size ≤ maxLen) (ha : (Lit.int .i64 at0).wf = true) (hw : (Lit.int .i64 which).wf = true) (hg : Gd w) :
    Calls Tryd.prog 8 #[.string s, .int .i64 at0, .int .i64 which] w fun e w' => e = .returned (.bool true) ∧ Below w.heap.size w w' := by
  have HG := hid hg
  clear hg
  unfold maxLen at hs
  have ha' := bounds_i64 ha
  have hw' := bounds_i64 hw
  clear ha hw
  go_enter Tryd.func8, Tryd.ntmps8
  go_wp2_with fail
  refine (within_any which 0 16 w hw'.1 hw'.2 (by omega) (by omega) (by omega)).mono ?_
  rintro e w' ⟨rfl, rfl⟩
  obtain ⟨hk0, hk1⟩ := withinI_bounds which 0 16 (by omega)
  obtain ⟨k, hk⟩ := Int.eq_ofNat_of_zero_le hk0
  rw [hk] at hk1 ⊢
  clear hk hk0
  have hk16 : k < 17 := by omega
  go_wp2_with fail
  refine (few_any s 50 w (by omega) hs).mono ?_
  rintro e w' ⟨rfl, rfl⟩
  obtain ⟨f, hf⟩ : ∃ f : List UInt8, f = s.data.toList.take 50 := ⟨_, rfl⟩
  have hfl : f.length ≤ 50 := by rw [hf]; exact List.length_take_le _ _
  rw [← hf]
  have HF := hid hf
  clear hf
  obtain ⟨L, hL⟩ : ∃ L : ByteArray, L = ⟨#[113]⟩ ++ ⟨f.toArray⟩ := ⟨_, rfl⟩
  have hLd : L.data.toList = 113 :: f := by rw [hL, show (⟨#[113]⟩ : ByteArray) = ⟨[113].toArray⟩ from rfl, ba_app]; rfl
  have hLs : L.size = f.length + 1 := by rw [Lib.size_eq, hLd]; rfl
  have HL := hid hL
  have HLd := hid hLd
  clear hL hLd
  go_wp2_with fail
  rw [← HL.out]
  refine (within_any at0 0 (1 + f.length - 1) w ha'.1 ha'.2 (by omega) (by omega) (by omega)).mono ?_
  rintro e w' ⟨rfl, rfl⟩
  obtain ⟨hi0, hi1⟩ := withinI_bounds at0 0 (1 + f.length - 1) (by omega)
  obtain ⟨i, hi⟩ := Int.eq_ofNat_of_zero_le hi0
  rw [hi] at hi1 ⊢
  clear hi hi0
  have hil : i ≤ f.length := by omega
  obtain ⟨x, hx, hxf⟩ := bad_at k hk16
  have hI0 : (0 : Int) ≤ 1 + (i : Int) := by omega
  have hI1 : 1 + (i : Int) ≤ (L.size : Int) := by omega
  have hK0 : (0 : Int) ≤ (k : Int) := by omega
  have hK1 : (k : Int) ≤ (k : Int) + 1 := by omega
  have hK2 : (k : Int) + 1 ≤ 17 := by omega
  have hbs : (badB.extract k (k + 1)).size = 1 := by rw [Lib.size_eq, hx]; rfl
  have HX := hid hx
  clear hx
  go_wp2_with fail
  go_quiet (fail)
  go_wp2_with fail
  obtain ⟨t, ht⟩ : ∃ t : ByteArray, t = L.extract 0 (1 + i) ++ (⟨#[0, 9, 10, 13, 32, 35, 47, 58, 60, 62, 63, 64, 91, 92, 93, 94, 124]⟩ : ByteArray).extract k (k + 1) ++ L.extract (1 + i) (f.length + 1) := ⟨_, rfl⟩
  have htd : t.data.toList = 113 :: (f.take i ++ ([x] ++ f.drop i)) := by
    have hx2 : ((⟨#[0, 9, 10, 13, 32, 35, 47, 58, 60, 62, 63, 64, 91, 92, 93, 94, 124]⟩ : ByteArray).extract k (k + 1)).data.toList = [x] := HX.out
    rw [ht, ByteArray.data_append, ByteArray.data_append, Array.toList_append, Array.toList_append, hx2, Lib.extract_data, Lib.extract_data, HLd.out, List.drop_zero, show 1 + i - 0 = i + 1 by omega, List.take_succ_cons, show 1 + i = i + 1 by omega, List.drop_succ_cons]
    simp
    exact List.take_of_length_le (by simp)
  rw [← ht]
  have HT := hid ht
  have hts : t.size ≤ 4000000000 := by rw [Lib.size_eq, htd]; simp; omega
  have hxt : x ∈ (113 :: (f.take i ++ ([x] ++ f.drop i)) : List UInt8) := by simp
  have HN1 := hid (show parseV t.data.toList true = none by rw [htd]; exact parse_refused _ 113 x true (by decide) hxf hxt)
  have HN2 := hid (show parseV t.data.toList false = none by rw [htd]; exact parse_refused _ 113 x false (by decide) hxf hxt)
  have hb := below_drewN (Below.refl w.heap.size w) nq
  clear ht htd hxt hxf
  refine (parse_any t true _ (HG.out.kept hb) hts).mono ?_
  rintro e w1 ⟨rfl, hb'⟩
  rw [er_none HN1.out]
  have hb := below2 hb hb'
  clear hb'
  go_wp2_with fail
  refine (parse_any t false _ (HG.out.kept hb) hts).mono ?_
  rintro e w2 ⟨rfl, hb'⟩
  rw [er_none HN2.out]
  have hb := below2 hb hb'
  clear hb'
  go_wp2_with fail
  refine (few_any L 50 w2 (by omega) (by omega)).mono ?_
  rintro e w' ⟨rfl, rfl⟩
  obtain ⟨g, hgg⟩ : ∃ g : List UInt8, g = L.data.toList.take 50 := ⟨_, rfl⟩
  have hgl : g.length ≤ 50 := by rw [hgg]; exact List.length_take_le _ _
  rw [← hgg]
  have HGg := hid hgg
  clear hgg
  go_wp2_with fail
  obtain ⟨u, hu⟩ : ∃ u : ByteArray, u = ⟨#[91]⟩ ++ ⟨g.toArray⟩ ++ ⟨#[93]⟩ := ⟨_, rfl⟩
  have hud : u.data.toList = 91 :: (g ++ [93]) := by
    rw [hu, show (⟨#[91]⟩ : ByteArray) = ⟨[91].toArray⟩ from rfl, show (⟨#[93]⟩ : ByteArray) = ⟨[93].toArray⟩ from rfl, ba_app, ba_app]; simp
  rw [← hu]
  have HU := hid hu
  have hus : u.size ≤ 4000000000 := by rw [Lib.size_eq, hud]; simp; omega
  have hform := bracket_form (g ++ [93]) false
  rw [← hud] at hform
  clear hu hud
  refine (parse_any u false _ (HG.out.kept hb) hus).mono ?_
  rintro e w3 ⟨rfl, hb'⟩
  have hb := below2 hb hb'
  clear hb'
  rcases hform with hf | ⟨r, hf, hr⟩
  · rw [er_none hf]
    clear hf
    go_wp2_with fail
    refine (known_any _ (HG.out.kept hb)).mono ?_
    rintro e w4 ⟨rfl, hb'⟩
    have hb := below2 hb hb'
    clear hb'
    go_wp2
    go_ret
    exact ⟨rfl, hb⟩
  · rw [er_some hf, hf]
    obtain ⟨X, hX⟩ : ∃ X : ByteArray, X = ⟨((some (91 :: r)).getD []).toArray⟩ := ⟨_, rfl⟩
    have hXd : X.data.toList = 91 :: r := by rw [hX]; rfl
    have hXs : X.size = r.length + 1 := by rw [Lib.size_eq, hXd]; rfl
    have hX0 : (X[0]'(by omega)).toNat = 91 := by rw [list_head X 91 r hXd (by omega)]; rfl
    have hX2 : (2 : Int) < (X.size : Int) := by omega
    have hX0' : ((X[0]'(by omega)).toNat : Int) = 91 := by omega
    rw [← hX]
    clear hX hXd hf
    go_wp2_with fail
    refine (known_any _ (HG.out.kept hb)).mono ?_
    rintro e w4 ⟨rfl, hb'⟩
    have hb := below2 hb hb'
    clear hb'
    go_wp2
    go_ret
    exact ⟨rfl, hb⟩

end Go.Proofs.YtdpihilikhbamaaDoor
