/-
  The walks of host.parseSix and host.Parse.
-/
import Derived.Test.YtdpihilikhbamaaGreatDoorVm
import Derived.Test.YtdpihilikhbamaaGreatDoorWg
import Derived.Test.YtdpihilikhbamaaGreatDoorWi
set_option linter.unusedSimpArgs false
set_option linter.unusedVariables false
namespace Go.Proofs.YtdpihilikhbamaaGreatDoor
open Go.RowKit

theorem dotN_lt : ∀ (r h : Nat) (l : List UInt8) (n : Nat), r ≤ 4 → h < 2 ^ (8 * (4 - r)) → dotN r h l = some n → n < 4294967296
  | 0, h, _, n, _, hh, e => by
    rw [dotN] at e
    cases e
    exact hh
  | r + 1, h, l, n, hr, hh, e => by
    rw [dotN] at e
    split at e
    · cases e
    · rename_i b hb
      split at e
      · refine dotN_lt r _ _ n (by omega) ?_ e
        have e2 : 8 * (4 - r) = 8 * (4 - (r + 1)) + 8 := by omega
        have := plainB_le hb
        rw [e2, Nat.pow_add]
        omega
      · cases e

theorem scanP_lt (whole : Option Nat) (last : Bool) (hw : ∀ m, whole = some m → m < 4294967296) : ∀ (l : List UInt8) (i n : Nat) (ns : List Nat), i ≤ 4 → n < 16 ^ i → scanP whole last i n l = some ns → ns.length ≤ 2 ∧ ∀ m ∈ ns, m < 65536
  | [], i, n, ns, hi, hn, e => by
    rw [scanP] at e
    split at e
    · cases e
    · cases e
      have h4 : 16 ^ i ≤ 16 ^ 4 := Nat.pow_le_pow_right (by omega) hi
      rw [show 16 ^ 4 = 65536 from rfl] at h4
      refine ⟨by simp, fun m hm => ?_⟩
      rw [List.mem_singleton] at hm
      omega
  | c :: l, i, n, ns, hi, hn, e => by
    rw [scanP] at e
    split at e
    · cases hwh : whole with
      | none => rw [hwh] at e; cases e
      | some m =>
        rw [hwh] at e
        cases e
        have := hw m hwh
        refine ⟨by simp, fun k hk => ?_⟩
        simp at hk
        omega
    · split at e
      · rename_i h
        refine scanP_lt whole last hw l (i + 1) _ ns (by omega) ?_ e
        rw [Nat.pow_succ]
        omega
      · cases e

theorem piecesN_lt (atEnd : Bool) : ∀ (f : Nat) (out : List Nat) (l : List UInt8) (m : Bool) (r : List Nat), (∀ n ∈ out, n < 65536) → piecesN atEnd f out l m = some r → ∀ n ∈ r, n < 65536
  | f, out, l, false, r, ho, e => by
    rw [piecesN_done] at e
    cases e; exact ho
  | 0, out, l, true, r, ho, e => by cases e
  | f + 1, out, l, true, r, ho, e => by
    rw [piecesN] at e
    split at e
    · cases e
    · rename_i ns hns
      refine piecesN_lt atEnd f _ _ _ r ?_ e
      intro n hn
      rcases List.mem_append.1 hn with h | h
      · exact ho n h
      · exact (scanP_lt _ _ (fun m hm => dotN_lt 4 0 _ m (by omega) (by decide) hm) _ 0 0 ns (by omega) (by decide) hns).2 n h

theorem sixV_ok {l : List UInt8} {x : List Nat} (h : sixV l = some x) : x.length = 8 ∧ ∀ n ∈ x, n < 65536 := by
  unfold sixV at h
  split at h
  · rename_i a b ha hb
    split at h
    · rename_i hc
      cases h
      refine ⟨by simp; omega, fun n hn => ?_⟩
      rcases List.mem_append.1 hn with hn | hn
      · rcases List.mem_append.1 hn with hn | hn
        · exact piecesN_lt _ _ _ _ _ a (by simp) ha n hn
        · have := List.eq_of_mem_replicate hn; omega
      · exact piecesN_lt _ _ _ _ _ b (by simp) hb n hn
    · cases h
  · cases h

theorem bracketV_open {l : List UInt8} (h : Lib.hasSuffix l [93] = false) : bracketV l = none := by rw [bracketV, h]; rfl
theorem bracketV_none {l : List UInt8} (h : Lib.hasSuffix l [93] = true) (h2 : sixV (Lib.trimSuffix l [93]) = none) : bracketV l = none := by rw [bracketV, if_pos h, h2]; rfl
theorem bracketV_some {l : List UInt8} {x : List Nat} (h : Lib.hasSuffix l [93] = true) (h2 : sixV (Lib.trimSuffix l [93]) = some x) : bracketV l = some (91 :: (text6 x ++ [93])) := by rw [bracketV, if_pos h, h2]; rfl

theorem text6_le (x : List Nat) (h8 : x.length = 8) : (text6 x).length ≤ 100 := by
  unfold text6
  have h1 := joined_le x
  have h2 := joined_le (x.take (lrun x).1)
  have h3 := joined_le (x.drop (lrun x).2)
  have e1 : (x.take (lrun x).1).length ≤ 8 := by simp; omega
  have e2 : (x.drop (lrun x).2).length ≤ 8 := by simp; omega
  split
  · omega
  · simp; omega

set_option maxHeartbeats 2000000 in
set_option maxRecDepth 100000 in
theorem parseSix_any (s : ByteArray) (w : World) (hg : Gd w) (hs : s.size ≤ 4000000000) :
    Calls Tryz.prog 16 #[.string s] w fun e w' => e = .returned (.tuple #[.string ⟨((bracketV s.data.toList).getD []).toArray⟩, .int .i64 (er (bracketV s.data.toList))]) ∧ Below w.heap.size w w' := by
  have HG := hid hg
  clear hg
  by_cases hc : Lib.hasSuffix s.data.toList [93] = true
  · obtain ⟨t, ht⟩ : ∃ t : ByteArray, t = ⟨(Lib.trimSuffix s.data.toList [93]).toArray⟩ := ⟨_, rfl⟩
    have htl : t.data.toList = Lib.trimSuffix s.data.toList [93] := by rw [ht]
    have hts : t.size ≤ 4000000000 := by rw [ht]; exact size_le (Lib.trimSuffix_le _ _) hs
    have HTe := hid ht
    clear ht
    obtain ⟨Y, hY⟩ : ∃ Y, Y = (sixV t.data.toList).getD zero8 := ⟨_, rfl⟩
    have hY8 : (cells16 Y).length = 8 := by
      rw [cells16_len, hY]
      cases h : sixV t.data.toList with
      | none => rfl
      | some x => exact (sixV_ok h).1
    have hi8 : (Tryz.prog.info? 34).map (·.size) = some (cells16 Y).length := by rw [hY8]; exact size8
    have hi8' : (Tryz.prog.info? 34).map (·.size) = some (cells16 Y).toArray.size := by rw [List.size_toArray, hY8]; exact size8
    have HY := hid hY
    clear hY
    have h6 := six_any t w HG.out hts
    rw [← HY.out] at h6
    have H6 := hid h6
    clear h6
    cases hsx : sixV t.data.toList with
    | none =>
      have HN := hid (bracketV_none (l := s.data.toList) hc (by rw [← htl]; exact hsx))
      have e6 := er_none hsx
      clear hsx htl
      go_enter Tryz.func16, Tryz.ntmps16
      go_wp2_with (first | (go_at_call 44; refine (Tryz.strings_CutSuffix _ _ _ (by omega)).mono ?_; rintro e w' ⟨rfl, rfl⟩; rw [show (⟨#[93]⟩ : ByteArray).data.toList = [93] from rfl, hc, ← HTe.out]) | (go_at_call 9; refine H6.out.mono ?_; rintro e w1 ⟨rfl, hb1⟩; rw [e6, agg8]) | refine wpList_store_mid rfl 34 (.tmp 6) (.tmp 18) rfl w1.heap.size 0 (cells16 Y).toArray rfl rfl (there_row (heap_alloc_new w1 _) (by rw [List.size_toArray, hY8]; decide)) hi8' (all_oneCell_toArray (cells16_one _)) ?_)
      go_ret2
      exact ⟨ret_se (txt_none HN.out) (er_none HN.out).symm, below2 hb1 (below_setCells (Nat.le_refl _) _ _ _ ((Below.refl _ w1).alloc (Nat.le_refl _) _))⟩
    | some x =>
      have HN := hid (bracketV_some (l := s.data.toList) hc (by rw [← htl]; exact hsx))
      have e6 := er_some hsx
      have hYx : Y = x := by rw [HY.out, hsx]; rfl
      have hok := sixV_ok hsx
      subst hYx
      obtain ⟨hok1, hok2⟩ := hok
      have HOk := hid hok2
      have htl2 := text6_le Y hok1
      clear hsx htl hok2
      go_enter Tryz.func16, Tryz.ntmps16
      go_wp2_with (first | (go_at_call 44; refine (Tryz.strings_CutSuffix _ _ _ (by omega)).mono ?_; rintro e w' ⟨rfl, rfl⟩; rw [show (⟨#[93]⟩ : ByteArray).data.toList = [93] from rfl, hc, ← HTe.out]) | (go_at_call 9; refine H6.out.mono ?_; rintro e w1 ⟨rfl, hb1⟩; rw [e6, agg8]) | refine wpList_store_mid rfl 34 (.tmp 6) (.tmp 18) rfl w1.heap.size 0 (cells16 Y).toArray rfl rfl (there_row (heap_alloc_new w1 _) (by rw [List.size_toArray, hY8]; decide)) hi8' (all_oneCell_toArray (cells16_one _)) ?_ | refine wpList_load_mid rfl 34 (.tmp 6) rfl w1.heap.size 0 rfl (cells16 Y) _ (World.rangeAt_setCells_same _ _ _ _ (there_row (heap_alloc_new w1 _) (by rw [hY8]; decide))) Tryz.underlying34 rfl hi8 ?_)
      have hb2 := below2 hb1 (below_setCells (Nat.le_refl _) (cells16 Y) 0 _ ((Below.refl _ w1).alloc (Nat.le_refl _) (.cells (cells16 zero8).toArray 34 (0, 0))))
      refine (text6_any Y _ (HG.out.kept hb2) hok1 HOk.out).mono ?_
      rintro e w2 ⟨rfl, hb3⟩
      generalize text6 Y = T at *
      go_wp2
      go_ret2
      refine ⟨ret_se ?_ (er_some HN.out).symm, below2 hb2 hb3⟩
      rw [HN.out]
      show (⟨[91].toArray⟩ : ByteArray) ++ ⟨T.toArray⟩ ++ ⟨[93].toArray⟩ = ⟨(91 :: (T ++ [93])).toArray⟩
      rw [ba_app, ba_app]
      simp
  · have hc' : Lib.hasSuffix s.data.toList [93] = false := by simpa using hc
    clear hc
    have HN := hid (bracketV_open hc')
    go_enter Tryz.func16, Tryz.ntmps16
    go_wp2_with (first | (go_at_call 44; refine (Tryz.strings_CutSuffix _ _ _ (by omega)).mono ?_; rintro e w' ⟨rfl, rfl⟩; rw [show (⟨#[93]⟩ : ByteArray).data.toList = [93] from rfl, hc']))
    go_ret2
    exact ⟨ret_se (txt_none HN.out) (er_none HN.out).symm, Below.refl _ _⟩

theorem parseV_six {l : List UInt8} {b : Bool} (h : Lib.hasPrefix l [91] = true) : parseV l b = bracketV (l.drop 1) := by rw [parseV, if_pos h]
theorem parseV_name {l : List UInt8} (h : Lib.hasPrefix l [91] = false) : parseV l true = nameV (low (unpct l)) := by rw [parseV, h]; rfl
theorem parseV_other {l : List UInt8} (h : Lib.hasPrefix l [91] = false) : parseV l false = otherV l := by rw [parseV, h]; rfl

theorem unpct_le (l : List UInt8) : (unpct l).length ≤ l.length := by
  have key : ∀ (f : Nat) (l : List UInt8), (unpctN f l).length ≤ l.length := by
    intro f
    induction f with
    | zero => intro l; simp [unpctN]
    | succ f ih =>
      intro l
      cases l with
      | nil => simp [unpctN]
      | cons c l =>
        rw [unpctN, List.length_cons, List.length_cons]
        have := ih (if (pcd (c :: l)).2 then l.drop 2 else l)
        split at this
        · rename_i h; rw [if_pos h]; simp at this; omega
        · rename_i h; rw [if_neg h]; omega
  exact key _ _

theorem low_length (l : List UInt8) : (low l).length = l.length := by simp [low]

set_option maxHeartbeats 1000000 in
theorem parse_any (s : ByteArray) (special : Bool) (w : World) (hg : Gd w) (hs : s.size ≤ 4000000000) :
    Calls Tryz.prog 5 #[.string s, .bool special] w fun e w' => e = .returned (.tuple #[.string ⟨((parseV s.data.toList special).getD []).toArray⟩, .int .i64 (er (parseV s.data.toList special))]) ∧ Below w.heap.size w w' := by
  have HG := hid hg
  clear hg
  by_cases hp : Lib.hasPrefix s.data.toList [91] = true
  · have HN := hid (parseV_six (b := special) hp)
    have h1 : 1 ≤ s.data.toList.length := by
      have : [91].isPrefixOf s.data.toList = true := hp
      rw [List.isPrefixOf_iff_prefix] at this
      simpa using this.length_le
    have h1' : (1 : Int) ≤ (s.size : Int) := by simp at h1; omega
    obtain ⟨t, ht⟩ : ∃ t : ByteArray, t = s.extract 1 s.size := ⟨_, rfl⟩
    have htl : t.data.toList = s.data.toList.drop 1 := by rw [ht, extract_drop]
    have hts : t.size ≤ 4000000000 := by rw [ht]; simp; omega
    have HTe := hid ht.symm
    have HTl := hid htl
    clear ht htl h1
    go_enter Tryz.func5, Tryz.ntmps5
    go_wp2_with (first | (go_at_call 15; refine (hasPrefix_any _ _ _).mono ?_; rintro e w' ⟨rfl, rfl⟩; rw [show (⟨#[91]⟩ : ByteArray).data.toList = [91] from rfl, hp]) | (go_at_call 16; rw [HTe.out]; refine (parseSix_any _ _ HG.out hts).mono ?_; rintro e w1 ⟨rfl, hb1⟩; rw [HTl.out]))
    go_ret2
    rw [HN.out, List.drop_one]
    exact ⟨rfl, hb1⟩
  · have hp' : Lib.hasPrefix s.data.toList [91] = false := by simpa using hp
    clear hp
    cases special with
    | true =>
      have HN := hid (parseV_name hp')
      have hu := size_le (unpct_le s.data.toList) hs
      have hl : (⟨(low (unpct s.data.toList)).toArray⟩ : ByteArray).size ≤ 4000000000 := size_le (by rw [low_length]; exact unpct_le _) hs
      go_enter Tryz.func5, Tryz.ntmps5
      go_wp2_with (first | (go_at_call 15; refine (hasPrefix_any _ _ _).mono ?_; rintro e w' ⟨rfl, rfl⟩; rw [show (⟨#[91]⟩ : ByteArray).data.toList = [91] from rfl, hp']) | (go_at_call 19; refine (unpercent_any _ _ (by omega)).mono ?_; rintro e w1 ⟨rfl, hb1⟩) | (go_at_call 18; refine (lower_any _ _ (by omega)).mono ?_; rintro e w2 ⟨rfl, hb2⟩; rw [show (⟨(unpct s.data.toList).toArray⟩ : ByteArray).data.toList = unpct s.data.toList from rfl]) | (go_at_call 17; refine (parseName_any _ _ (HG.out.kept (below2 hb1 hb2)) hl).mono ?_; rintro e w3 ⟨rfl, hb3⟩; rw [show (⟨(low (unpct s.data.toList)).toArray⟩ : ByteArray).data.toList = low (unpct s.data.toList) from rfl]))
      go_ret2
      rw [HN.out]
      exact ⟨rfl, below2 (below2 hb1 hb2) hb3⟩
    | false =>
      have HN := hid (parseV_other hp')
      go_enter Tryz.func5, Tryz.ntmps5
      go_wp2_with (first | (go_at_call 15; refine (hasPrefix_any _ _ _).mono ?_; rintro e w' ⟨rfl, rfl⟩; rw [show (⟨#[91]⟩ : ByteArray).data.toList = [91] from rfl, hp']) | (go_at_call 20; refine (parseOther_any _ _ hs).mono ?_; rintro e w1 ⟨rfl, hb1⟩))
      go_ret2
      rw [HN.out]
      exact ⟨rfl, hb1⟩

end Go.Proofs.YtdpihilikhbamaaGreatDoor
