/-
  Walks and plain facts that this claim leans on, put together out of 11 texts: Zc, Ra, Zd, Zf, Zh, Zj, Ba, Bb, Bd, Be, Bf.
-/
import Derived.Test.YtpopljcmkbchcaaGreatDoorProg
import Derived.Test.YtpopljcmkbchcaaGreatDoorQc1
import Derived.Test.YtpopljcmkbchcaaGreatDoorQc2
import Derived.Test.YtpopljcmkbchcaaGreatDoorQc3
import Derived.WalkKit
import Derived.Lib.Strings
import Derived.Lib.UnsafeStr
import Derived.Laws.IdiomStrings
import Derived.Laws.AppendOwn
import Derived.Laws.BitsAllLaws
import Derived.Lib.Bytealg
import Derived.Lib.BufferMore
import Derived.Shelf.Strings.Builder1
import Derived.Shelf.Strings.Builder2
import Derived.Shelf.Strings.OnBuilder
import Derived.Shelf.Strings.Trim
import Derived.Shelf.Small.Utf8
import Derived.Shelf.Small.Bits
import Derived.Shelf.Small.Strs
import Derived.Shelf.Small.Wraps
import Derived.Shelf.Strings.BuilderF
import Derived.Shelf.Strings.BuilderK
import Derived.Shelf.Strings.BuilderRune
import Derived.Shelf.Utf8.AppendRune
import Derived.Shelf.Utf8.AppendRunePlain
import Derived.Shelf.Strings.Builder2Cap
import Derived.Shelf.Strconv.Itoa0
import Derived.Shelf.Strconv.Itoa1
import Derived.Shelf.LaysM
import Derived.Shelf.Strconv.Itoa2
import Derived.Shelf.Strconv.Itoa3
import Derived.Shelf.Strings.Search1
import Derived.Shelf.Strings.Search2
import Derived.Shelf.Strings.Cut
import Derived.Shelf.Strings.Shaped
import Derived.Shelf.Sort.Plain
import Derived.Shelf.Strings.Prefix
import Derived.Shelf.Unicode.Latin
import Derived.Shelf.Strings.Runes
import Derived.Shelf.Strings.IndexAny
import Derived.Shelf.Strings.AsciiSet
import Derived.Shelf.Strings.IndexAnyAll
import Derived.Shelf.Unicode.DecodeSlow
import Derived.Shelf.Unicode.DecodeAny
import Derived.Shelf.Unicode.DecodeLast
import Derived.Shelf.Unicode.CaseLookup
import Derived.Shelf.Unicode.CaseConvert
import Derived.Shelf.Unicode.CaseTo
import Derived.Shelf.Unicode.CaseLaid
import Derived.Shelf.Slices.CompactS
import Derived.Shelf.Slices.In.SortNone
import Derived.WalkSpells
import Derived.WalkLawsBesides
import Derived.Lib.SlTrimSet
import Derived.Lib.Join
import Derived.Lib.IndexMore
import Derived.Laws.OwnMore
import Derived.Below
import Derived.WalkSmall
import Derived.Lib.SmallJoins
import Derived.Deep.QuietTactic
import Derived.BigQuiet
import Derived.Deep.LoopGhost
import Derived.Deep.MidRow
import Derived.Shelf.Strings.SlTrimAscii
import Derived.Deep.CutRange
import Derived.Laws.Rows
import Derived.Laws.CopyOwn
import Derived.Laws.MakeOwn
import Derived.Laws.RangeAny
import Derived.Lib.DecodeN
import Derived.Lib.OthersKept
import Derived.RegionTactic
import Derived.Deep.RegionWith
import Derived.Laws.Runes
import Derived.Deep.WholeRow
import Derived.Deep.RegionLaw
import Derived.Deep.RegionHeldLaw
import Derived.LoopN
import Derived.Laws.AppendOwnNone
import Derived.BigRegion
import Derived.Deep.RegionHeld
set_option linter.unusedSimpArgs false
set_option linter.unusedVariables false

namespace Go.Proofs.YtpopljcmkbchcaaGreatDoor
open Go.RowKit

def fewHd (m : Nat) (h : Hd) : Hd := ⟨h.name.take m, h.value.take m⟩

def fewH (L : List Hd) (n m : Nat) : List Hd := (L.take n).map (fewHd m)

theorem fewH_len (L : List Hd) (n m : Nat) : (fewH L n m).length ≤ n := by simp [fewH]; omega

theorem fewH_szd (L : List Hd) (n m : Nat) : Szd m (fewH L n m) := fun h hh => by
 unfold fewH at hh
 obtain ⟨a, _, rfl⟩ := List.mem_map.1 hh
 simp [fewHd]; omega

theorem Szd.mono {a b : Nat} {L : List Hd} (h : Szd a L) (hab : a ≤ b) : Szd b L := fun x hx => ⟨Nat.le_trans (h x hx).1 hab, Nat.le_trans (h x hx).2 hab⟩

theorem Szd.bulk {a : Nat} {L : List Hd} (h : Szd a L) : bulkV L ≤ (a + 2) * L.length := by
 unfold bulkV
 induction L with
 | nil => simp
 | cons x L ih =>
  have h1 := (h x (by simp)).2
  have := ih (fun y hy => h y (by simp [hy]))
  simp only [List.map_cons, List.sum_cons, List.length_cons]
  rw [Nat.mul_add]
  omega

set_option maxHeartbeats 2000000 in
set_option maxRecDepth 100000 in
theorem fewHeaders_any (v : Value) (L : List Hd) (n m : Nat) (w : World) (h : HdAt w v L) (hz : Szd maxLen L) (hn : n ≤ 1000) (hm : m ≤ 1000) :
  Calls Tryz.prog 12 #[v, .int .i64 n, .int .i64 m] w (HdPost (fewH L n m) w) := by
 obtain ⟨i0, hi, hz0, hz1, hz2⟩ := info3 infoHd
 obtain ⟨a1, c1, rfl, hc1, hm1, hv1⟩ := h.view
 have V1 := hid hv1
 have HZ := hid hz
 clear h hv1 hz
 go_enter Tryz.func12, Tryz.ntmps12
 go_wp2
 go_loopw [7, 8] (fun vv i wr => ∃ k : Nat, k ≤ L.length ∧ k ≤ n ∧ i = .int .i64 k ∧ wr.ownsRow w.heap.size 45 2 vv k (cellsH (fewH L k m)) ∧ Below w.heap.size w wr)
  (fun _ i _ => L.length - (intOf i).toNat)
 case atStart => exact ⟨0, Nat.zero_le _, Nat.zero_le _, rfl, World.ownsRow_nil _ _ _ _, Below.refl _ _⟩
 case round =>
  obtain ⟨k, hk, hkn, rfl, hown, hbw⟩ := hrel
  have HO := hid hown
  have hwr := hbw.size
  clear hown
  by_cases hlt : k < L.length
  ·have hlt' : (k : Int) < (L.length : Int) := by omega
   by_cases hltn : k < n
   ·have hltn' : (k : Int) < (n : Int) := by omega
    obtain ⟨b1, o1, rfl, e1, e2⟩ := V1.out k hlt
    have f1 : wr.cell? ⟨b1, o1 + k * 2, none⟩ = some (.string ⟨L[k].name.toArray⟩) := (hbw.cell (World.block_lt_of_cell? w _ e1)).trans e1
    have f2 : wr.cell? ⟨b1, o1 + k * 2 + 1, none⟩ = some (.string ⟨L[k].value.toArray⟩) := (hbw.cell (World.block_lt_of_cell? w _ e2)).trans e2
    obtain ⟨nm, hnm⟩ : ∃ x : ByteArray, x = ⟨L[k].name.toArray⟩ := ⟨_, rfl⟩
    obtain ⟨vl, hvl⟩ : ∃ x : ByteArray, x = ⟨L[k].value.toArray⟩ := ⟨_, rfl⟩
    rw [← hnm] at f1 e1
    rw [← hvl] at f2 e2
    have hs1 : nm.size ≤ 9223372036854775807 := by rw [hnm, xsize]; exact (HZ.out _ (List.getElem_mem hlt)).1
    have hs2 : vl.size ≤ 9223372036854775807 := by rw [hvl, xsize]; exact (HZ.out _ (List.getElem_mem hlt)).2
    obtain ⟨nm', hnm'⟩ : ∃ x : ByteArray, x = ⟨(nm.data.toList.take m).toArray⟩ := ⟨_, rfl⟩
    obtain ⟨vl', hvl'⟩ : ∃ x : ByteArray, x = ⟨(vl.data.toList.take m).toArray⟩ := ⟨_, rfl⟩
    have HF1 := hid hnm'
    have HF2 := hid hvl'
    have HS := hid (show cellsH (fewH L (k + 1) m) = cellsH (fewH L k m) ++ [.string nm', .string vl'] by
     unfold fewH
     rw [List.take_add_one, List.getElem?_eq_getElem hlt, List.map_append, cellsH_app]
     congr 1
     rw [hnm', hvl', hnm, hvl]; rfl)
    have hblk2 : b1 < w.heap.size := World.block_lt_of_cell? w _ e1
    have HK := hid (fun (X : World) (hX : Below w.heap.size w X) => (⟨hX, (hX.cell hblk2).trans e1, (hX.cell hblk2).trans e2⟩ : Below w.heap.size w X ∧ X.cell? ⟨b1, o1 + k * 2, none⟩ = some (.string nm) ∧ X.cell? ⟨b1, o1 + k * 2 + 1, none⟩ = some (.string vl)))
    have hbD : Below w.heap.size w wr.drew := hbw.drew
    clear e1 e2 hblk2
    clear hnm hvl hnm' hvl'
    go_wp2
    go_region_held_law (fun wx => Below w.heap.size w wx ∧ wx.cell? ⟨b1, o1 + k * 2, none⟩ = some (.string nm) ∧ wx.cell? ⟨b1, o1 + k * 2 + 1, none⟩ = some (.string vl))
     (first | exact HK.out _ hbD | exact HK.out _ (by assumption) | (go_split_ands; exact HK.out _ (by assumption)) | (go_split_ands; exact HK.out _ (belowA (by assumption) _)))
     (first
      | (go_at_call 43; refine (xfew_any _ m _ (by omega) (by assumption)).mono ?_; rintro e w' ⟨rfl, rfl⟩; first | rw [← HF1.out] | rw [← HF2.out])
      | (refine xstep_append_own rfl (.tmp 20) (.tmp 36) 27 rfl w.heap.size 45 i0 _ 2 32 Tryz.underlying27 hi hz0 hz1 hz2 rfl (by decide) u7 k (cellsH (fewH L k m)) rfl (by exact HO.out.alloc _) ⟨wr.heap.size, 0, none⟩ 1 1 [.string nm', .string vl'] rfl rfl (by intro j u hj; match j, hj with | 0, hj => (simp at hj; subst hj; simp [Addr.add]) | 1, hj => (simp at hj; subst hj; simp [Addr.add])) (by intro u hu; simp at hu; rcases hu with rfl | rfl <;> rfl) (by unfold maxLen; omega) (by omega) (by simp; omega) ?_; intro v6 w6 hown6 hgrow6 hnil6; have hbW6 : Below w.heap.size w w6 := (belowA hbD _).grown hgrow6 (by simp; omega) (fun g hg => (HO.out.lt g hg).1)))
    all_goals
     (try dsimp only at *)
     go_wp2
     go_roundw
     case rel =>
      refine ⟨k + 1, by omega, by omega, by go_num, ?_, hbW6⟩
      rw [HS.out]
      first | exact hown6 | simpa using hown6
     case measure => simp [intOf]; omega
   ·have hltn' : decide ((k : Int) < (n : Int)) = false := by rw [decide_eq_false_iff_not]; omega
    have hke : k = n := by omega
    subst hke
    have hlen : (fewH L k m).length = k := by simp [fewH]; omega
    have HR := hid (show wr.ownsRow w.heap.size 45 2 u7 (fewH L k m).length (cellsH (fewH L k m)) by rw [hlen]; exact HO.out)
    clear hlen
    go_wp2
    go_ret
    exact ⟨_, rfl, HR.out, hbw⟩
  ·have hke : k = L.length := by omega
   subst hke
   have hlt' : decide ((L.length : Int) < (L.length : Int)) = false := by rw [decide_eq_false_iff_not]; omega
   have hef : fewH L L.length m = fewH L n m := by
    unfold fewH
    rw [List.take_length, List.take_of_length_le hkn]
   have hlen : (fewH L n m).length = L.length := by rw [← hef]; simp [fewH]
   have HR := hid (show wr.ownsRow w.heap.size 45 2 u7 (fewH L n m).length (cellsH (fewH L n m)) by rw [hlen, ← hef]; exact HO.out)
   clear hlen hef
   go_wp2
   go_ret
   exact ⟨_, rfl, HR.out, hbw⟩

end Go.Proofs.YtpopljcmkbchcaaGreatDoor

namespace Go.Proofs.YtpopljcmkbchcaaGreatDoor
open Go.RowKit

set_option maxHeartbeats 400000 in
theorem rblank_any (c : Int) (w : World) :
  Calls Tryz.prog 161 #[.int .u8 c] w fun e w' => e = .returned (.bool (blankI c)) ∧ w = w' := by
 go_enter Tryz.func161, Tryz.ntmps161
 go_wp2
 all_goals
  go_ret
  exact ⟨ret_bool (by simp [blankI, Bool.or_assoc, *]), rfl⟩

set_option maxHeartbeats 400000 in
theorem rdigit_any_Ra (c : Int) (w : World) :
  Calls Tryz.prog 148 #[.int .u8 c] w fun e w' => e = .returned (.bool (digitI c)) ∧ w = w' := by
 go_enter Tryz.func148, Tryz.ntmps148
 go_wp2
 all_goals
  go_ret
  exact ⟨ret_bool (by rw [Bool.eq_iff_iff]; simp [digitI]; omega), rfl⟩

set_option maxHeartbeats 400000 in
theorem rletter_any_Ra (c : Int) (w : World) :
  Calls Tryz.prog 147 #[.int .u8 c] w fun e w' => e = .returned (.bool (letterI c)) ∧ w = w' := by
 go_enter Tryz.func147, Tryz.ntmps147
 go_wp2
 all_goals
  go_ret
  exact ⟨ret_bool (by rw [Bool.eq_iff_iff]; simp [letterI]; omega), rfl⟩

set_option maxHeartbeats 1000000 in
theorem rlower_any_Ra (s : ByteArray) (w : World) (hs : s.size ≤ 140737488351232) :
  Calls Tryz.prog 79 #[.string s] w fun e w' => e = .returned (.string ⟨(low s.data.toList).toArray⟩) ∧ Below w.heap.size w w' := by
 have hcv := run_bytes_of_string (P := Tryz.prog) w 9 28 5 s Tryz.underlying9 Tryz.underlying28 Tryz.underlying5
 have hcap := grownCap_ge w s.size 0 5
 have hr0 := rowIs_bytes w 5 s (grownCap w s.size 0 5) hcap
 have hb0 : Below w.heap.size w (w.drew.alloc (.cells (bytesRow s (grownCap w s.size 0 5)) 5 ((bytesRow s (grownCap w s.size 0 5)).size, (bytesRow s (grownCap w s.size 0 5)).size + 1))) := (Below.refl _ w).drew.alloc (Nat.le_refl _) _
 generalize (w.drew.alloc (.cells (bytesRow s (grownCap w s.size 0 5)) 5 ((bytesRow s (grownCap w s.size 0 5)).size, (bytesRow s (grownCap w s.size 0 5)).size + 1))) = w0 at hcv hr0 hb0
 generalize grownCap w s.size 0 5 = cap at hcv hcap
 go_enter Tryz.func79, Tryz.ntmps79
 go_wp2
 clear hcv
 go_loopw [4] (fun i wr => ∃ k : Nat, k ≤ s.size ∧ i = .int .i64 k ∧ rowIs wr w.heap.size 5 (lowTo s.data.toList k) ∧ Below w.heap.size w wr)
  (fun i _ => s.size - (intOf i).toNat)
 case atStart => exact ⟨0, Nat.zero_le _, rfl, by rw [lowTo_zero]; exact hr0, hb0⟩
 case round =>
  obtain ⟨k, hk, rfl, hr, hbw⟩ := hrel
  by_cases hlt : k < s.size
  ·have hl : k < s.data.toList.length := by simpa using hlt
   have hl' : k < (lowTo s.data.toList k).length := by rw [lowTo_length]; exact hl
   have hc := hr.cell k hl'
   rw [lowTo_at _ _ hl] at hc
   have hf := hr.frozen k hl'
   have hsucc := lowTo_succ s.data.toList k hl
   have hat := lowTo_at s.data.toList k hl hl'
   generalize s.data.toList[k] = c at hc hsucc hat
   have HS := hid hsucc
   have HAt := hid hat
   clear hsucc hat
   have hc8 : c.toNat < 256 := c.toNat_lt
   by_cases hu : 65 ≤ c.toNat ∧ c.toNat ≤ 90
   ·have h1 : (65 : Int) ≤ (c.toNat : Int) := by omega
    have h2 : (c.toNat : Int) ≤ 90 := by omega
    have HL := hid (lowC_yes c hu)
    clear hu
    go_wp2
    go_roundw
    case rel =>
     refine ⟨k + 1, by omega, by go_num, ?_, hbw.setCell (p := ⟨w.heap.size, k, none⟩) (Nat.le_refl _) _⟩
     rw [HS.out, ← HL.out]
     exact hr.set k _
    case measure => simp [intOf]; omega
   ·have HL := hid (lowC_no c hu)
    have hu' : (c.toNat : Int) < 65 ∨ 90 < (c.toNat : Int) := by omega
    clear hu
    rcases hu' with h1 | h1
    all_goals
     go_wp2
     go_roundw
     case rel =>
      refine ⟨k + 1, by omega, by go_num, ?_, hbw⟩
      have e : lowC c = (lowTo s.data.toList k)[k] := by rw [HL.out, HAt.out]
      rw [HS.out, e, List.set_getElem_self]
      exact hr
     case measure => simp [intOf]; omega
  ·have hk' : k = s.data.toList.length := by simp; omega
   have hr' : rowIs wr w.heap.size 5 (low s.data.toList) := by rw [← lowTo_all, ← hk']; exact hr
   clear hr hk'
   have hcv := hr'.string (P := Tryz.prog) (src := 28) (dst := 9) (cap := cap) Tryz.underlying28 Tryz.underlying5 Tryz.underlying9
   rw [show (low s.data.toList).length = s.size by simp [low]] at hcv
   go_wp2
   go_ret
   exact ⟨rfl, hbw⟩

set_option maxHeartbeats 1000000 in
theorem rint_any_Ra (s : ByteArray) (w : World) (hs : s.size ≤ 140737488351232) :
  Calls Tryz.prog 113 #[.string s] w fun e w' => e = .returned (.tuple #[.int .i64 (intV s.data.toList), .bool (intOk s.data.toList)]) ∧ w = w' := by
 go_enter Tryz.func113, Tryz.ntmps113
 go_wp2
 go_loop [4, 5] (fun n i => ∃ k : Nat, k ≤ s.size ∧ i = .int .i64 k ∧ (s.data.toList.take k).all digP = true ∧ n = .int .i64 (numI (s.data.toList.take k))) (fun _ i => s.size - (intOf i).toNat)
 case atStart => exact ⟨0, Nat.zero_le _, rfl, rfl, rfl⟩
 case round =>
  obtain ⟨k, hk, rfl, hall, rfl⟩ := hrel
  have hr := numI_range _ hall
  have HA := hid hall
  clear hall
  by_cases hlt : k < s.size
  ·have HT := hid (take_snoc s k hlt)
   have HN := hid (numI_snoc (s.data.toList.take k) s[k])
   generalize numI (s.data.toList.take k) = n at *
   obtain ⟨hr1, hr2⟩ := hr
   by_cases hd : digitI (s[k].toNat : Int) = true
   ·have hd2 : 48 ≤ (s[k].toNat : Int) ∧ (s[k].toNat : Int) ≤ 57 := by simp [digitI] at hd; omega
    obtain ⟨hd3, hd4⟩ := hd2
    by_cases hbig : (9223372036854775807 - ((s[k].toNat : Int) - 48)) / 10 < n
    ·have HT2 := hid (show ten n ((s[k].toNat : Int) - 48) = 9223372036854775807 by unfold ten; rw [if_pos hbig])
     go_wp2_with (go_at_call 148; refine (rdigit_any_Ra _ _).mono ?_; rintro e w' ⟨rfl, rfl⟩)
     go_round
     case rel => exact ⟨k + 1, by omega, by go_num, by rw [HT.out, List.all_append, HA.out]; simp [digP, hd], by rw [HT.out, HN.out, HT2.out]⟩
     case measure => simp [intOf]; omega
    ·have HT2 := hid (show ten n ((s[k].toNat : Int) - 48) = n * 10 + ((s[k].toNat : Int) - 48) by unfold ten; rw [if_neg hbig])
     have hbig' : n ≤ (9223372036854775807 - ((s[k].toNat : Int) - 48)) / 10 := by omega
     clear hbig
     go_wp2_with (go_at_call 148; refine (rdigit_any_Ra _ _).mono ?_; rintro e w' ⟨rfl, rfl⟩)
     go_round
     case rel => exact ⟨k + 1, by omega, by go_num, by rw [HT.out, List.all_append, HA.out]; simp [digP, hd], by rw [HT.out, HN.out, HT2.out]⟩
     case measure => simp [intOf]; omega
   ·have hd' : digitI (s[k].toNat : Int) = false := by simpa using hd
    clear hd
    go_wp2_with (go_at_call 148; refine (rdigit_any_Ra _ _).mono ?_; rintro e w' ⟨rfl, rfl⟩)
    go_ret2
    have : s.data.toList.all digP = false := by
     rw [List.all_eq_false]
     refine ⟨s[k], ?_, by simp [digP, hd']⟩
     have : s[k] = s.data.toList[k]'(by simpa using hlt) := rfl
     rw [this]; exact List.getElem_mem _
    exact ⟨ret_ib (by simp [intV, this]) (by simp [intOk, this]), rfl⟩
  ·have ha := HA.out
   rw [take_all s k hlt] at ha ⊢
   have ha' := hid ha
   clear ha
   by_cases h0 : s.size = 0
   ·have hl : s.data.toList = [] := List.eq_nil_of_length_eq_zero (by simpa using h0)
    have HL := hid hl
    clear hl
    go_wp2
    go_ret2
    exact ⟨ret_ib (by rw [HL.out]; rfl) (by rw [HL.out]; simp [intOk]), rfl⟩
   ·have hl : s.data.toList.isEmpty = false := by
     rw [List.isEmpty_eq_false_iff]
     intro h
     apply h0
     have := congrArg List.length h
     simpa using this
    have HL := hid hl
    clear hl
    have h0' : (0 : Int) < (s.size : Int) := by omega
    go_wp2
    go_ret2
    exact ⟨ret_ib (by simp [intV, ha'.out, HL.out]) (by simp [intOk, ha'.out, HL.out]; try omega), rfl⟩

def strN : Value → Nat
 | .string s => s.size
 | _ => 0

theorem extract_one (t : ByteArray) (h : 0 < t.size) : t.data.toList = t[0] :: (t.extract 1 t.size).data.toList := by
 rw [extract_drop]
 have := drop_cons t 0 h
 simpa using this

theorem extract_last (u : ByteArray) (h : u.size - 1 < u.size) : u.data.toList = (u.extract 0 (u.size - 1)).data.toList ++ [u[u.size - 1]] := by
 rw [Lib.extract_data]
 have := take_snoc u (u.size - 1) h
 rw [take_all u (u.size - 1 + 1) (by omega)] at this
 simpa using this

theorem strip_ref (s A M B : List UInt8) (e : s = A ++ M ++ B) (hA : A.all blC = true) (hB : B.all blC = true) (h : M = [] ∨ (∃ c r, M = c :: r ∧ blC c = false) ∧ ∃ r c, M = r ++ [c] ∧ blC c = false) : M = strip s := by
 rw [e, strip_parts A M B hA hB h]

set_option maxHeartbeats 1000000 in
theorem rstrip_any (s : ByteArray) (w : World) (hs : s.size ≤ 140737488351232) :
  Calls Tryz.prog 112 #[.string s] w fun e w' => e = .returned (.string ⟨(strip s.data.toList).toArray⟩) ∧ w = w' := by
 go_enter Tryz.func112, Tryz.ntmps112
 go_wp2
 go_loop [0] (fun ts => ∃ (t : ByteArray) (A : List UInt8), ts = .string t ∧ s.data.toList = A ++ t.data.toList ∧ A.all blC = true ∧ t.size ≤ s.size) (fun ts => strN ts)
 case atStart => exact ⟨s, [], rfl, rfl, rfl, Nat.le_refl _⟩
 case round =>
  obtain ⟨t, A, rfl, hsA, hA, hts⟩ := hrel
  have HS := hid hsA
  have HA := hid hA
  clear hsA hA
  by_cases hgo : ∃ h : 0 < t.size, blankI (t[0].toNat : Int) = true
  ·obtain ⟨h0, hbl⟩ := hgo
   have h0' : (0 : Int) < (t.size : Int) := by omega
   have HE := hid (extract_one t h0)
   go_wp2_with (go_at_call 161; refine (rblank_any _ _).mono ?_; rintro e w' ⟨rfl, rfl⟩)
   go_round
   case rel =>
    refine ⟨_, A ++ [t[0]], rfl, ?_, ?_, ?_⟩
    ·rw [HS.out, HE.out]; simp
    ·rw [List.all_append, HA.out]; simp [blC, hbl]
    ·simp; omega
   case measure => simp [strN]; omega
  ·have hx : t.size = 0 ∨ ∃ h : 0 < t.size, blankI (t[0].toNat : Int) = false := by
    by_cases h0 : 0 < t.size
    ·right
     refine ⟨h0, ?_⟩
     have := fun h => hgo ⟨h0, h⟩
     simpa using this
    ·left; omega
   clear hgo
   rcases hx with h0 | ⟨h0, hbl⟩
   ·have h0' : (t.size : Int) ≤ 0 := by omega
    have hn : t.data.toList = [] := List.eq_nil_of_length_eq_zero (by simpa using h0)
    have HN := hid hn
    clear hn
    go_wp2
    refine wp_loop_rounds 1 ?_
    rw [rounds_succ]
    go_wp2
    go_ret
    refine ⟨ret_str_Wj ?_, rfl⟩
    refine strip_ref s.data.toList A _ [] (by rw [HS.out]; simp) HA.out rfl (.inl HN.out)
   ·have h0' : (0 : Int) < (t.size : Int) := by omega
    have HE := hid (extract_one t h0)
    go_wp2_with (go_at_call 161; refine (rblank_any _ _).mono ?_; rintro e w' ⟨rfl, rfl⟩)
    go_loop [0] (fun us => ∃ (u : ByteArray) (B : List UInt8), us = .string u ∧ t.data.toList = u.data.toList ++ B ∧ B.all blC = true ∧ u.size ≤ s.size) (fun us => strN us)
    case atStart => exact ⟨t, [], rfl, by simp, rfl, hts⟩
    case round =>
     obtain ⟨u, B, rfl, htB, hB, hus⟩ := hrel
     have HT := hid htB
     have HB := hid hB
     clear htB hB
     by_cases hu0 : u.size = 0
     ·have hu0' : (u.size : Int) ≤ 0 := by omega
      have hn : u.data.toList = [] := List.eq_nil_of_length_eq_zero (by simpa using hu0)
      have HN := hid hn
      clear hn
      go_wp2
      go_ret
      refine ⟨ret_str_Wj ?_, rfl⟩
      exact strip_ref s.data.toList A _ B (by rw [HS.out, HT.out]; simp) HA.out HB.out (.inl HN.out)
     ·have hlt : u.size - 1 < u.size := by omega
      have HL := hid (extract_last u hlt)
      have hu0' : (0 : Int) < (u.size : Int) := by omega
      by_cases hbq : blankI (u[u.size - 1].toNat : Int) = true
      ·go_wp2_with (go_at_call 161; refine (rblank_any _ _).mono ?_; rintro e w' ⟨rfl, rfl⟩)
       go_round
       case rel =>
        refine ⟨_, u[u.size - 1] :: B, rfl, ?_, ?_, ?_⟩
        ·rw [HT.out]; conv => lhs; rw [HL.out]
         simp
        ·rw [List.all_cons, HB.out]; simp [blC, hbq]
        ·simp; omega
       case measure => simp [strN]; omega
      ·have hbq' : blankI (u[u.size - 1].toNat : Int) = false := by simpa using hbq
       clear hbq
       have hfirst : ∃ c r, u.data.toList = c :: r ∧ blC c = false := by
        have h1 := HT.out
        rw [HE.out] at h1
        match hu : u.data.toList with
        | [] =>
         have h5 : u.data.toList.length = 0 := by rw [hu]; rfl
         rw [← Lib.size_eq] at h5
         omega
        | c :: r =>
         rw [hu] at h1
         have : t[0] = c := by simpa using congrArg List.head? h1
         exact ⟨c, r, rfl, by rw [← this]; exact hbl⟩
       have HF := hid hfirst
       clear hfirst
       go_wp2_with (go_at_call 161; refine (rblank_any _ _).mono ?_; rintro e w' ⟨rfl, rfl⟩)
       go_ret
       refine ⟨ret_str_Wj ?_, rfl⟩
       exact strip_ref s.data.toList A _ B (by rw [HS.out, HT.out]; simp) HA.out HB.out (.inr ⟨HF.out, _, _, HL.out, hbq'⟩)

def signsL : List UInt8 := [33, 35, 36, 37, 38, 39, 42, 43, 45, 46, 94, 95, 96, 124, 126]

def tokTo (c : Int) (k : Nat) : Bool := (letterI c || digitI c) || (signsL.take k).any fun x => c == (x.toNat : Int)

theorem tokTo_zero (c : Int) : tokTo c 0 = (letterI c || digitI c) := by simp [tokTo]

theorem tokTo_all (c : Int) : tokTo c 15 = tokI c := by
 have : signsL.take 15 = signsL := rfl
 unfold tokTo tokI signI
 rw [this]
 simp only [signsL, List.any_cons, List.any_nil, Bool.or_false]
 rw [Bool.or_comm]
 rfl

theorem tokTo_succ (c : Int) (k : Nat) (h : k < (ByteArray.mk #[33, 35, 36, 37, 38, 39, 42, 43, 45, 46, 94, 95, 96, 124, 126]).size) : tokTo c (k + 1) = (tokTo c k || c == ((ByteArray.mk #[33, 35, 36, 37, 38, 39, 42, 43, 45, 46, 94, 95, 96, 124, 126])[k].toNat : Int)) := by
 have h' : k < signsL.length := h
 unfold tokTo
 rw [List.take_succ_eq_append_getElem h', List.any_append, Bool.or_assoc]
 have e : [signsL[k]].any (fun x => c == (x.toNat : Int)) = (c == (signsL[k].toNat : Int)) := by simp
 rw [e]
 simp only [Bool.or_assoc]
 rfl

set_option maxHeartbeats 1000000 in
theorem rtoken_any (s : ByteArray) (w : World) (hs : s.size ≤ 140737488351232) :
  Calls Tryz.prog 95 #[.string s] w fun e w' => e = .returned (.bool (tokL s.data.toList)) ∧ w = w' := by
 have hs15 : (ByteArray.mk #[33, 35, 36, 37, 38, 39, 42, 43, 45, 46, 94, 95, 96, 124, 126]).size = 15 := rfl
 go_enter Tryz.func95, Tryz.ntmps95
 go_wp2
 go_loop [3] (fun i => ∃ k : Nat, k ≤ s.size ∧ i = .int .i64 k ∧ (s.data.toList.take k).all tokC = true) (fun i => s.size - (intOf i).toNat)
 case atStart => exact ⟨0, Nat.zero_le _, rfl, rfl⟩
 case round =>
  obtain ⟨k, hk, rfl, hall⟩ := hrel
  have HA := hid hall
  clear hall
  by_cases hlt : k < s.size
  ·have HT := hid (take_snoc s k hlt)
   obtain ⟨z, hz⟩ : ∃ z, z = (letterI (s[k].toNat : Int) || digitI (s[k].toNat : Int)) := ⟨_, rfl⟩
   have hlet : letterI (s[k].toNat : Int) = true ∨ letterI (s[k].toNat : Int) = false := by cases letterI (s[k].toNat : Int) <;> simp
   rcases hlet with hlet | hlet
   all_goals
    go_wp2_with (first | (go_at_call 147; refine (rletter_any_Ra _ _).mono ?_; rintro e w' ⟨rfl, rfl⟩) | (go_at_call 148; refine (rdigit_any_Ra _ _).mono ?_; rintro e w' ⟨rfl, rfl⟩))
    go_loop [5, 6] (fun o j => ∃ m : Nat, m ≤ 15 ∧ j = .int .i64 m ∧ o = .bool (tokTo (s[k].toNat : Int) m)) (fun _ j => 15 - (intOf j).toNat)
    case atStart => exact ⟨0, by omega, rfl, by rw [tokTo_zero]; simp [hlet]⟩
    case round =>
     obtain ⟨m, hm, rfl, rfl⟩ := hrel
     by_cases hm15 : m < 15
     ·have HS := hid (tokTo_succ (s[k].toNat : Int) m (by rw [hs15]; exact hm15))
      have hot : tokTo (s[k].toNat : Int) m = true ∨ tokTo (s[k].toNat : Int) m = false := by cases tokTo (s[k].toNat : Int) m <;> simp
      rcases hot with hot | hot
      all_goals
       go_wp2
       go_round
       case rel => exact ⟨m + 1, by omega, by go_num, by rw [HS.out, hot]; simp⟩
       case measure => simp [intOf]; omega
     ·obtain rfl : m = 15 := by omega
      have hall := tokTo_all (s[k].toNat : Int)
      by_cases ht : tokI (s[k].toNat : Int) = true
      ·rw [ht] at hall
       go_wp2
       go_round
       case rel => exact ⟨k + 1, by omega, by go_num, by rw [HT.out, List.all_append, HA.out]; simp [tokC, ht]⟩
       case measure => simp [intOf]; omega
      ·have ht' : tokI (s[k].toNat : Int) = false := by simpa using ht
       rw [ht'] at hall
       go_wp2
       go_ret
       refine ⟨ret_bool ?_, rfl⟩
       have : s.data.toList.all tokC = false := by
        rw [List.all_eq_false]
        refine ⟨s[k], ?_, by simp [tokC, ht']⟩
        have : s[k] = s.data.toList[k]'(by simpa using hlt) := rfl
        rw [this]; exact List.getElem_mem _
       simp [tokL, this]
  ·have ha := HA.out
   rw [take_all s k hlt] at ha
   have HA2 := hid ha
   clear ha
   go_wp2
   go_ret
   refine ⟨ret_bool ?_, rfl⟩
   by_cases h0 : 0 < s.size
   ·have h1 : s.data.toList.isEmpty = false := by
     rw [List.isEmpty_eq_false_iff]
     intro h
     have h5 : s.data.toList.length = 0 := by rw [h]; rfl
     rw [← Lib.size_eq] at h5
     omega
    simp [tokL, HA2.out, h1, h0]
   ·have h1 : s.data.toList = [] := List.eq_nil_of_length_eq_zero (by rw [← Lib.size_eq]; omega)
    have h2 : tokL s.data.toList = false := by rw [h1]; rfl
    rw [h2]
    simp only [decide_eq_false_iff_not]
    omega

end Go.Proofs.YtpopljcmkbchcaaGreatDoor

namespace Go.Proofs.YtpopljcmkbchcaaGreatDoor
open Go.RowKit

theorem dropV_app (A B : List Hd) (n : List UInt8) : dropV (A ++ B) n = dropV A n ++ dropV B n := by unfold dropV; simp

theorem dropV_twice (L : List Hd) (n : List UInt8) : dropV (dropV L n) n = dropV L n := by
 unfold dropV; rw [List.filter_filter]; simp

theorem isN_other {n o : List UInt8} (h : low n ≠ low o) (x : Hd) (hx : isN n x = true) : isN o x = false := by
 unfold isN at hx ⊢
 rw [beq_iff_eq] at hx
 rw [beq_eq_false_iff_ne, hx]
 exact h

theorem selV_other (L : List Hd) (n o : List UInt8) (h : low n ≠ low o) : selV (dropV L n) o = selV L o := by
 unfold selV dropV
 rw [List.filter_filter]
 congr 1
 apply List.filter_congr
 intro x _
 cases hx : isN n x with
 | false => simp
 | true => simp [isN_other h x hx]

theorem first_ahead (L : List Hd) (n : List UInt8) (k : Nat) (h : firstV L n = some k) : ∃ hk : k < L.length, isN n L[k] = true ∧ selV (L.take k) n = [] ∧ dropV (L.take k) n = L.take k := by
 unfold firstV at h
 rw [List.findIdx?_eq_some_iff_getElem] at h
 obtain ⟨hk, h1, h2⟩ := h
 have hno : ∀ x ∈ L.take k, isN n x = false := fun x hx => by
  obtain ⟨j, hj, rfl⟩ := List.getElem_of_mem hx
  have hj' : j < k := by simp at hj; omega
  have := h2 j hj'
  simpa using this
 refine ⟨hk, h1, ?_, ?_⟩
 ·unfold selV
  rw [List.filter_eq_nil_iff.2 (fun x hx => by rw [hno x hx]; simp)]; rfl
 ·unfold dropV
  rw [List.filter_eq_self]
  intro x hx
  rw [hno x hx]; rfl

theorem isN_self (n v : List UInt8) : isN n ⟨n, v⟩ = true := by unfold isN; simp

theorem isN_name (n v : List UInt8) (x : Hd) (h : isN n x = true) : isN n ⟨x.name, v⟩ = true := h

theorem set_drop (L : List Hd) (n v : List UInt8) : dropV (setV L n v) n = dropV L n := by
 unfold setV
 cases h : firstV L n with
 | none =>
  simp only
  rw [dropV_snoc, isN_self]; simp
 | some k =>
  obtain ⟨hk, h1, h2, h3⟩ := first_ahead L n k h
  simp only
  rw [dropV_app, dropV_app, h3, dropV_twice]
  have hL : L = L.take k ++ ([L[k]] ++ L.drop (k + 1)) := by
   rw [List.singleton_append, List.getElem_cons_drop, List.take_append_drop]
  have e1 : dropV [(⟨(L.getD k ⟨[], []⟩).name, valT v⟩ : Hd)] n = [] := by
   unfold dropV
   rw [List.getD_eq_getElem?_getD, List.getElem?_eq_getElem hk, Option.getD_some, List.filter_cons_of_neg (by rw [isN_name n _ L[k] h1]; simp)]; rfl
  have e2 : dropV [L[k]] n = [] := by
   unfold dropV
   rw [List.filter_cons_of_neg (by rw [h1]; simp)]; rfl
  rw [e1]
  conv => rhs; rw [hL, dropV_app, dropV_app, e2, h3]
  simp

theorem set_other (L : List Hd) (n v o : List UInt8) (hno : low n ≠ low o) : selV (setV L n v) o = selV L o := by
 rw [← selV_other (setV L n v) n o hno, set_drop, selV_other L n o hno]

set_option maxHeartbeats 1000000 in
theorem named_any (a b o : ByteArray) (w : World) (ha : a.size ≤ 140737488351232) (ho : o.size ≤ 140737488351232) :
  Calls Tryz.prog 114 #[hdVal a b, .string o] w fun e w' => e = .returned (.bool (decide (low a.data.toList = low o.data.toList))) ∧ Below w.heap.size w w' := by
 obtain ⟨A, hA⟩ : ∃ x : ByteArray, x = ⟨(low a.data.toList).toArray⟩ := ⟨_, rfl⟩
 obtain ⟨B, hB⟩ : ∃ x : ByteArray, x = ⟨(low o.data.toList).toArray⟩ := ⟨_, rfl⟩
 have HE := hid (show decide (low a.data.toList = low o.data.toList) = decide (A = B) by
  rw [hA, hB]
  rw [decide_eq_decide]
  constructor
  ·intro e; rw [e]
  ·intro e
   have := congrArg (fun x : ByteArray => x.data.toList) e
   exact this)
 have HA := hid hA
 have HB := hid hB
 clear hA hB
 unfold hdVal
 by_cases hab : A = B
 ·have HE2 := hid (show decide (low a.data.toList = low o.data.toList) = true by rw [HE.out]; simpa using hab)
  subst hab
  go_enter Tryz.func114, Tryz.ntmps114
  go_wp2_with fail
  refine (rlower_any_Ra a _ ha).mono ?_
  rintro e w1 ⟨rfl, hb1⟩
  rw [← HA.out]
  go_wp2_with fail
  refine (rlower_any_Ra o _ ho).mono ?_
  rintro e w2 ⟨rfl, hb2⟩
  rw [← HB.out]
  go_wp2
  go_ret
  exact ⟨ret_bool (by rw [HE2.out]), belowT (belowT (belowA (Below.refl _ _) _) hb1) hb2⟩
 ·have HE2 := hid (show decide (low a.data.toList = low o.data.toList) = false by rw [HE.out]; simpa using hab)
  have hne := strNe hab
  clear hab
  go_enter Tryz.func114, Tryz.ntmps114
  go_wp2_with fail
  refine (rlower_any_Ra a _ ha).mono ?_
  rintro e w1 ⟨rfl, hb1⟩
  rw [← HA.out]
  go_wp2_with fail
  refine (rlower_any_Ra o _ ho).mono ?_
  rintro e w2 ⟨rfl, hb2⟩
  rw [← HB.out]
  go_wp2
  go_ret
  exact ⟨ret_bool (by rw [HE2.out]), belowT (belowT (belowA (Below.refl _ _) _) hb1) hb2⟩

end Go.Proofs.YtpopljcmkbchcaaGreatDoor

namespace Go.Proofs.YtpopljcmkbchcaaGreatDoor
open Go.RowKit

def endT (c : Int) : Bool := c == 9 || c == 32

theorem dropWhile_left (p : UInt8 → Bool) (A X : List UInt8) (h : A.all p = true) : (A ++ X).dropWhile p = X.dropWhile p := by
 induction A with
 | nil => rfl
 | cons a A ih =>
  simp only [List.all_cons, Bool.and_eq_true] at h
  rw [List.cons_append, List.dropWhile_cons_of_pos h.1, ih h.2]

theorem dropWhile_stop5 (p : UInt8 → Bool) (X Y : List UInt8) (c : UInt8) (hc : p c = false) : (X ++ c :: Y).dropWhile p = X.dropWhile p ++ c :: Y := by
 induction X with
 | nil => rw [List.nil_append, List.dropWhile_cons_of_neg (by simp [hc])]; rfl
 | cons x X ih =>
  cases hx : p x with
  | true => rw [List.cons_append, List.dropWhile_cons_of_pos hx, List.dropWhile_cons_of_pos hx, ih]
  | false => rw [List.cons_append, List.dropWhile_cons_of_neg (by simp [hx]), List.dropWhile_cons_of_neg (by simp [hx])]; rfl

theorem all_split (p : UInt8 → Bool) : ∀ l : List UInt8, ¬ l.all p = true → ∃ A c r, A.all p = true ∧ p c = false ∧ l = A ++ c :: r
 | [], h => absurd rfl h
 | x :: l, h => by
  cases hx : p x with
  | false => exact ⟨[], x, l, rfl, hx, rfl⟩
  | true =>
   obtain ⟨A, c, r, h1, h2, h3⟩ := all_split p l (fun e => h (by rw [List.all_cons, hx, e]; rfl))
   exact ⟨x :: A, c, r, by rw [List.all_cons, hx, h1]; rfl, h2, by rw [h3]; rfl⟩

theorem trim_comm (p : UInt8 → Bool) (l : List UInt8) : ((l.dropWhile p).reverse.dropWhile p).reverse = (l.reverse.dropWhile p).reverse.dropWhile p := by
 by_cases h : l.all p = true
 ·have h1 : l.dropWhile p = [] := by
   have := dropWhile_left p l [] h
   simpa using this
  have h2 : l.reverse.dropWhile p = [] := by
   have := dropWhile_left p l.reverse [] (by simpa using h)
   simpa using this
  rw [h1, h2]; rfl
 ·obtain ⟨A, c, r, hA, hc, rfl⟩ := all_split p l h
  rw [dropWhile_left p A _ hA, List.dropWhile_cons_of_neg (by simp [hc])]
  rw [List.reverse_cons, List.reverse_append, List.reverse_cons, List.append_assoc, List.singleton_append]
  rw [dropWhile_stop5 p _ _ c hc, dropWhile_stop5 p _ _ c hc]
  rw [List.reverse_append, List.reverse_append, List.reverse_cons, List.reverse_cons, List.reverse_reverse]
  simp only [List.reverse_nil, List.nil_append, List.append_assoc, List.singleton_append]
  rw [dropWhile_left p A _ hA, List.dropWhile_cons_of_neg (by simp [hc])]

theorem ext_from1 (S : ByteArray) (h : 0 < S.size) : S.data.toList = S[0] :: (S.extract 1 S.size).data.toList := by
 have := drop_cons S 0 h
 rw [List.drop_zero] at this
 rw [this, extract_drop]

theorem ext_to1 (S : ByteArray) (h : 0 < S.size) : S.data.toList = (S.extract 0 (S.size - 1)).data.toList ++ [S[S.size - 1]'(by omega)] := by
 have h2 : S.data.toList.drop (S.size - 1) = [S[S.size - 1]'(by omega)] := by
  have h3 := drop_cons S (S.size - 1) (by omega)
  have h4 : S.data.toList.drop (S.size - 1 + 1) = [] := List.drop_eq_nil_of_le (by simp; omega)
  rw [h4] at h3
  exact h3
 rw [Lib.extract_data, List.drop_zero, Nat.sub_zero, ← h2, List.take_append_drop]

end Go.Proofs.YtpopljcmkbchcaaGreatDoor

namespace Go.Proofs.YtpopljcmkbchcaaGreatDoor
open Go.RowKit

def rsetV (n V : List UInt8) : Bool → List Hd → List Hd
 | _, [] => []
 | d, h :: r => if isN n h then (if d then rsetV n V d r else ⟨h.name, V⟩ :: rsetV n V true r) else h :: rsetV n V d r

def RsInv (L : List Hd) (n V : List UInt8) (k : Nat) (out : List Hd) (d : Bool) : Prop := out ++ rsetV n V d (L.drop k) = rsetV n V false L ∧ d = (L.take k).any (isN n) ∧ out.length ≤ k

theorem RsInv.skip {L : List Hd} {n V : List UInt8} {k : Nat} {out : List Hd} {d : Bool} (h : RsInv L n V k out d) (hk : k < L.length) (hn : isN n L[k] = false) : RsInv L n V (k + 1) (out ++ [L[k]]) d := by
 obtain ⟨h1, h2, h3⟩ := h
 refine ⟨?_, ?_, by simp; omega⟩
 ·rw [← h1, ← List.getElem_cons_drop hk, rsetV, if_neg (by simp [hn])]; simp
 ·rw [List.take_add_one, List.getElem?_eq_getElem hk, h2, List.any_append]; simp [hn]

theorem RsInv.place {L : List Hd} {n V : List UInt8} {k : Nat} {out : List Hd} (h : RsInv L n V k out false) (hk : k < L.length) (hn : isN n L[k] = true) : RsInv L n V (k + 1) (out ++ [⟨L[k].name, V⟩]) true := by
 obtain ⟨h1, h2, h3⟩ := h
 refine ⟨?_, ?_, by simp; omega⟩
 ·rw [← h1, ← List.getElem_cons_drop hk, rsetV, if_pos hn, if_neg (by simp)]; simp
 ·rw [List.take_add_one, List.getElem?_eq_getElem hk, List.any_append]; simp [hn]

theorem RsInv.pass {L : List Hd} {n V : List UInt8} {k : Nat} {out : List Hd} (h : RsInv L n V k out true) (hk : k < L.length) (hn : isN n L[k] = true) : RsInv L n V (k + 1) out true := by
 obtain ⟨h1, h2, h3⟩ := h
 refine ⟨?_, ?_, by omega⟩
 ·rw [← h1, ← List.getElem_cons_drop hk, rsetV, if_pos hn, if_pos rfl]
 ·rw [List.take_add_one, List.getElem?_eq_getElem hk, List.any_append]; simp [hn]

end Go.Proofs.YtpopljcmkbchcaaGreatDoor

namespace Go.Proofs.YtpopljcmkbchcaaGreatDoor
open Go.RowKit

def RowH (w : World) (g : Nat) (M : List Hd) : Prop := w.heap[g]? = some (.cells (cellsH M).toArray 45 (0, 0))

theorem RowH.at {w : World} {g : Nat} {M : List Hd} (h : RowH w g M) (hm : M.length ≤ maxLen) : HdAt w (.slice (some ⟨g, 0, none⟩) M.length M.length) M :=
 hd_of (Nat.le_refl _) hm fun j hj => by
  have := cellsH_at M j hj
  rw [Nat.zero_add, Lib.cell_of_heap h, Lib.cell_of_heap h]
  simpa using this

theorem cellsH_set : ∀ (M : List Hd) (i : Nat) (h : Hd), ((cellsH M).set (i * 2) (.string ⟨h.name.toArray⟩)).set (i * 2 + 1) (.string ⟨h.value.toArray⟩) = cellsH (M.set i h)
 | [], i, h => by simp [cellsH]
 | a :: M, 0, h => rfl
 | a :: M, i + 1, h => by
  have ih := cellsH_set M i h
  have e : cellsH (a :: M) = Value.string ⟨a.name.toArray⟩ :: Value.string ⟨a.value.toArray⟩ :: cellsH M := rfl
  have e2 : cellsH ((a :: M).set (i + 1) h) = Value.string ⟨a.name.toArray⟩ :: Value.string ⟨a.value.toArray⟩ :: cellsH (M.set i h) := rfl
  rw [e, e2, show (i + 1) * 2 = i * 2 + 1 + 1 by omega, List.set_cons_succ, List.set_cons_succ, List.set_cons_succ, List.set_cons_succ, ih]

theorem RowH.set {w : World} {g : Nat} {M : List Hd} (h : RowH w g M) (i : Nat) (a b : ByteArray) : RowH ((w.setCell ⟨g, i * 2, none⟩ (.string a)).setCell ⟨g, i * 2 + 1, none⟩ (.string b)) g (M.set i ⟨a.data.toList, b.data.toList⟩) := by
 have h1 := Lib.heap_setCell_same h (i := i * 2) (.string a)
 have h2 := Lib.heap_setCell_same h1 (i := i * 2 + 1) (.string b)
 unfold RowH
 rw [h2]
 have := cellsH_set M i ⟨a.data.toList, b.data.toList⟩
 rw [← xself a, ← xself b] at this
 rw [← this]
 simp

end Go.Proofs.YtpopljcmkbchcaaGreatDoor

namespace Go.Proofs.YtpopljcmkbchcaaGreatDoor
open Go.RowKit

def ltN (a b : List UInt8) : Bool := decide (Lib.compareBytes a b < 0)

theorem cmp_cons (x y : UInt8) (a b : List UInt8) : Lib.compareBytes (x :: a) (y :: b) = if x < y then -1 else if y < x then 1 else Lib.compareBytes a b := rfl

theorem cmp_anti : ∀ (a b : List UInt8), Lib.compareBytes a b = - Lib.compareBytes b a
 | [], [] => rfl
 | [], _ :: _ => rfl
 | _ :: _, [] => rfl
 | x :: a, y :: b => by
  rw [cmp_cons, cmp_cons]
  have := cmp_anti a b
  by_cases h1 : x < y
  ·have h2 : ¬ y < x := fun h => absurd (UInt8.lt_trans h1 h) (UInt8.lt_irrefl _)
   simp [h1, h2]
  ·by_cases h2 : y < x
   ·simp [h1, h2]
   ·simp [h1, h2, this]

theorem cmp_zero : ∀ (a b : List UInt8), Lib.compareBytes a b = 0 → a = b
 | [], [], _ => rfl
 | [], _ :: _, h => by cases h
 | _ :: _, [], h => by cases h
 | x :: a, y :: b, h => by
  rw [cmp_cons] at h
  by_cases h1 : x < y
  ·simp [h1] at h
  ·by_cases h2 : y < x
   ·simp [h1, h2] at h
   ·simp [h1, h2] at h
    have : x = y := by
     apply UInt8.toNat_inj.1
     rw [UInt8.lt_iff_toNat_lt] at h1 h2
     omega
    rw [this, cmp_zero a b h]

theorem cmp_self : ∀ a : List UInt8, Lib.compareBytes a a = 0
 | [] => rfl
 | x :: a => by rw [cmp_cons, if_neg (UInt8.lt_irrefl _), if_neg (UInt8.lt_irrefl _)]; exact cmp_self a

theorem cmp_trans : ∀ (a b c : List UInt8), Lib.compareBytes a b < 0 → Lib.compareBytes b c < 0 → Lib.compareBytes a c < 0
 | [], _, [], _, h2 => by
  rename_i b h1
  cases b with
  | nil => simp [Lib.compareBytes] at h1
  | cons y b => simp [Lib.compareBytes] at h2
 | [], _, _ :: _, _, _ => by simp [Lib.compareBytes]
 | x :: a, [], _, h1, _ => by simp [Lib.compareBytes] at h1
 | x :: a, y :: b, [], _, h2 => by simp [Lib.compareBytes] at h2
 | x :: a, y :: b, z :: c, h1, h2 => by
  rw [cmp_cons] at h1 h2 ⊢
  simp only [UInt8.lt_iff_toNat_lt] at h1 h2 ⊢
  have ih := cmp_trans a b c
  split at h1
  ·split at h2
   ·rw [if_pos (by omega)]; decide
   ·split at h2
    ·omega
    ·rw [if_pos (by omega)]; decide
  ·split at h1
   ·omega
   ·split at h2
    ·rw [if_pos (by omega)]; decide
    ·split at h2
     ·omega
     ·rw [if_neg (by omega), if_neg (by omega)]; exact ih h1 h2

theorem ltN_irrefl (a : List UInt8) : ltN a a = false := by unfold ltN; rw [cmp_self]; rfl

theorem ltN_trans {a b c : List UInt8} (h1 : ltN a b = true) (h2 : ltN b c = true) : ltN a c = true := by
 unfold ltN at *; simp at *; exact cmp_trans a b c h1 h2

theorem ltN_asymm {a b : List UInt8} (h : ltN a b = true) : ltN b a = false := by
 cases h2 : ltN b a with
 | false => rfl
 | true => have := ltN_trans h h2; rw [ltN_irrefl] at this; cases this

theorem ltN_total (a b : List UInt8) : ltN a b = true ∨ a = b ∨ ltN b a = true := by
 have h := cmp_anti a b
 rcases Int.lt_trichotomy (Lib.compareBytes a b) 0 with h1 | h1 | h1
 ·left; unfold ltN; simpa using h1
 ·right; left; exact cmp_zero a b h1
 ·right; right; unfold ltN; simp; omega

theorem leN_trans {a b c : List UInt8} (h1 : ltN b a = false) (h2 : ltN c b = false) : ltN c a = false := by
 cases h3 : ltN c a with
 | false => rfl
 | true =>
  rcases ltN_total a b with h | h | h
  ·have := ltN_trans h3 h; rw [h2] at this; cases this
  ·subst h; rw [h3] at h2; cases h2
  ·rw [h1] at h; cases h

def nmAt (M : List Hd) (i : Nat) : List UInt8 := (M.getD i ⟨[], []⟩).name

def Srt (M : List Hd) (b : Nat) : Prop := ∀ p q, p < q → q < b → ltN (nmAt M q) (nmAt M p) = false

def Stab (M0 M : List Hd) : Prop := ∀ x : List UInt8, M.filter (fun h => h.name == x) = M0.filter (fun h => h.name == x)

theorem Stab.refl (M : List Hd) : Stab M M := fun _ => rfl

theorem Stab.trans {A B C : List Hd} (h1 : Stab A B) (h2 : Stab B C) : Stab A C := fun x => (h2 x).trans (h1 x)

def Ins (M : List Hd) (i j : Nat) : Prop := j ≤ i ∧ (∀ p q, p < q → q ≤ i → p ≠ j → q ≠ j → ltN (nmAt M q) (nmAt M p) = false) ∧ (∀ q, j < q → q ≤ i → ltN (nmAt M q) (nmAt M j) = false)

theorem Ins.start {M : List Hd} {i : Nat} (h : Srt M i) : Ins M i i := ⟨Nat.le_refl _, fun p q h1 h2 _ h4 => h p q h1 (by omega), fun q h1 h2 => by omega⟩

theorem Ins.done {M : List Hd} {i j : Nat} (h : Ins M i j) (hd : j = 0 ∨ ltN (nmAt M j) (nmAt M (j - 1)) = false) : Srt M (i + 1) := by
 obtain ⟨h1, h2, h3⟩ := h
 intro p q hpq hq
 by_cases e1 : p = j
 ·subst e1; exact h3 q hpq (by omega)
 ·by_cases e2 : q = j
  ·subst e2
   rcases hd with hd | hd
   ·omega
   ·by_cases e3 : p = q - 1
    ·subst e3; exact hd
    ·exact leN_trans (h2 p (q - 1) (by omega) (by omega) e1 (by omega)) hd
  ·exact h2 p q hpq (by omega) e1 e2

end Go.Proofs.YtpopljcmkbchcaaGreatDoor

namespace Go.Proofs.YtpopljcmkbchcaaGreatDoor
open Go.RowKit

theorem RowH.cells {w : World} {g : Nat} {M : List Hd} (h : RowH w g M) (i : Nat) (hi : i < M.length) : w.cell? ⟨g, i * 2, none⟩ = some (.string ⟨(M.getD i ⟨[], []⟩).name.toArray⟩) ∧ w.cell? ⟨g, i * 2 + 1, none⟩ = some (.string ⟨(M.getD i ⟨[], []⟩).value.toArray⟩) := by
 have e : M.getD i ⟨[], []⟩ = M[i] := by simp [List.getD, hi]
 have := cellsH_at M i hi
 rw [e, Lib.cell_of_heap h, Lib.cell_of_heap h]
 simpa using this

theorem RowH.kept {w w' : World} {g : Nat} {M : List Hd} (h : RowH w g M) (hb : Below w.heap.size w w') : RowH w' g M :=
 (hb.block g (Array.getElem?_eq_some_iff.1 h).1).trans h

theorem RowH.lt {w : World} {g : Nat} {M : List Hd} (h : RowH w g M) : g < w.heap.size := (Array.getElem?_eq_some_iff.1 h).1

end Go.Proofs.YtpopljcmkbchcaaGreatDoor

namespace Go.Proofs.YtpopljcmkbchcaaGreatDoor
open Go.RowKit

def lowHd (h : Hd) : Hd := ⟨low h.name, h.value⟩

def lowH (L : List Hd) : List Hd := L.map lowHd

end Go.Proofs.YtpopljcmkbchcaaGreatDoor

namespace Go.Proofs.YtpopljcmkbchcaaGreatDoor
open Go.RowKit

def scN : List UInt8 := [115, 101, 116, 45, 99, 111, 111, 107, 105, 101]

def Tog (M : List Hd) (k : Nat) : Prop := 1 ≤ k ∧ k ≤ M.length ∧ (∀ j, j < k → nmAt M j = nmAt M 0) ∧ (k = 1 ∨ nmAt M 0 ≠ scN) ∧ (k = M.length ∨ nmAt M k ≠ nmAt M 0 ∨ nmAt M 0 = scN)

end Go.Proofs.YtpopljcmkbchcaaGreatDoor

namespace Go.Proofs.YtpopljcmkbchcaaGreatDoor
open Go.RowKit

inductive Bld : List Hd → List Hd → Prop
 | nil : Bld [] []
 | step {R O : List Hd} (k : Nat) (h : Tog R k) (hO : Bld (R.drop k) O) : Bld R (⟨nmAt R 0, getT (R.take k) (nmAt R 0)⟩ :: O)

def SortsTo (L O : List Hd) : Prop := ∃ M, M.length = L.length ∧ Stab (lowH L) M ∧ Srt M M.length ∧ Bld M O

theorem Stab.mem {A B : List Hd} (h : Stab A B) {x : Hd} (hx : x ∈ B) : x ∈ A := by
 have : x ∈ B.filter (fun y => y.name == x.name) := List.mem_filter.2 ⟨hx, by simp⟩
 rw [h] at this
 exact (List.mem_filter.1 this).1

end Go.Proofs.YtpopljcmkbchcaaGreatDoor
