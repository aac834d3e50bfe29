/-
  Walks and plain facts that this claim leans on, put together out of 6 texts: Zc, Ra, Zd, Zf, Zg, Zh.
-/
import Derived.Test.YtgoefeaopegdoaaGreatDoorProg
import Derived.Test.YtgoefeaopegdoaaGreatDoorQh1
import Derived.Test.YtgoefeaopegdoaaGreatDoorQh2
import Derived.Test.YtgoefeaopegdoaaGreatDoorQh3
import Derived.Test.YtgoefeaopegdoaaGreatDoorQh4
import Derived.WalkKit
import Derived.Lib.Strings
import Derived.Lib.UnsafeStr
import Derived.Laws.IdiomStrings
import Derived.Laws.AppendOwn
import Derived.Laws.BitsAllLaws
import Derived.Lib.Bytealg
import Derived.Lib.BufferMore
import Derived.Shelf.Strings.Builder1
import Derived.Shelf.Strings.Builder2
import Derived.Shelf.Strings.OnBuilder
import Derived.Shelf.Strings.Trim
import Derived.Shelf.Small.Utf8
import Derived.Shelf.Small.Bits
import Derived.Shelf.Small.Strs
import Derived.Shelf.Small.Wraps
import Derived.Shelf.Strings.BuilderF
import Derived.Shelf.Strings.BuilderK
import Derived.Shelf.Strings.BuilderRune
import Derived.Shelf.Utf8.AppendRune
import Derived.Shelf.Utf8.AppendRunePlain
import Derived.Shelf.Strings.Builder2Cap
import Derived.Shelf.Strconv.Itoa0
import Derived.Shelf.Strconv.Itoa1
import Derived.Shelf.LaysM
import Derived.Shelf.Strconv.Itoa2
import Derived.Shelf.Strconv.Itoa3
import Derived.Shelf.Strings.Search1
import Derived.Shelf.Strings.Search2
import Derived.Shelf.Strings.Search3
import Derived.Shelf.Strings.Cut
import Derived.Shelf.Strings.Count
import Derived.Shelf.Strings.Shaped
import Derived.Shelf.Strings.LastIndex
import Derived.Shelf.Strings.Prefix
import Derived.Shelf.Strings.Split
import Derived.Shelf.Strings.Replace
import Derived.Shelf.Strings.Runes
import Derived.Shelf.Strings.IndexAny
import Derived.Shelf.Strings.AsciiSet
import Derived.Shelf.Strings.IndexAnyAll
import Derived.Shelf.Unicode.DecodeSlow
import Derived.Ground.Names2Prog
import Derived.Shelf.Slices.Clone
import Derived.Shelf.Slices.In.SortNone
import Derived.Ground.SlgnProg
import Derived.Shelf.SlicesE.Clone
import Derived.WalkSpells
import Derived.WalkLawsBesides
import Derived.Lib.SlTrimSet
import Derived.Lib.Join
import Derived.Lib.IndexMore
import Derived.Laws.OwnMore
import Derived.Below
import Derived.WalkSmall
import Derived.Lib.SmallJoins
import Derived.Deep.QuietTactic
import Derived.BigQuiet
import Derived.Deep.LoopGhost
import Derived.Deep.MidRow
import Derived.Shelf.Strings.SlTrimAscii
import Derived.Deep.CutRange
import Derived.Laws.Rows
import Derived.Laws.CopyOwn
import Derived.Laws.MakeOwn
import Derived.Laws.RangeAny
import Derived.Lib.DecodeN
import Derived.Lib.OthersKept
import Derived.RegionTactic
import Derived.Deep.RegionWith
import Derived.Laws.Runes
import Derived.Deep.WholeRow
import Derived.Deep.RegionLaw
import Derived.Deep.RegionHeldLaw
import Derived.LoopN
import Derived.Laws.AppendOwnNone
set_option linter.unusedSimpArgs false
set_option linter.unusedVariables false

namespace Go.Proofs.YtgoefeaopegdoaaGreatDoor
open Go.RowKit

def fewHd (m : Nat) (h : Hd) : Hd := ⟨h.name.take m, h.value.take m⟩

def fewH (L : List Hd) (n m : Nat) : List Hd := (L.take n).map (fewHd m)

theorem fewH_len (L : List Hd) (n m : Nat) : (fewH L n m).length ≤ n := by simp [fewH]; omega

theorem fewH_szd (L : List Hd) (n m : Nat) : Szd m (fewH L n m) := fun h hh => by
 unfold fewH at hh
 obtain ⟨a, _, rfl⟩ := List.mem_map.1 hh
 simp [fewHd]; omega

theorem Szd.mono {a b : Nat} {L : List Hd} (h : Szd a L) (hab : a ≤ b) : Szd b L := fun x hx => ⟨Nat.le_trans (h x hx).1 hab, Nat.le_trans (h x hx).2 hab⟩

theorem Szd.bulk {a : Nat} {L : List Hd} (h : Szd a L) : bulkV L ≤ (a + 2) * L.length := by
 unfold bulkV
 induction L with
 | nil => simp
 | cons x L ih =>
  have h1 := (h x (by simp)).2
  have := ih (fun y hy => h y (by simp [hy]))
  simp only [List.map_cons, List.sum_cons, List.length_cons]
  rw [Nat.mul_add]
  omega

set_option maxHeartbeats 2000000 in
set_option maxRecDepth 100000 in
theorem fewHeaders_any (v : Value) (L : List Hd) (n m : Nat) (w : World) (h : HdAt w v L) (hz : Szd maxLen L) (hn : n ≤ 1000) (hm : m ≤ 1000) :
  Calls Tryz.prog 38 #[v, .int .i64 n, .int .i64 m] w (HdPost (fewH L n m) w) := by
 obtain ⟨i0, hi, hz0, hz1, hz2⟩ := info3 infoHd
 obtain ⟨a1, c1, rfl, hc1, hm1, hv1⟩ := h.view
 have V1 := hid hv1
 have HZ := hid hz
 clear h hv1 hz
 go_enter Tryz.func38, Tryz.ntmps38
 go_wp2
 go_loopw [7, 8] (fun vv i wr => ∃ k : Nat, k ≤ L.length ∧ k ≤ n ∧ i = .int .i64 k ∧ wr.ownsRow w.heap.size 38 2 vv k (cellsH (fewH L k m)) ∧ Below w.heap.size w wr)
  (fun _ i _ => L.length - (intOf i).toNat)
 case atStart => exact ⟨0, Nat.zero_le _, Nat.zero_le _, rfl, World.ownsRow_nil _ _ _ _, Below.refl _ _⟩
 case round =>
  obtain ⟨k, hk, hkn, rfl, hown, hbw⟩ := hrel
  have HO := hid hown
  have hwr := hbw.size
  clear hown
  by_cases hlt : k < L.length
  ·have hlt' : (k : Int) < (L.length : Int) := by omega
   by_cases hltn : k < n
   ·have hltn' : (k : Int) < (n : Int) := by omega
    obtain ⟨b1, o1, rfl, e1, e2⟩ := V1.out k hlt
    have f1 : wr.cell? ⟨b1, o1 + k * 2, none⟩ = some (.string ⟨L[k].name.toArray⟩) := (hbw.cell (World.block_lt_of_cell? w _ e1)).trans e1
    have f2 : wr.cell? ⟨b1, o1 + k * 2 + 1, none⟩ = some (.string ⟨L[k].value.toArray⟩) := (hbw.cell (World.block_lt_of_cell? w _ e2)).trans e2
    obtain ⟨nm, hnm⟩ : ∃ x : ByteArray, x = ⟨L[k].name.toArray⟩ := ⟨_, rfl⟩
    obtain ⟨vl, hvl⟩ : ∃ x : ByteArray, x = ⟨L[k].value.toArray⟩ := ⟨_, rfl⟩
    rw [← hnm] at f1 e1
    rw [← hvl] at f2 e2
    have hs1 : nm.size ≤ 9223372036854775807 := by rw [hnm, xsize]; exact (HZ.out _ (List.getElem_mem hlt)).1
    have hs2 : vl.size ≤ 9223372036854775807 := by rw [hvl, xsize]; exact (HZ.out _ (List.getElem_mem hlt)).2
    obtain ⟨nm', hnm'⟩ : ∃ x : ByteArray, x = ⟨(nm.data.toList.take m).toArray⟩ := ⟨_, rfl⟩
    obtain ⟨vl', hvl'⟩ : ∃ x : ByteArray, x = ⟨(vl.data.toList.take m).toArray⟩ := ⟨_, rfl⟩
    have HF1 := hid hnm'
    have HF2 := hid hvl'
    have HS := hid (show cellsH (fewH L (k + 1) m) = cellsH (fewH L k m) ++ [.string nm', .string vl'] by
     unfold fewH
     rw [List.take_add_one, List.getElem?_eq_getElem hlt, List.map_append, cellsH_app]
     congr 1
     rw [hnm', hvl', hnm, hvl]; rfl)
    have hblk2 : b1 < w.heap.size := World.block_lt_of_cell? w _ e1
    have HK := hid (fun (X : World) (hX : Below w.heap.size w X) => (⟨hX, (hX.cell hblk2).trans e1, (hX.cell hblk2).trans e2⟩ : Below w.heap.size w X ∧ X.cell? ⟨b1, o1 + k * 2, none⟩ = some (.string nm) ∧ X.cell? ⟨b1, o1 + k * 2 + 1, none⟩ = some (.string vl)))
    have hbD : Below w.heap.size w wr.drew := hbw.drew
    clear e1 e2 hblk2
    clear hnm hvl hnm' hvl'
    go_wp2
    go_region_held_law (fun wx => Below w.heap.size w wx ∧ wx.cell? ⟨b1, o1 + k * 2, none⟩ = some (.string nm) ∧ wx.cell? ⟨b1, o1 + k * 2 + 1, none⟩ = some (.string vl))
     (first | exact HK.out _ hbD | exact HK.out _ (by assumption) | (go_split_ands; exact HK.out _ (by assumption)) | (go_split_ands; exact HK.out _ (belowA (by assumption) _)))
     (first
      | (go_at_call 28; refine (xfew_any _ m _ (by omega) (by assumption)).mono ?_; rintro e w' ⟨rfl, rfl⟩; first | rw [← HF1.out] | rw [← HF2.out])
      | (refine xstep_append_own rfl (.tmp 20) (.tmp 36) 25 rfl w.heap.size 38 i0 _ 2 32 Tryz.underlying25 hi hz0 hz1 hz2 rfl (by decide) u7 k (cellsH (fewH L k m)) rfl (by exact HO.out.alloc _) ⟨wr.heap.size, 0, none⟩ 1 1 [.string nm', .string vl'] rfl rfl (by intro j u hj; match j, hj with | 0, hj => (simp at hj; subst hj; simp [Addr.add]) | 1, hj => (simp at hj; subst hj; simp [Addr.add])) (by intro u hu; simp at hu; rcases hu with rfl | rfl <;> rfl) (by unfold maxLen; omega) (by omega) (by simp; omega) ?_; intro v6 w6 hown6 hgrow6 hnil6; have hbW6 : Below w.heap.size w w6 := (belowA hbD _).grown hgrow6 (by simp; omega) (fun g hg => (HO.out.lt g hg).1)))
    all_goals
     (try dsimp only at *)
     go_wp2
     go_roundw
     case rel =>
      refine ⟨k + 1, by omega, by omega, by go_num, ?_, hbW6⟩
      rw [HS.out]
      first | exact hown6 | simpa using hown6
     case measure => simp [intOf]; omega
   ·have hltn' : decide ((k : Int) < (n : Int)) = false := by rw [decide_eq_false_iff_not]; omega
    have hke : k = n := by omega
    subst hke
    have hlen : (fewH L k m).length = k := by simp [fewH]; omega
    have HR := hid (show wr.ownsRow w.heap.size 38 2 u7 (fewH L k m).length (cellsH (fewH L k m)) by rw [hlen]; exact HO.out)
    clear hlen
    go_wp2
    go_ret
    exact ⟨_, rfl, HR.out, hbw⟩
  ·have hke : k = L.length := by omega
   subst hke
   have hlt' : decide ((L.length : Int) < (L.length : Int)) = false := by rw [decide_eq_false_iff_not]; omega
   have hef : fewH L L.length m = fewH L n m := by
    unfold fewH
    rw [List.take_length, List.take_of_length_le hkn]
   have hlen : (fewH L n m).length = L.length := by rw [← hef]; simp [fewH]
   have HR := hid (show wr.ownsRow w.heap.size 38 2 u7 (fewH L n m).length (cellsH (fewH L n m)) by rw [hlen, ← hef]; exact HO.out)
   clear hlen hef
   go_wp2
   go_ret
   exact ⟨_, rfl, HR.out, hbw⟩

end Go.Proofs.YtgoefeaopegdoaaGreatDoor

namespace Go.Proofs.YtgoefeaopegdoaaGreatDoor
open Go.RowKit

set_option maxHeartbeats 400000 in
theorem rblank_any (c : Int) (w : World) :
  Calls Tryz.prog 162 #[.int .u8 c] w fun e w' => e = .returned (.bool (blankI c)) ∧ w = w' := by
 go_enter Tryz.func162, Tryz.ntmps162
 go_wp2
 all_goals
  go_ret
  exact ⟨ret_bool (by simp [blankI, Bool.or_assoc, *]), rfl⟩

set_option maxHeartbeats 400000 in
theorem rdigit_any (c : Int) (w : World) :
  Calls Tryz.prog 138 #[.int .u8 c] w fun e w' => e = .returned (.bool (digitI c)) ∧ w = w' := by
 go_enter Tryz.func138, Tryz.ntmps138
 go_wp2
 all_goals
  go_ret
  exact ⟨ret_bool (by rw [Bool.eq_iff_iff]; simp [digitI]; omega), rfl⟩

set_option maxHeartbeats 400000 in
theorem rletter_any (c : Int) (w : World) :
  Calls Tryz.prog 137 #[.int .u8 c] w fun e w' => e = .returned (.bool (letterI c)) ∧ w = w' := by
 go_enter Tryz.func137, Tryz.ntmps137
 go_wp2
 all_goals
  go_ret
  exact ⟨ret_bool (by rw [Bool.eq_iff_iff]; simp [letterI]; omega), rfl⟩

set_option maxHeartbeats 1000000 in
theorem rlower_any (s : ByteArray) (w : World) (hs : s.size ≤ 140737488351232) :
  Calls Tryz.prog 102 #[.string s] w fun e w' => e = .returned (.string ⟨(low s.data.toList).toArray⟩) ∧ Below w.heap.size w w' := by
 have hcv := run_bytes_of_string (P := Tryz.prog) w 9 113 5 s Tryz.underlying9 Tryz.underlying113 Tryz.underlying5
 have hcap := grownCap_ge w s.size 0 5
 have hr0 := rowIs_bytes w 5 s (grownCap w s.size 0 5) hcap
 have hb0 : Below w.heap.size w (w.drew.alloc (.cells (bytesRow s (grownCap w s.size 0 5)) 5 ((bytesRow s (grownCap w s.size 0 5)).size, (bytesRow s (grownCap w s.size 0 5)).size + 1))) := (Below.refl _ w).drew.alloc (Nat.le_refl _) _
 generalize (w.drew.alloc (.cells (bytesRow s (grownCap w s.size 0 5)) 5 ((bytesRow s (grownCap w s.size 0 5)).size, (bytesRow s (grownCap w s.size 0 5)).size + 1))) = w0 at hcv hr0 hb0
 generalize grownCap w s.size 0 5 = cap at hcv hcap
 go_enter Tryz.func102, Tryz.ntmps102
 go_wp2
 clear hcv
 go_loopw [4] (fun i wr => ∃ k : Nat, k ≤ s.size ∧ i = .int .i64 k ∧ rowIs wr w.heap.size 5 (lowTo s.data.toList k) ∧ Below w.heap.size w wr)
  (fun i _ => s.size - (intOf i).toNat)
 case atStart => exact ⟨0, Nat.zero_le _, rfl, by rw [lowTo_zero]; exact hr0, hb0⟩
 case round =>
  obtain ⟨k, hk, rfl, hr, hbw⟩ := hrel
  by_cases hlt : k < s.size
  ·have hl : k < s.data.toList.length := by simpa using hlt
   have hl' : k < (lowTo s.data.toList k).length := by rw [lowTo_length]; exact hl
   have hc := hr.cell k hl'
   rw [lowTo_at _ _ hl] at hc
   have hf := hr.frozen k hl'
   have hsucc := lowTo_succ s.data.toList k hl
   have hat := lowTo_at s.data.toList k hl hl'
   generalize s.data.toList[k] = c at hc hsucc hat
   have HS := hid hsucc
   have HAt := hid hat
   clear hsucc hat
   have hc8 : c.toNat < 256 := c.toNat_lt
   by_cases hu : 65 ≤ c.toNat ∧ c.toNat ≤ 90
   ·have h1 : (65 : Int) ≤ (c.toNat : Int) := by omega
    have h2 : (c.toNat : Int) ≤ 90 := by omega
    have HL := hid (lowC_yes c hu)
    clear hu
    go_wp2
    go_roundw
    case rel =>
     refine ⟨k + 1, by omega, by go_num, ?_, hbw.setCell (p := ⟨w.heap.size, k, none⟩) (Nat.le_refl _) _⟩
     rw [HS.out, ← HL.out]
     exact hr.set k _
    case measure => simp [intOf]; omega
   ·have HL := hid (lowC_no c hu)
    have hu' : (c.toNat : Int) < 65 ∨ 90 < (c.toNat : Int) := by omega
    clear hu
    rcases hu' with h1 | h1
    all_goals
     go_wp2
     go_roundw
     case rel =>
      refine ⟨k + 1, by omega, by go_num, ?_, hbw⟩
      have e : lowC c = (lowTo s.data.toList k)[k] := by rw [HL.out, HAt.out]
      rw [HS.out, e, List.set_getElem_self]
      exact hr
     case measure => simp [intOf]; omega
  ·have hk' : k = s.data.toList.length := by simp; omega
   have hr' : rowIs wr w.heap.size 5 (low s.data.toList) := by rw [← lowTo_all, ← hk']; exact hr
   clear hr hk'
   have hcv := hr'.string (P := Tryz.prog) (src := 113) (dst := 9) (cap := cap) Tryz.underlying113 Tryz.underlying5 Tryz.underlying9
   rw [show (low s.data.toList).length = s.size by simp [low]] at hcv
   go_wp2
   go_ret
   exact ⟨rfl, hbw⟩

set_option maxHeartbeats 1000000 in
theorem rint_any (s : ByteArray) (w : World) (hs : s.size ≤ 140737488351232) :
  Calls Tryz.prog 97 #[.string s] w fun e w' => e = .returned (.tuple #[.int .i64 (intV s.data.toList), .bool (intOk s.data.toList)]) ∧ w = w' := by
 go_enter Tryz.func97, Tryz.ntmps97
 go_wp2
 go_loop [4, 5] (fun n i => ∃ k : Nat, k ≤ s.size ∧ i = .int .i64 k ∧ (s.data.toList.take k).all digP = true ∧ n = .int .i64 (numI (s.data.toList.take k))) (fun _ i => s.size - (intOf i).toNat)
 case atStart => exact ⟨0, Nat.zero_le _, rfl, rfl, rfl⟩
 case round =>
  obtain ⟨k, hk, rfl, hall, rfl⟩ := hrel
  have hr := numI_range _ hall
  have HA := hid hall
  clear hall
  by_cases hlt : k < s.size
  ·have HT := hid (take_snoc s k hlt)
   have HN := hid (numI_snoc (s.data.toList.take k) s[k])
   generalize numI (s.data.toList.take k) = n at *
   obtain ⟨hr1, hr2⟩ := hr
   by_cases hd : digitI (s[k].toNat : Int) = true
   ·have hd2 : 48 ≤ (s[k].toNat : Int) ∧ (s[k].toNat : Int) ≤ 57 := by simp [digitI] at hd; omega
    obtain ⟨hd3, hd4⟩ := hd2
    by_cases hbig : (9223372036854775807 - ((s[k].toNat : Int) - 48)) / 10 < n
    ·have HT2 := hid (show ten n ((s[k].toNat : Int) - 48) = 9223372036854775807 by unfold ten; rw [if_pos hbig])
     go_wp2_with (go_at_call 138; refine (rdigit_any _ _).mono ?_; rintro e w' ⟨rfl, rfl⟩)
     go_round
     case rel => exact ⟨k + 1, by omega, by go_num, by rw [HT.out, List.all_append, HA.out]; simp [digP, hd], by rw [HT.out, HN.out, HT2.out]⟩
     case measure => simp [intOf]; omega
    ·have HT2 := hid (show ten n ((s[k].toNat : Int) - 48) = n * 10 + ((s[k].toNat : Int) - 48) by unfold ten; rw [if_neg hbig])
     have hbig' : n ≤ (9223372036854775807 - ((s[k].toNat : Int) - 48)) / 10 := by omega
     clear hbig
     go_wp2_with (go_at_call 138; refine (rdigit_any _ _).mono ?_; rintro e w' ⟨rfl, rfl⟩)
     go_round
     case rel => exact ⟨k + 1, by omega, by go_num, by rw [HT.out, List.all_append, HA.out]; simp [digP, hd], by rw [HT.out, HN.out, HT2.out]⟩
     case measure => simp [intOf]; omega
   ·have hd' : digitI (s[k].toNat : Int) = false := by simpa using hd
    clear hd
    go_wp2_with (go_at_call 138; refine (rdigit_any _ _).mono ?_; rintro e w' ⟨rfl, rfl⟩)
    go_ret2
    have : s.data.toList.all digP = false := by
     rw [List.all_eq_false]
     refine ⟨s[k], ?_, by simp [digP, hd']⟩
     have : s[k] = s.data.toList[k]'(by simpa using hlt) := rfl
     rw [this]; exact List.getElem_mem _
    exact ⟨ret_ib (by simp [intV, this]) (by simp [intOk, this]), rfl⟩
  ·have ha := HA.out
   rw [take_all s k hlt] at ha ⊢
   have ha' := hid ha
   clear ha
   by_cases h0 : s.size = 0
   ·have hl : s.data.toList = [] := List.eq_nil_of_length_eq_zero (by simpa using h0)
    have HL := hid hl
    clear hl
    go_wp2
    go_ret2
    exact ⟨ret_ib (by rw [HL.out]; rfl) (by rw [HL.out]; simp [intOk]), rfl⟩
   ·have hl : s.data.toList.isEmpty = false := by
     rw [List.isEmpty_eq_false_iff]
     intro h
     apply h0
     have := congrArg List.length h
     simpa using this
    have HL := hid hl
    clear hl
    have h0' : (0 : Int) < (s.size : Int) := by omega
    go_wp2
    go_ret2
    exact ⟨ret_ib (by simp [intV, ha'.out, HL.out]) (by simp [intOk, ha'.out, HL.out]; try omega), rfl⟩

def strN : Value → Nat
 | .string s => s.size
 | _ => 0

theorem extract_one (t : ByteArray) (h : 0 < t.size) : t.data.toList = t[0] :: (t.extract 1 t.size).data.toList := by
 rw [extract_drop]
 have := drop_cons t 0 h
 simpa using this

theorem extract_last (u : ByteArray) (h : u.size - 1 < u.size) : u.data.toList = (u.extract 0 (u.size - 1)).data.toList ++ [u[u.size - 1]] := by
 rw [Lib.extract_data]
 have := take_snoc u (u.size - 1) h
 rw [take_all u (u.size - 1 + 1) (by omega)] at this
 simpa using this

theorem strip_ref (s A M B : List UInt8) (e : s = A ++ M ++ B) (hA : A.all blC = true) (hB : B.all blC = true) (h : M = [] ∨ (∃ c r, M = c :: r ∧ blC c = false) ∧ ∃ r c, M = r ++ [c] ∧ blC c = false) : M = strip s := by
 rw [e, strip_parts A M B hA hB h]

set_option maxHeartbeats 1000000 in
theorem rstrip_any (s : ByteArray) (w : World) (hs : s.size ≤ 140737488351232) :
  Calls Tryz.prog 111 #[.string s] w fun e w' => e = .returned (.string ⟨(strip s.data.toList).toArray⟩) ∧ w = w' := by
 go_enter Tryz.func111, Tryz.ntmps111
 go_wp2
 go_loop [0] (fun ts => ∃ (t : ByteArray) (A : List UInt8), ts = .string t ∧ s.data.toList = A ++ t.data.toList ∧ A.all blC = true ∧ t.size ≤ s.size) (fun ts => strN ts)
 case atStart => exact ⟨s, [], rfl, rfl, rfl, Nat.le_refl _⟩
 case round =>
  obtain ⟨t, A, rfl, hsA, hA, hts⟩ := hrel
  have HS := hid hsA
  have HA := hid hA
  clear hsA hA
  by_cases hgo : ∃ h : 0 < t.size, blankI (t[0].toNat : Int) = true
  ·obtain ⟨h0, hbl⟩ := hgo
   have h0' : (0 : Int) < (t.size : Int) := by omega
   have HE := hid (extract_one t h0)
   go_wp2_with (go_at_call 162; refine (rblank_any _ _).mono ?_; rintro e w' ⟨rfl, rfl⟩)
   go_round
   case rel =>
    refine ⟨_, A ++ [t[0]], rfl, ?_, ?_, ?_⟩
    ·rw [HS.out, HE.out]; simp
    ·rw [List.all_append, HA.out]; simp [blC, hbl]
    ·simp; omega
   case measure => simp [strN]; omega
  ·have hx : t.size = 0 ∨ ∃ h : 0 < t.size, blankI (t[0].toNat : Int) = false := by
    by_cases h0 : 0 < t.size
    ·right
     refine ⟨h0, ?_⟩
     have := fun h => hgo ⟨h0, h⟩
     simpa using this
    ·left; omega
   clear hgo
   rcases hx with h0 | ⟨h0, hbl⟩
   ·have h0' : (t.size : Int) ≤ 0 := by omega
    have hn : t.data.toList = [] := List.eq_nil_of_length_eq_zero (by simpa using h0)
    have HN := hid hn
    clear hn
    go_wp2
    refine wp_loop_rounds 1 ?_
    rw [rounds_succ]
    go_wp2
    go_ret
    refine ⟨ret_str ?_, rfl⟩
    refine strip_ref s.data.toList A _ [] (by rw [HS.out]; simp) HA.out rfl (.inl HN.out)
   ·have h0' : (0 : Int) < (t.size : Int) := by omega
    have HE := hid (extract_one t h0)
    go_wp2_with (go_at_call 162; refine (rblank_any _ _).mono ?_; rintro e w' ⟨rfl, rfl⟩)
    go_loop [0] (fun us => ∃ (u : ByteArray) (B : List UInt8), us = .string u ∧ t.data.toList = u.data.toList ++ B ∧ B.all blC = true ∧ u.size ≤ s.size) (fun us => strN us)
    case atStart => exact ⟨t, [], rfl, by simp, rfl, hts⟩
    case round =>
     obtain ⟨u, B, rfl, htB, hB, hus⟩ := hrel
     have HT := hid htB
     have HB := hid hB
     clear htB hB
     by_cases hu0 : u.size = 0
     ·have hu0' : (u.size : Int) ≤ 0 := by omega
      have hn : u.data.toList = [] := List.eq_nil_of_length_eq_zero (by simpa using hu0)
      have HN := hid hn
      clear hn
      go_wp2
      go_ret
      refine ⟨ret_str ?_, rfl⟩
      exact strip_ref s.data.toList A _ B (by rw [HS.out, HT.out]; simp) HA.out HB.out (.inl HN.out)
     ·have hlt : u.size - 1 < u.size := by omega
      have HL := hid (extract_last u hlt)
      have hu0' : (0 : Int) < (u.size : Int) := by omega
      by_cases hbq : blankI (u[u.size - 1].toNat : Int) = true
      ·go_wp2_with (go_at_call 162; refine (rblank_any _ _).mono ?_; rintro e w' ⟨rfl, rfl⟩)
       go_round
       case rel =>
        refine ⟨_, u[u.size - 1] :: B, rfl, ?_, ?_, ?_⟩
        ·rw [HT.out]; conv => lhs; rw [HL.out]
         simp
        ·rw [List.all_cons, HB.out]; simp [blC, hbq]
        ·simp; omega
       case measure => simp [strN]; omega
      ·have hbq' : blankI (u[u.size - 1].toNat : Int) = false := by simpa using hbq
       clear hbq
       have hfirst : ∃ c r, u.data.toList = c :: r ∧ blC c = false := by
        have h1 := HT.out
        rw [HE.out] at h1
        match hu : u.data.toList with
        | [] =>
         have h5 : u.data.toList.length = 0 := by rw [hu]; rfl
         rw [← Lib.size_eq] at h5
         omega
        | c :: r =>
         rw [hu] at h1
         have : t[0] = c := by simpa using congrArg List.head? h1
         exact ⟨c, r, rfl, by rw [← this]; exact hbl⟩
       have HF := hid hfirst
       clear hfirst
       go_wp2_with (go_at_call 162; refine (rblank_any _ _).mono ?_; rintro e w' ⟨rfl, rfl⟩)
       go_ret
       refine ⟨ret_str ?_, rfl⟩
       exact strip_ref s.data.toList A _ B (by rw [HS.out, HT.out]; simp) HA.out HB.out (.inr ⟨HF.out, _, _, HL.out, hbq'⟩)

end Go.Proofs.YtgoefeaopegdoaaGreatDoor

namespace Go.Proofs.YtgoefeaopegdoaaGreatDoor
open Go.RowKit

set_option maxHeartbeats 1000000 in
theorem named_any (a b o : ByteArray) (w : World) (ha : a.size ≤ 140737488351232) (ho : o.size ≤ 140737488351232) :
  Calls Tryz.prog 91 #[hdVal a b, .string o] w fun e w' => e = .returned (.bool (decide (low a.data.toList = low o.data.toList))) ∧ Below w.heap.size w w' := by
 obtain ⟨A, hA⟩ : ∃ x : ByteArray, x = ⟨(low a.data.toList).toArray⟩ := ⟨_, rfl⟩
 obtain ⟨B, hB⟩ : ∃ x : ByteArray, x = ⟨(low o.data.toList).toArray⟩ := ⟨_, rfl⟩
 have HE := hid (show decide (low a.data.toList = low o.data.toList) = decide (A = B) by
  rw [hA, hB]
  rw [decide_eq_decide]
  constructor
  ·intro e; rw [e]
  ·intro e
   have := congrArg (fun x : ByteArray => x.data.toList) e
   exact this)
 have HA := hid hA
 have HB := hid hB
 clear hA hB
 unfold hdVal
 by_cases hab : A = B
 ·have HE2 := hid (show decide (low a.data.toList = low o.data.toList) = true by rw [HE.out]; simpa using hab)
  subst hab
  go_enter Tryz.func91, Tryz.ntmps91
  go_wp2_with fail
  refine (rlower_any a _ ha).mono ?_
  rintro e w1 ⟨rfl, hb1⟩
  rw [← HA.out]
  go_wp2_with fail
  refine (rlower_any o _ ho).mono ?_
  rintro e w2 ⟨rfl, hb2⟩
  rw [← HB.out]
  go_wp2
  go_ret
  exact ⟨ret_bool (by rw [HE2.out]), belowT (belowT (belowA (Below.refl _ _) _) hb1) hb2⟩
 ·have HE2 := hid (show decide (low a.data.toList = low o.data.toList) = false by rw [HE.out]; simpa using hab)
  have hne := strNe hab
  clear hab
  go_enter Tryz.func91, Tryz.ntmps91
  go_wp2_with fail
  refine (rlower_any a _ ha).mono ?_
  rintro e w1 ⟨rfl, hb1⟩
  rw [← HA.out]
  go_wp2_with fail
  refine (rlower_any o _ ho).mono ?_
  rintro e w2 ⟨rfl, hb2⟩
  rw [← HB.out]
  go_wp2
  go_ret
  exact ⟨ret_bool (by rw [HE2.out]), belowT (belowT (belowA (Below.refl _ _) _) hb1) hb2⟩

end Go.Proofs.YtgoefeaopegdoaaGreatDoor

namespace Go.Proofs.YtgoefeaopegdoaaGreatDoor
open Go.RowKit

def endI (c : Int) : Bool := c == 9 || (c == 32 || (c == 10 || c == 13))

def endT (c : Int) : Bool := c == 9 || c == 32

set_option maxHeartbeats 400000 in
theorem ends_false (c : Int) (w : World) :
  Calls Tryz.prog 150 #[.int .u8 c, .bool false] w fun e w' => e = .returned (.bool (endI c)) ∧ w = w' := by
 go_enter Tryz.func150, Tryz.ntmps150
 go_wp2
 all_goals
  go_ret
  exact ⟨ret_bool (by simp [endI, *, Bool.or_assoc]), rfl⟩

theorem dropWhile_left (p : UInt8 → Bool) (A X : List UInt8) (h : A.all p = true) : (A ++ X).dropWhile p = X.dropWhile p := by
 induction A with
 | nil => rfl
 | cons a A ih =>
  simp only [List.all_cons, Bool.and_eq_true] at h
  rw [List.cons_append, List.dropWhile_cons_of_pos h.1, ih h.2]

theorem dropWhile_stop5 (p : UInt8 → Bool) (X Y : List UInt8) (c : UInt8) (hc : p c = false) : (X ++ c :: Y).dropWhile p = X.dropWhile p ++ c :: Y := by
 induction X with
 | nil => rw [List.nil_append, List.dropWhile_cons_of_neg (by simp [hc])]; rfl
 | cons x X ih =>
  cases hx : p x with
  | true => rw [List.cons_append, List.dropWhile_cons_of_pos hx, List.dropWhile_cons_of_pos hx, ih]
  | false => rw [List.cons_append, List.dropWhile_cons_of_neg (by simp [hx]), List.dropWhile_cons_of_neg (by simp [hx])]; rfl

theorem all_split (p : UInt8 → Bool) : ∀ l : List UInt8, ¬ l.all p = true → ∃ A c r, A.all p = true ∧ p c = false ∧ l = A ++ c :: r
 | [], h => absurd rfl h
 | x :: l, h => by
  cases hx : p x with
  | false => exact ⟨[], x, l, rfl, hx, rfl⟩
  | true =>
   obtain ⟨A, c, r, h1, h2, h3⟩ := all_split p l (fun e => h (by rw [List.all_cons, hx, e]; rfl))
   exact ⟨x :: A, c, r, by rw [List.all_cons, hx, h1]; rfl, h2, by rw [h3]; rfl⟩

theorem trim_comm (p : UInt8 → Bool) (l : List UInt8) : ((l.dropWhile p).reverse.dropWhile p).reverse = (l.reverse.dropWhile p).reverse.dropWhile p := by
 by_cases h : l.all p = true
 ·have h1 : l.dropWhile p = [] := by
   have := dropWhile_left p l [] h
   simpa using this
  have h2 : l.reverse.dropWhile p = [] := by
   have := dropWhile_left p l.reverse [] (by simpa using h)
   simpa using this
  rw [h1, h2]; rfl
 ·obtain ⟨A, c, r, hA, hc, rfl⟩ := all_split p l h
  rw [dropWhile_left p A _ hA, List.dropWhile_cons_of_neg (by simp [hc])]
  rw [List.reverse_cons, List.reverse_append, List.reverse_cons, List.append_assoc, List.singleton_append]
  rw [dropWhile_stop5 p _ _ c hc, dropWhile_stop5 p _ _ c hc]
  rw [List.reverse_append, List.reverse_append, List.reverse_cons, List.reverse_cons, List.reverse_reverse]
  simp only [List.reverse_nil, List.nil_append, List.append_assoc, List.singleton_append]
  rw [dropWhile_left p A _ hA, List.dropWhile_cons_of_neg (by simp [hc])]

def pE (c : UInt8) : Bool := endI c.toNat

theorem pE_contains (c : UInt8) : [(9 : UInt8), 10, 13, 32].contains c = pE c := by
 rw [Bool.eq_iff_iff]
 simp only [List.contains_eq_mem, List.mem_cons, List.not_mem_nil, or_false, decide_eq_true_eq, pE, endI, Bool.or_eq_true, beq_iff_eq]
 have e : ∀ n : Nat, n < 256 → ((c.toNat : Int) = (n : Int) ↔ c = UInt8.ofNat n) := fun n hn => by
  have := byteInt c n hn
  rw [Bool.eq_iff_iff] at this
  simpa using this
 have e9 : (c.toNat : Int) = 9 ↔ c = 9 := e 9 (by omega)
 have e10 : (c.toNat : Int) = 10 ↔ c = 10 := e 10 (by omega)
 have e13 : (c.toNat : Int) = 13 ↔ c = 13 := e 13 (by omega)
 have e32 : (c.toNat : Int) = 32 ↔ c = 32 := e 32 (by omega)
 constructor
 ·rintro (h | h | h | h) <;> (subst h; decide)
 ·rintro (h | h | h | h)
  ·exact .inl (e9.1 h)
  ·exact .inr (.inr (.inr (e32.1 h)))
  ·exact .inr (.inl (e10.1 h))
  ·exact .inr (.inr (.inl (e13.1 h)))

theorem valT_strip (l : List UInt8) : valT l = ((l.dropWhile pE).reverse.dropWhile pE).reverse := by
 rw [trim_comm]
 unfold valT Lib.trimS Lib.trimLeftS Lib.trimRightS
 have : (fun c => [(9 : UInt8), 10, 13, 32].contains c) = pE := funext pE_contains
 rw [this]

theorem ext_from1 (S : ByteArray) (h : 0 < S.size) : S.data.toList = S[0] :: (S.extract 1 S.size).data.toList := by
 have := drop_cons S 0 h
 rw [List.drop_zero] at this
 rw [this, extract_drop]

theorem ext_to1 (S : ByteArray) (h : 0 < S.size) : S.data.toList = (S.extract 0 (S.size - 1)).data.toList ++ [S[S.size - 1]'(by omega)] := by
 have h2 : S.data.toList.drop (S.size - 1) = [S[S.size - 1]'(by omega)] := by
  have h3 := drop_cons S (S.size - 1) (by omega)
  have h4 : S.data.toList.drop (S.size - 1 + 1) = [] := List.drop_eq_nil_of_le (by simp; omega)
  rw [h4] at h3
  exact h3
 rw [Lib.extract_data, List.drop_zero, Nat.sub_zero, ← h2, List.take_append_drop]

set_option maxHeartbeats 2000000 in
theorem rtrim_any (s : ByteArray) (w : World) (hs : s.size ≤ 9223372036854775807) :
  Calls Tryz.prog 88 #[.string s, .bool false] w fun e w' => e = .returned (.string ⟨(valT s.data.toList).toArray⟩) ∧ w = w' := by
 have HV := hid (valT_strip s.data.toList)
 go_enter Tryz.func88, Tryz.ntmps88
 go_wp2
 go_loop [0] (fun v => ∃ S : ByteArray, v = .string S ∧ S.size ≤ 9223372036854775807 ∧ S.data.toList.dropWhile pE = s.data.toList.dropWhile pE) (fun v => match v with | .string S => S.size | _ => 0)
 case atStart => exact ⟨s, rfl, hs, rfl⟩
 case round =>
  obtain ⟨S, rfl, hS, hd⟩ := hrel
  have HD := hid hd
  clear hd
  by_cases h0 : 0 < S.size
  ·have h0' : (0 : Int) < (S.size : Int) := by omega
   have hx := ext_from1 S h0
   by_cases hp : endI (S[0].toNat : Int) = true
   ·have h1 : (1 : Int) ≤ (S.size : Int) := by omega
    have HN := hid (show (S.extract 1 S.size).data.toList.dropWhile pE = s.data.toList.dropWhile pE by
     rw [← HD.out, hx, List.dropWhile_cons_of_pos (show pE S[0] = true from hp)])
    clear hx
    go_wp2_with (go_at_call 150; refine (ends_false _ _).mono ?_; rintro e w' ⟨rfl, rfl⟩)
    go_round
    case rel => exact ⟨S.extract 1 S.size, rfl, by simp; omega, HN.out⟩
    case measure => simp; omega
   ·have hp' : endI (S[0].toNat : Int) = false := by simpa using hp
    have HN := hid (show S.data.toList = s.data.toList.dropWhile pE by
     rw [← HD.out, hx, List.dropWhile_cons_of_neg (show ¬ pE S[0] = true from hp), ← hx])
    clear hx hp
    have hSS : ∀ T : ByteArray, T.data.toList.reverse.dropWhile pE = S.data.toList.reverse.dropWhile pE → (T.data.toList = [] ∨ ∃ A c, T.data.toList = A ++ [c] ∧ pE c = false) → T = ⟨(valT s.data.toList).toArray⟩ := fun T h1 h2 => by
     refine xext ?_
     rw [HV.out, ← HN.out, ← h1]
     rcases h2 with h2 | ⟨A, c, h2, hc⟩
     ·rw [h2]; rfl
     ·rw [h2, List.reverse_append, List.reverse_cons, List.reverse_nil, List.nil_append, List.singleton_append, List.dropWhile_cons_of_neg (by simp [hc]), List.reverse_cons, List.reverse_reverse]
    have HSS := hid hSS
    clear hSS
    go_wp2_with (go_at_call 150; refine (ends_false _ _).mono ?_; rintro e w' ⟨rfl, rfl⟩)
    go_loop [0] (fun v => ∃ T : ByteArray, v = .string T ∧ T.size ≤ 9223372036854775807 ∧ T.data.toList.reverse.dropWhile pE = S.data.toList.reverse.dropWhile pE) (fun v => match v with | .string T => T.size | _ => 0)
    case atStart => exact ⟨S, rfl, hS, rfl⟩
    case round =>
     obtain ⟨T, rfl, hT, hd⟩ := hrel
     have HD2 := hid hd
     clear hd
     by_cases t0 : 0 < T.size
     ·have t0' : (0 : Int) < (T.size : Int) := by omega
      have ht1 : (T.size : Int) - 1 < (T.size : Int) := by omega
      have ht2 : (0 : Int) ≤ (T.size : Int) - 1 := by omega
      have ht3 : ((T.size : Int) - 1).toNat = T.size - 1 := by omega
      have ht4 : (T.size : Int) - 1 ≤ (T.size : Int) := by omega
      have hx := ext_to1 T t0
      by_cases hp : endI ((T[T.size - 1]'(by omega)).toNat : Int) = true
      ·have HN2 := hid (show (T.extract 0 (T.size - 1)).data.toList.reverse.dropWhile pE = S.data.toList.reverse.dropWhile pE by
        rw [← HD2.out]
        conv => rhs; rw [hx, List.reverse_append, List.reverse_cons, List.reverse_nil, List.nil_append, List.singleton_append, List.dropWhile_cons_of_pos (show pE (T[T.size - 1]'(by omega)) = true from hp)])
       clear hx
       go_wp2_with (go_at_call 150; refine (ends_false _ _).mono ?_; rintro e w' ⟨rfl, rfl⟩)
       go_round
       case rel => exact ⟨T.extract 0 (T.size - 1), rfl, by simp; omega, HN2.out⟩
       case measure => simp; omega
      ·have hp' : endI ((T[T.size - 1]'(by omega)).toNat : Int) = false := by simpa using hp
       have HF := hid (HSS.out T HD2.out (.inr ⟨_, _, hx, hp'⟩))
       clear hx hp
       go_wp2_with (go_at_call 150; refine (ends_false _ _).mono ?_; rintro e w' ⟨rfl, rfl⟩)
       go_ret
       rw [← HF.out]
       exact ⟨rfl, rfl⟩
     ·have t0' : decide ((0 : Int) < (T.size : Int)) = false := by rw [decide_eq_false_iff_not]; omega
      have HF := hid (HSS.out T HD2.out (.inl (List.eq_nil_of_length_eq_zero (by have := Lib.size_eq T; omega))))
      go_wp2
      go_ret
      rw [← HF.out]
      exact ⟨rfl, rfl⟩
  ·have h0' : decide ((0 : Int) < (S.size : Int)) = false := by rw [decide_eq_false_iff_not]; omega
   have hSn : S.data.toList = [] := List.eq_nil_of_length_eq_zero (by have := Lib.size_eq S; omega)
   have HN := hid (show S.data.toList = s.data.toList.dropWhile pE by rw [← HD.out, hSn]; rfl)
   clear hSn
   have hSS : ∀ T : ByteArray, T.data.toList.reverse.dropWhile pE = S.data.toList.reverse.dropWhile pE → (T.data.toList = [] ∨ ∃ A c, T.data.toList = A ++ [c] ∧ pE c = false) → T = ⟨(valT s.data.toList).toArray⟩ := fun T h1 h2 => by
    refine xext ?_
    rw [HV.out, ← HN.out, ← h1]
    rcases h2 with h2 | ⟨A, c, h2, hc⟩
    ·rw [h2]; rfl
    ·rw [h2, List.reverse_append, List.reverse_cons, List.reverse_nil, List.nil_append, List.singleton_append, List.dropWhile_cons_of_neg (by simp [hc]), List.reverse_cons, List.reverse_reverse]
   have HSS := hid hSS
   clear hSS
   go_wp2
   go_loop [0] (fun v => ∃ T : ByteArray, v = .string T ∧ T.size ≤ 9223372036854775807 ∧ T.data.toList.reverse.dropWhile pE = S.data.toList.reverse.dropWhile pE) (fun v => match v with | .string T => T.size | _ => 0)
   case atStart => exact ⟨S, rfl, hS, rfl⟩
   case round =>
    obtain ⟨T, rfl, hT, hd⟩ := hrel
    have HD2 := hid hd
    clear hd
    by_cases t0 : 0 < T.size
    ·have t0' : (0 : Int) < (T.size : Int) := by omega
     have ht1 : (T.size : Int) - 1 < (T.size : Int) := by omega
     have ht2 : (0 : Int) ≤ (T.size : Int) - 1 := by omega
     have ht3 : ((T.size : Int) - 1).toNat = T.size - 1 := by omega
     have ht4 : (T.size : Int) - 1 ≤ (T.size : Int) := by omega
     have hx := ext_to1 T t0
     by_cases hp : endI ((T[T.size - 1]'(by omega)).toNat : Int) = true
     ·have HN2 := hid (show (T.extract 0 (T.size - 1)).data.toList.reverse.dropWhile pE = S.data.toList.reverse.dropWhile pE by
       rw [← HD2.out]
       conv => rhs; rw [hx, List.reverse_append, List.reverse_cons, List.reverse_nil, List.nil_append, List.singleton_append, List.dropWhile_cons_of_pos (show pE (T[T.size - 1]'(by omega)) = true from hp)])
      clear hx
      go_wp2_with (go_at_call 150; refine (ends_false _ _).mono ?_; rintro e w' ⟨rfl, rfl⟩)
      go_round
      case rel => exact ⟨T.extract 0 (T.size - 1), rfl, by simp; omega, HN2.out⟩
      case measure => simp; omega
     ·have hp' : endI ((T[T.size - 1]'(by omega)).toNat : Int) = false := by simpa using hp
      have HF := hid (HSS.out T HD2.out (.inr ⟨_, _, hx, hp'⟩))
      clear hx hp
      go_wp2_with (go_at_call 150; refine (ends_false _ _).mono ?_; rintro e w' ⟨rfl, rfl⟩)
      go_ret
      rw [← HF.out]
      exact ⟨rfl, rfl⟩
    ·have t0' : decide ((0 : Int) < (T.size : Int)) = false := by rw [decide_eq_false_iff_not]; omega
     have HF := hid (HSS.out T HD2.out (.inl (List.eq_nil_of_length_eq_zero (by have := Lib.size_eq T; omega))))
     go_wp2
     go_ret
     rw [← HF.out]
     exact ⟨rfl, rfl⟩

end Go.Proofs.YtgoefeaopegdoaaGreatDoor

namespace Go.Proofs.YtgoefeaopegdoaaGreatDoor
open Go.RowKit

theorem badC_int (c : UInt8) : badC c = ((c.toNat : Int) == 0 || ((c.toNat : Int) == 10 || (c.toNat : Int) == 13)) := by
 have e0 := byteInt c 0 (by omega)
 have e10 := byteInt c 10 (by omega)
 have e13 := byteInt c 13 (by omega)
 have f0 : ((c.toNat : Int) == 0) = decide (c = 0) := e0
 have f10 : ((c.toNat : Int) == 10) = decide (c = 10) := e10
 have f13 : ((c.toNat : Int) == 13) = decide (c = 13) := e13
 rw [f0, f10, f13]
 unfold badC
 rw [Bool.eq_iff_iff]; simp

set_option maxHeartbeats 2000000 in
theorem rvalue_any (s : ByteArray) (w : World) (hs : s.size ≤ 9223372036854775807) :
  Calls Tryz.prog 42 #[.string s] w fun e w' => e = .returned (.tuple #[.string ⟨(valA s.data.toList).toArray⟩, .bool (valB s.data.toList)]) ∧ w = w' := by
 obtain ⟨T, hT⟩ : ∃ x : ByteArray, x = ⟨(valT s.data.toList).toArray⟩ := ⟨_, rfl⟩
 have hTs : T.size ≤ 9223372036854775807 := by have := trimS_le s.data.toList [9, 10, 13, 32]; rw [hT, xsize]; unfold valT; simp at this; omega
 have HB := hid (show valB s.data.toList = !T.data.toList.any badC by rw [hT]; rfl)
 have HA := hid (show valA s.data.toList = if valB s.data.toList then T.data.toList else [] by unfold valA; rw [hT])
 have HTr : Hid (∀ w : World, Calls Tryz.prog 88 #[.string s, .bool false] w fun e w' => e = .returned (.string T) ∧ w = w') := fun w => by
  have := rtrim_any s w hs
  rw [← hT] at this
  exact this
 clear hT
 go_enter Tryz.func42, Tryz.ntmps42
 go_wp2_with fail
 refine (HTr.out _).mono ?_
 rintro e w1 ⟨rfl, rfl⟩
 go_wp2
 go_loop [4] (fun i => ∃ k : Nat, k ≤ T.size ∧ i = .int .i64 k ∧ (T.data.toList.take k).any badC = false) (fun i => T.size - (intOf i).toNat)
 case atStart => exact ⟨0, Nat.zero_le _, rfl, rfl⟩
 case round =>
  obtain ⟨k, hk, rfl, hno⟩ := hrel
  have HN := hid hno
  clear hno
  by_cases hlt : k < T.size
  ·have HT := hid (take_snoc T k hlt)
   have hb8 := T[k].toNat_lt
   have HC := hid (badC_int T[k])
   have hbad : badC T[k] = true → Ending.returned (.tuple #[.string ⟨#[]⟩, .bool false]) = .returned (.tuple #[.string ⟨(valA s.data.toList).toArray⟩, .bool (valB s.data.toList)]) := fun h => by
    have hv : valB s.data.toList = false := by
     rw [HB.out]
     have : T.data.toList.any badC = true := by
      rw [List.any_eq_true]
      refine ⟨T[k], ?_, h⟩
      have : T[k] = T.data.toList[k]'(by simpa using hlt) := rfl
      rw [this]; exact List.getElem_mem _
     rw [this]; rfl
    rw [HA.out, hv]; rfl
   have HBad := hid hbad
   clear hbad
   by_cases h0 : (T[k].toNat : Int) = 0
   ·have hbt := hid (show badC T[k] = true by rw [HC.out]; simp [h0])
    go_wp2
    go_ret2
    exact ⟨HBad.out hbt.out, rfl⟩
   ·have h0' : ((T[k].toNat : Int) == 0) = false := by simpa using h0
    by_cases h10 : (T[k].toNat : Int) = 10
    ·have hbt := hid (show badC T[k] = true by rw [HC.out]; simp [h10])
     clear h0
     go_wp2
     go_ret2
     exact ⟨HBad.out hbt.out, rfl⟩
    ·have h10' : ((T[k].toNat : Int) == 10) = false := by simpa using h10
     by_cases h13 : (T[k].toNat : Int) = 13
     ·have hbt := hid (show badC T[k] = true by rw [HC.out]; simp [h13])
      clear h0 h10
      go_wp2
      go_ret2
      exact ⟨HBad.out hbt.out, rfl⟩
     ·have h13' : ((T[k].toNat : Int) == 13) = false := by simpa using h13
      have HG := hid (show (T.data.toList.take (k + 1)).any badC = false by rw [HT.out, List.any_append, HN.out]; simp [HC.out, h0', h10', h13'])
      clear h0 h10 h13
      go_wp2
      go_round
      case rel => exact ⟨k + 1, by omega, by go_num, HG.out⟩
      case measure => simp [intOf]; omega
  ·have ha := HN.out
   rw [take_all T k hlt] at ha
   have HV := hid (show valB s.data.toList = true by rw [HB.out, ha]; rfl)
   clear ha
   go_wp2
   go_ret2
   exact ⟨xret_sb (xext (by rw [HA.out, HV.out]; rfl)) HV.out.symm, rfl⟩

end Go.Proofs.YtgoefeaopegdoaaGreatDoor

namespace Go.Proofs.YtgoefeaopegdoaaGreatDoor
open Go.RowKit

def rsetV (n V : List UInt8) : Bool → List Hd → List Hd
 | _, [] => []
 | d, h :: r => if isN n h then (if d then rsetV n V d r else ⟨h.name, V⟩ :: rsetV n V true r) else h :: rsetV n V d r

def RsInv (L : List Hd) (n V : List UInt8) (k : Nat) (out : List Hd) (d : Bool) : Prop := out ++ rsetV n V d (L.drop k) = rsetV n V false L ∧ d = (L.take k).any (isN n) ∧ out.length ≤ k

theorem RsInv.place {L : List Hd} {n V : List UInt8} {k : Nat} {out : List Hd} (h : RsInv L n V k out false) (hk : k < L.length) (hn : isN n L[k] = true) : RsInv L n V (k + 1) (out ++ [⟨L[k].name, V⟩]) true := by
 obtain ⟨h1, h2, h3⟩ := h
 refine ⟨?_, ?_, by simp; omega⟩
 ·rw [← h1, ← List.getElem_cons_drop hk, rsetV, if_pos hn, if_neg (by simp)]; simp
 ·rw [List.take_add_one, List.getElem?_eq_getElem hk, List.any_append]; simp [hn]

end Go.Proofs.YtgoefeaopegdoaaGreatDoor
