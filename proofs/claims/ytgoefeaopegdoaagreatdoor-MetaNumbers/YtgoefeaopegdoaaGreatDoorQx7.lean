/-
  Walks and plain facts that this claim leans on, put together out of 10 texts: Wg, Wi, Vn, Hd, He, Hf, Vr, Rm, Hh, Hi.
-/
import Derived.Test.YtgoefeaopegdoaaGreatDoorProg
import Derived.Test.YtgoefeaopegdoaaGreatDoorQx1
import Derived.Test.YtgoefeaopegdoaaGreatDoorQx2
import Derived.Test.YtgoefeaopegdoaaGreatDoorQx3
import Derived.Test.YtgoefeaopegdoaaGreatDoorQx4
import Derived.Test.YtgoefeaopegdoaaGreatDoorQx5
import Derived.Test.YtgoefeaopegdoaaGreatDoorQx6
import Derived.WalkKit
import Derived.Lib.Strings
import Derived.Lib.UnsafeStr
import Derived.Laws.IdiomStrings
import Derived.Laws.AppendOwn
import Derived.Laws.BitsAllLaws
import Derived.Lib.Bytealg
import Derived.Shelf.Strings.Builder1
import Derived.Shelf.Strings.Builder2
import Derived.Shelf.Strings.OnBuilder
import Derived.Shelf.Strings.Trim
import Derived.Shelf.Small.Utf8
import Derived.Shelf.Small.Bits
import Derived.Shelf.Small.Strs
import Derived.Shelf.Small.Wraps
import Derived.Shelf.Strings.BuilderF
import Derived.Shelf.Strings.BuilderK
import Derived.Shelf.Strings.BuilderRune
import Derived.Shelf.Utf8.AppendRune
import Derived.Shelf.Utf8.AppendRunePlain
import Derived.Shelf.Strings.Builder2Cap
import Derived.Shelf.Strconv.Itoa0
import Derived.Shelf.Strconv.Itoa1
import Derived.Shelf.LaysM
import Derived.Shelf.Strconv.Itoa2
import Derived.Shelf.Strconv.Itoa3
import Derived.Shelf.Strings.Search1
import Derived.Shelf.Strings.Search2
import Derived.Shelf.Strings.Search3
import Derived.Shelf.Strings.Cut
import Derived.Shelf.Strings.Count
import Derived.Shelf.Strings.Shaped
import Derived.Shelf.Strings.LastIndex
import Derived.Shelf.Strings.Prefix
import Derived.Shelf.Strings.Split
import Derived.Shelf.Strings.Replace
import Derived.Shelf.Strings.Runes
import Derived.Shelf.Strings.IndexAny
import Derived.Shelf.Strings.AsciiSet
import Derived.Shelf.Strings.IndexAnyAll
import Derived.Shelf.Unicode.DecodeSlow
import Derived.Ground.Names2Prog
import Derived.Shelf.Slices.Clone
import Derived.Shelf.Slices.In.SortNone
import Derived.Ground.SlgnProg
import Derived.Shelf.SlicesE.Clone
import Derived.WalkSpells
import Derived.WalkLawsBesides
import Derived.Lib.FrozenHead2
import Derived.Lib.OthersKept
import Derived.Lib.Builder
import Derived.Lib.BufferMore
import Derived.Lib.IndexMore
import Derived.Lib.Join
import Derived.Lib.LastIndexByte
import Derived.Lib.AppendIntMem
import Derived.Lib.SmallJoins
import Derived.WalkSmall
import Derived.WalkMore
import Derived.Deep.LoopGhost
import Derived.OwnWalk
import Derived.Laws.CopyOwn
import Derived.Laws.ResultCell
import Derived.Deep.MidRow
import Derived.Deep.RegionWith
set_option linter.unusedSimpArgs false
set_option linter.unusedVariables false

namespace Go.Proofs.YtgoefeaopegdoaaGreatDoor
open Go.RowKit

theorem ret_pcd {a : UInt8} {x : Int} {p : UInt8 × Bool} {b : Bool} (h : p = (a, b)) (e : (a.toNat : Int) = x) : Ending.returned (.tuple #[.int .u8 x, .bool b]) = .returned (.tuple #[.int .u8 p.1.toNat, .bool p.2]) := by
 rw [h, ← e]

set_option maxHeartbeats 1000000 in
theorem percented_any (s : ByteArray) (w : World) (h0 : 0 < s.size) (hs : s.size ≤ 140737488351232) :
  Calls Tryz.prog 186 #[.string s] w fun e w' => e = .returned (.tuple #[.int .u8 (pcd s.data.toList).1.toNat, .bool (pcd s.data.toList).2]) ∧ w = w' := by
 by_cases h3 : s.size < 3
 ·have h3' : (s.size : Int) < 3 := by omega
  go_enter Tryz.func186, Tryz.ntmps186
  go_wp2
  go_ret2
  obtain ⟨r, hr⟩ := list_one s h0
  refine ⟨ret_pcd ?_ rfl, rfl⟩
  rw [hr]
  refine pcd_short _ _ ?_
  rw [← hr]; simpa using h3
 ·have h3' : (3 : Int) ≤ (s.size : Int) := by omega
  obtain ⟨r, hr⟩ := list_three s (by omega)
  have HR := hid hr
  clear hr
  by_cases h37 : s[0] = 37
  ·have h37' : (((s[0]).toNat : Int) != 37) = false := by rw [h37]; rfl
   have HP : Hid (pcd s.data.toList = if is16I s[1].toNat && is16I s[2].toNat then (UInt8.ofNat (val16I s[1].toNat * 16 + val16I s[2].toNat).toNat, true) else (37, false)) := by
    rw [HR.out, h37]; exact pcd_three _ _ _
   have H37 := hid h37
   clear h37
   have hv := val16_lt s[1].toNat
   have ho := or16 s[1].toNat s[2].toNat
   have hl1 : s[1].toNat < 256 := s[1].toNat_lt
   have hl2 : s[2].toNat < 256 := s[2].toNat_lt
   by_cases ha : is16I (s[1].toNat : Int) = true
   ·by_cases hb : is16I (s[2].toNat : Int) = true
    ·go_enter Tryz.func186, Tryz.ntmps186
     go_wp2_with (go_at_call 225; refine (value16_any _ _ (by omega) (by omega)).mono ?_; rintro e w' ⟨rfl, rfl⟩)
     go_ret2
     refine ⟨ret_pcd (by rw [HP.out, ha, hb]; rfl) ?_, rfl⟩
     simp
    ·have hb' : is16I (s[2].toNat : Int) = false := by simpa using hb
     clear hb
     go_enter Tryz.func186, Tryz.ntmps186
     go_wp2_with (go_at_call 225; refine (value16_any _ _ (by omega) (by omega)).mono ?_; rintro e w' ⟨rfl, rfl⟩)
     go_ret2
     refine ⟨ret_pcd (by rw [HP.out, ha, hb']; rfl) ?_, rfl⟩
     rw [H37.out]
   ·have ha' : is16I (s[1].toNat : Int) = false := by simpa using ha
    clear ha
    go_enter Tryz.func186, Tryz.ntmps186
    go_wp2_with (go_at_call 225; refine (value16_any _ _ (by omega) (by omega)).mono ?_; rintro e w' ⟨rfl, rfl⟩)
    go_ret2
    refine ⟨ret_pcd (by rw [HP.out, ha']; rfl) ?_, rfl⟩
    rw [H37.out]
  ·have h37' : (((s[0]).toNat : Int) != 37) = true := by
    rw [bne_iff_ne]
    intro e
    apply h37
    have : s[0].toNat = 37 := by omega
    exact UInt8.toNat_inj.1 this
   have H37 := hid h37
   clear h37
   go_enter Tryz.func186, Tryz.ntmps186
   go_wp2
   go_ret2
   refine ⟨ret_pcd ?_ rfl, rfl⟩
   rw [HR.out]
   exact pcd_other _ _ H37.out

set_option maxHeartbeats 1000000 in
theorem unpercent_any (s : ByteArray) (w : World) (hs : s.size ≤ 140737488351232) :
  Calls Tryz.prog 131 #[.string s] w fun e w' => e = .returned (.string ⟨(unpct s.data.toList).toArray⟩) ∧ Below w.heap.size w w' := by
 go_enter Tryz.func131, Tryz.ntmps131
 go_wp2
 go_loopw [4] (fun i wr => ∃ (k : Nat) (acc : List UInt8), k ≤ s.size ∧ i = .int .i64 k ∧ Lib.IsBuilderF 115 5 w.heap.size w.heap.size (Lib.byteCells acc) wr ∧ Below w.heap.size w wr ∧ acc ++ unpct (s.data.toList.drop k) = unpct s.data.toList ∧ acc.length ≤ k)
  (fun i _ => s.size - (intOf i).toNat)
 case atStart =>
  exact ⟨0, [], Nat.zero_le _, rfl, Lib.IsBuilderF.of (Lib.fresh_isBuilder 115 5 w), (Below.refl _ w).alloc (Nat.le_refl _) _, rfl, Nat.le_refl _⟩
 case round =>
  obtain ⟨k, acc, hk, rfl, hI, hbw, hacc, hal⟩ := hrel
  have HA := hid hacc
  clear hacc
  by_cases hlt : k < s.size
  ·have HD := hid (drop_cons s k hlt)
   have HU := hid (unpct_cons s[k] (s.data.toList.drop (k + 1)))
   have hex := extract_drop s k
   have hes : (s.extract k s.size).size = s.size - k := by simp
   have HE := hid hex
   have hct := percented_any (s.extract k s.size) wr (by omega) (by omega)
   rw [hex] at hct
   have HC := hid hct
   clear hct hex
   have hlen : (pcd (s.data.toList.drop k)).2 = true → k + 3 ≤ s.size := fun h => by
    have := pcd_len _ h
    simp at this
    omega
   have HL := hid hlen
   clear hlen
   by_cases hok : (pcd (s.data.toList.drop k)).2 = true
   ·have h3 := HL.out hok
    go_wp2_with (go_at_call 186; refine HC.out.mono ?_; rintro e w' ⟨rfl, rfl⟩)
    refine (writeByte_k w.heap.size w.heap.size _ _ _ hI (by rw [Lib.byteCells_length]; omega) hbw.size).mono ?_
    rintro e w1 ⟨rfl, h1, b1, _⟩
    go_wp2
    go_roundw
    case rel =>
     refine ⟨k + 3, acc ++ [(pcd (s.data.toList.drop k)).1], by omega, by go_num, ?_, hbw.trans b1, ?_, by simp; omega⟩
     ·rw [Lib.byteCells_append]; exact .inr h1
     ·rw [← HA.out, HD.out, HU.out, ← HD.out, if_pos hok, List.drop_drop, List.append_assoc]; rfl
    case measure => simp [intOf]; omega
   ·have hok' : (pcd (s.data.toList.drop k)).2 = false := by simpa using hok
    go_wp2_with (go_at_call 186; refine HC.out.mono ?_; rintro e w' ⟨rfl, rfl⟩)
    refine (writeByte_k w.heap.size w.heap.size _ _ _ hI (by rw [Lib.byteCells_length]; omega) hbw.size).mono ?_
    rintro e w1 ⟨rfl, h1, b1, _⟩
    go_wp2
    go_roundw
    case rel =>
     refine ⟨k + 1, acc ++ [(pcd (s.data.toList.drop k)).1], by omega, by go_num, ?_, hbw.trans b1, ?_, by simp; omega⟩
     ·rw [Lib.byteCells_append]; exact .inr h1
     ·rw [← HA.out, HD.out, HU.out, ← HD.out, if_neg hok, List.append_assoc]; rfl
    case measure => simp [intOf]; omega
  ·have hd := drop_none s k hlt
   have he : acc = unpct s.data.toList := by rw [← HA.out, hd]; simp [unpct, unpctN]
   rw [he] at hI
   clear hd he
   go_wp2_with (go_at_call 83; refine (Tryz.Builder_String_any_k w.heap.size w.heap.size _ _ hI hbw.size).mono ?_)
   rintro e w1 ⟨rfl, _, b1, _⟩
   go_wp2
   go_ret
   exact ⟨rfl, hbw.trans b1⟩

end Go.Proofs.YtgoefeaopegdoaaGreatDoor

namespace Go.Proofs.YtgoefeaopegdoaaGreatDoor
open Go.RowKit

set_option maxHeartbeats 1000000 in
theorem lower_any (s : ByteArray) (w : World) (hs : s.size ≤ 140737488351232) :
  Calls Tryz.prog 89 #[.string s] w fun e w' => e = .returned (.string ⟨(low s.data.toList).toArray⟩) ∧ Below w.heap.size w w' := by
 have hcv := run_bytes_of_string (P := Tryz.prog) w 9 113 5 s Tryz.underlying9 Tryz.underlying113 Tryz.underlying5
 have hcap := grownCap_ge w s.size 0 5
 have hr0 := rowIs_bytes w 5 s (grownCap w s.size 0 5) hcap
 have hb0 : Below w.heap.size w (w.drew.alloc (.cells (bytesRow s (grownCap w s.size 0 5)) 5 ((bytesRow s (grownCap w s.size 0 5)).size, (bytesRow s (grownCap w s.size 0 5)).size + 1))) := (Below.refl _ w).drew.alloc (Nat.le_refl _) _
 generalize (w.drew.alloc (.cells (bytesRow s (grownCap w s.size 0 5)) 5 ((bytesRow s (grownCap w s.size 0 5)).size, (bytesRow s (grownCap w s.size 0 5)).size + 1))) = w0 at hcv hr0 hb0
 generalize grownCap w s.size 0 5 = cap at hcv hcap
 go_enter Tryz.func89, Tryz.ntmps89
 go_wp2
 clear hcv
 go_loopw [10] (fun i wr => ∃ k : Nat, k ≤ s.size ∧ i = .int .i64 k ∧ rowIs wr w.heap.size 5 (lowTo s.data.toList k) ∧ Below w.heap.size w wr)
  (fun i _ => s.size - (intOf i).toNat)
 case atStart => exact ⟨0, Nat.zero_le _, rfl, by rw [lowTo_zero]; exact hr0, hb0⟩
 case round =>
  obtain ⟨k, hk, rfl, hr, hbw⟩ := hrel
  by_cases hlt : k < s.size
  ·have hl : k < s.data.toList.length := by simpa using hlt
   have hl' : k < (lowTo s.data.toList k).length := by rw [lowTo_length]; exact hl
   have hc := hr.cell k hl'
   rw [lowTo_at _ _ hl] at hc
   have hf := hr.frozen k hl'
   have hsucc := lowTo_succ s.data.toList k hl
   have hat := lowTo_at s.data.toList k hl hl'
   generalize s.data.toList[k] = c at hc hsucc hat
   have HS := hid hsucc
   have HAt := hid hat
   clear hsucc hat
   have hc8 : c.toNat < 256 := c.toNat_lt
   by_cases hu : 65 ≤ c.toNat ∧ c.toNat ≤ 90
   ·have h1 : (65 : Int) ≤ (c.toNat : Int) := by omega
    have h2 : (c.toNat : Int) ≤ 90 := by omega
    have HL := hid (lowC_yes c hu)
    clear hu
    go_wp2
    go_roundw
    case rel =>
     refine ⟨k + 1, by omega, by go_num, ?_, hbw.setCell (p := ⟨w.heap.size, k, none⟩) (Nat.le_refl _) _⟩
     rw [HS.out, ← HL.out]
     exact hr.set k _
    case measure => simp [intOf]; omega
   ·have HL := hid (lowC_no c hu)
    have hu' : (c.toNat : Int) < 65 ∨ 90 < (c.toNat : Int) := by omega
    clear hu
    rcases hu' with h1 | h1
    all_goals
     go_wp2
     go_roundw
     case rel =>
      refine ⟨k + 1, by omega, by go_num, ?_, hbw⟩
      have e : lowC c = (lowTo s.data.toList k)[k] := by rw [HL.out, HAt.out]
      rw [HS.out, e, List.set_getElem_self]
      exact hr
     case measure => simp [intOf]; omega
  ·have hk' : k = s.data.toList.length := by simp; omega
   have hr' : rowIs wr w.heap.size 5 (low s.data.toList) := by rw [← lowTo_all, ← hk']; exact hr
   clear hr hk'
   have hcv := hr'.string (P := Tryz.prog) (src := 113) (dst := 9) (cap := cap) Tryz.underlying113 Tryz.underlying5 Tryz.underlying9
   rw [show (low s.data.toList).length = s.size by simp [low]] at hcv
   go_wp2
   go_ret
   exact ⟨rfl, hbw⟩

end Go.Proofs.YtgoefeaopegdoaaGreatDoor

namespace Go.Proofs.YtgoefeaopegdoaaGreatDoor
open Go.RowKit

theorem dotN_lt : ∀ (r h : Nat) (l : List UInt8) (n : Nat), r ≤ 4 → h < 2 ^ (8 * (4 - r)) → dotN r h l = some n → n < 4294967296
 | 0, h, _, n, _, hh, e => by
  rw [dotN] at e
  cases e
  exact hh
 | r + 1, h, l, n, hr, hh, e => by
  rw [dotN] at e
  split at e
  ·cases e
  ·rename_i b hb
   split at e
   ·refine dotN_lt r _ _ n (by omega) ?_ e
    have e2 : 8 * (4 - r) = 8 * (4 - (r + 1)) + 8 := by omega
    have := plainB_le hb
    rw [e2, Nat.pow_add]
    omega
   ·cases e

theorem scanP_lt (whole : Option Nat) (last : Bool) (hw : ∀ m, whole = some m → m < 4294967296) : ∀ (l : List UInt8) (i n : Nat) (ns : List Nat), i ≤ 4 → n < 16 ^ i → scanP whole last i n l = some ns → ns.length ≤ 2 ∧ ∀ m ∈ ns, m < 65536
 | [], i, n, ns, hi, hn, e => by
  rw [scanP] at e
  split at e
  ·cases e
  ·cases e
   have h4 : 16 ^ i ≤ 16 ^ 4 := Nat.pow_le_pow_right (by omega) hi
   rw [show 16 ^ 4 = 65536 from rfl] at h4
   refine ⟨by simp, fun m hm => ?_⟩
   rw [List.mem_singleton] at hm
   omega
 | c :: l, i, n, ns, hi, hn, e => by
  rw [scanP] at e
  split at e
  ·cases hwh : whole with
   | none => rw [hwh] at e; cases e
   | some m =>
    rw [hwh] at e
    cases e
    have := hw m hwh
    refine ⟨by simp, fun k hk => ?_⟩
    simp at hk
    omega
  ·split at e
   ·rename_i h
    refine scanP_lt whole last hw l (i + 1) _ ns (by omega) ?_ e
    rw [Nat.pow_succ]
    omega
   ·cases e

theorem piecesN_lt (atEnd : Bool) : ∀ (f : Nat) (out : List Nat) (l : List UInt8) (m : Bool) (r : List Nat), (∀ n ∈ out, n < 65536) → piecesN atEnd f out l m = some r → ∀ n ∈ r, n < 65536
 | f, out, l, false, r, ho, e => by
  rw [piecesN_done] at e
  cases e; exact ho
 | 0, out, l, true, r, ho, e => by cases e
 | f + 1, out, l, true, r, ho, e => by
  rw [piecesN] at e
  split at e
  ·cases e
  ·rename_i ns hns
   refine piecesN_lt atEnd f _ _ _ r ?_ e
   intro n hn
   rcases List.mem_append.1 hn with h | h
   ·exact ho n h
   ·exact (scanP_lt _ _ (fun m hm => dotN_lt 4 0 _ m (by omega) (by decide) hm) _ 0 0 ns (by omega) (by decide) hns).2 n h

theorem sixV_ok {l : List UInt8} {x : List Nat} (h : sixV l = some x) : x.length = 8 ∧ ∀ n ∈ x, n < 65536 := by
 unfold sixV at h
 split at h
 ·rename_i a b ha hb
  split at h
  ·rename_i hc
   cases h
   refine ⟨by simp; omega, fun n hn => ?_⟩
   rcases List.mem_append.1 hn with hn | hn
   ·rcases List.mem_append.1 hn with hn | hn
    ·exact piecesN_lt _ _ _ _ _ a (by simp) ha n hn
    ·have := List.eq_of_mem_replicate hn; omega
   ·exact piecesN_lt _ _ _ _ _ b (by simp) hb n hn
  ·cases h
 ·cases h

theorem bracketV_open {l : List UInt8} (h : Lib.hasSuffix l [93] = false) : bracketV l = none := by rw [bracketV, h]; rfl

theorem bracketV_none {l : List UInt8} (h : Lib.hasSuffix l [93] = true) (h2 : sixV (Lib.trimSuffix l [93]) = none) : bracketV l = none := by rw [bracketV, if_pos h, h2]; rfl

theorem bracketV_some {l : List UInt8} {x : List Nat} (h : Lib.hasSuffix l [93] = true) (h2 : sixV (Lib.trimSuffix l [93]) = some x) : bracketV l = some (91 :: (text6 x ++ [93])) := by rw [bracketV, if_pos h, h2]; rfl

theorem text6_le (x : List Nat) (h8 : x.length = 8) : (text6 x).length ≤ 100 := by
 unfold text6
 have h1 := joined_le x
 have h2 := joined_le (x.take (lrun x).1)
 have h3 := joined_le (x.drop (lrun x).2)
 have e1 : (x.take (lrun x).1).length ≤ 8 := by simp; omega
 have e2 : (x.drop (lrun x).2).length ≤ 8 := by simp; omega
 split
 ·omega
 ·simp; omega

set_option maxHeartbeats 2000000 in
set_option maxRecDepth 100000 in
theorem parseSix_any (s : ByteArray) (w : World) (hg : Gd w) (hs : s.size ≤ 4000000000) :
  Calls Tryz.prog 314 #[.string s] w fun e w' => e = .returned (.tuple #[.string ⟨((bracketV s.data.toList).getD []).toArray⟩, .int .i64 (er (bracketV s.data.toList))]) ∧ Below w.heap.size w w' := by
 have HG := hid hg
 clear hg
 by_cases hc : Lib.hasSuffix s.data.toList [93] = true
 ·obtain ⟨t, ht⟩ : ∃ t : ByteArray, t = ⟨(Lib.trimSuffix s.data.toList [93]).toArray⟩ := ⟨_, rfl⟩
  have htl : t.data.toList = Lib.trimSuffix s.data.toList [93] := by rw [ht]
  have hts : t.size ≤ 4000000000 := by rw [ht]; exact size_le (Lib.trimSuffix_le _ _) hs
  have HTe := hid ht
  clear ht
  obtain ⟨Y, hY⟩ : ∃ Y, Y = (sixV t.data.toList).getD zero8 := ⟨_, rfl⟩
  have hY8 : (cells16 Y).length = 8 := by
   rw [cells16_len, hY]
   cases h : sixV t.data.toList with
   | none => rfl
   | some x => exact (sixV_ok h).1
  have hi8 : (Tryz.prog.info? 280).map (·.size) = some (cells16 Y).length := by rw [hY8]; exact size8
  have hi8' : (Tryz.prog.info? 280).map (·.size) = some (cells16 Y).toArray.size := by rw [List.size_toArray, hY8]; exact size8
  have HY := hid hY
  clear hY
  have h6 := six_any t w HG.out hts
  rw [← HY.out] at h6
  have H6 := hid h6
  clear h6
  cases hsx : sixV t.data.toList with
  | none =>
   have HN := hid (bracketV_none (l := s.data.toList) hc (by rw [← htl]; exact hsx))
   have e6 := er_none hsx
   clear hsx htl
   go_enter Tryz.func314, Tryz.ntmps314
   go_wp2_with (first | (go_at_call 331; refine (Tryz.strings_CutSuffix _ _ _ (by omega)).mono ?_; rintro e w' ⟨rfl, rfl⟩; rw [show (⟨#[93]⟩ : ByteArray).data.toList = [93] from rfl, hc, ← HTe.out]) | (go_at_call 332; refine H6.out.mono ?_; rintro e w1 ⟨rfl, hb1⟩; rw [e6, agg8]) | refine wpList_store_mid rfl 280 (.tmp 6) (.tmp 18) rfl w1.heap.size 0 (cells16 Y).toArray rfl rfl (there_row (heap_alloc_new w1 _) (by rw [List.size_toArray, hY8]; decide)) hi8' (all_oneCell_toArray (cells16_one _)) ?_)
   go_ret2
   exact ⟨ret_se (txt_none HN.out) (er_none HN.out).symm, below2 hb1 (below_setCells (Nat.le_refl _) _ _ _ ((Below.refl _ w1).alloc (Nat.le_refl _) _))⟩
  | some x =>
   have HN := hid (bracketV_some (l := s.data.toList) hc (by rw [← htl]; exact hsx))
   have e6 := er_some hsx
   have hYx : Y = x := by rw [HY.out, hsx]; rfl
   have hok := sixV_ok hsx
   subst hYx
   obtain ⟨hok1, hok2⟩ := hok
   have HOk := hid hok2
   have htl2 := text6_le Y hok1
   clear hsx htl hok2
   go_enter Tryz.func314, Tryz.ntmps314
   go_wp2_with (first | (go_at_call 331; refine (Tryz.strings_CutSuffix _ _ _ (by omega)).mono ?_; rintro e w' ⟨rfl, rfl⟩; rw [show (⟨#[93]⟩ : ByteArray).data.toList = [93] from rfl, hc, ← HTe.out]) | (go_at_call 332; refine H6.out.mono ?_; rintro e w1 ⟨rfl, hb1⟩; rw [e6, agg8]) | refine wpList_store_mid rfl 280 (.tmp 6) (.tmp 18) rfl w1.heap.size 0 (cells16 Y).toArray rfl rfl (there_row (heap_alloc_new w1 _) (by rw [List.size_toArray, hY8]; decide)) hi8' (all_oneCell_toArray (cells16_one _)) ?_ | refine wpList_load_mid rfl 280 (.tmp 6) rfl w1.heap.size 0 rfl (cells16 Y) _ (World.rangeAt_setCells_same _ _ _ _ (there_row (heap_alloc_new w1 _) (by rw [hY8]; decide))) Tryz.underlying280 rfl hi8 ?_)
   have hb2 := below2 hb1 (below_setCells (Nat.le_refl _) (cells16 Y) 0 _ ((Below.refl _ w1).alloc (Nat.le_refl _) (.cells (cells16 zero8).toArray 280 (0, 0))))
   refine (text6_any Y _ (HG.out.kept hb2) hok1 HOk.out).mono ?_
   rintro e w2 ⟨rfl, hb3⟩
   generalize text6 Y = T at *
   go_wp2
   go_ret2
   refine ⟨ret_se ?_ (er_some HN.out).symm, below2 hb2 hb3⟩
   rw [HN.out]
   show (⟨[91].toArray⟩ : ByteArray) ++ ⟨T.toArray⟩ ++ ⟨[93].toArray⟩ = ⟨(91 :: (T ++ [93])).toArray⟩
   rw [ba_app, ba_app]
   simp
 ·have hc' : Lib.hasSuffix s.data.toList [93] = false := by simpa using hc
  clear hc
  have HN := hid (bracketV_open hc')
  go_enter Tryz.func314, Tryz.ntmps314
  go_wp2_with (first | (go_at_call 331; refine (Tryz.strings_CutSuffix _ _ _ (by omega)).mono ?_; rintro e w' ⟨rfl, rfl⟩; rw [show (⟨#[93]⟩ : ByteArray).data.toList = [93] from rfl, hc']))
  go_ret2
  exact ⟨ret_se (txt_none HN.out) (er_none HN.out).symm, Below.refl _ _⟩

theorem parseV_six {l : List UInt8} {b : Bool} (h : Lib.hasPrefix l [91] = true) : parseV l b = bracketV (l.drop 1) := by rw [parseV, if_pos h]

theorem parseV_name {l : List UInt8} (h : Lib.hasPrefix l [91] = false) : parseV l true = nameV (low (unpct l)) := by rw [parseV, h]; rfl

theorem parseV_other {l : List UInt8} (h : Lib.hasPrefix l [91] = false) : parseV l false = otherV l := by rw [parseV, h]; rfl

theorem unpct_le (l : List UInt8) : (unpct l).length ≤ l.length := by
 have key : ∀ (f : Nat) (l : List UInt8), (unpctN f l).length ≤ l.length := by
  intro f
  induction f with
  | zero => intro l; simp [unpctN]
  | succ f ih =>
   intro l
   cases l with
   | nil => simp [unpctN]
   | cons c l =>
    rw [unpctN, List.length_cons, List.length_cons]
    have := ih (if (pcd (c :: l)).2 then l.drop 2 else l)
    split at this
    ·rename_i h; rw [if_pos h]; simp at this; omega
    ·rename_i h; rw [if_neg h]; omega
 exact key _ _

theorem low_length (l : List UInt8) : (low l).length = l.length := by simp [low]

set_option maxHeartbeats 1000000 in
theorem parse_any (s : ByteArray) (special : Bool) (w : World) (hg : Gd w) (hs : s.size ≤ 4000000000) :
  Calls Tryz.prog 278 #[.string s, .bool special] w fun e w' => e = .returned (.tuple #[.string ⟨((parseV s.data.toList special).getD []).toArray⟩, .int .i64 (er (parseV s.data.toList special))]) ∧ Below w.heap.size w w' := by
 have HG := hid hg
 clear hg
 by_cases hp : Lib.hasPrefix s.data.toList [91] = true
 ·have HN := hid (parseV_six (b := special) hp)
  have h1 : 1 ≤ s.data.toList.length := by
   have : [91].isPrefixOf s.data.toList = true := hp
   rw [List.isPrefixOf_iff_prefix] at this
   simpa using this.length_le
  have h1' : (1 : Int) ≤ (s.size : Int) := by simp at h1; omega
  obtain ⟨t, ht⟩ : ∃ t : ByteArray, t = s.extract 1 s.size := ⟨_, rfl⟩
  have htl : t.data.toList = s.data.toList.drop 1 := by rw [ht, extract_drop]
  have hts : t.size ≤ 4000000000 := by rw [ht]; simp; omega
  have HTe := hid ht.symm
  have HTl := hid htl
  clear ht htl h1
  go_enter Tryz.func278, Tryz.ntmps278
  go_wp2_with (first | (go_at_call 104; refine (hasPrefix_any _ _ _).mono ?_; rintro e w' ⟨rfl, rfl⟩; rw [show (⟨#[91]⟩ : ByteArray).data.toList = [91] from rfl, hp]) | (go_at_call 314; rw [HTe.out]; refine (parseSix_any _ _ HG.out hts).mono ?_; rintro e w1 ⟨rfl, hb1⟩; rw [HTl.out]))
  go_ret2
  rw [HN.out, List.drop_one]
  exact ⟨rfl, hb1⟩
 ·have hp' : Lib.hasPrefix s.data.toList [91] = false := by simpa using hp
  clear hp
  cases special with
  | true =>
   have HN := hid (parseV_name hp')
   have hu := size_le (unpct_le s.data.toList) hs
   have hl : (⟨(low (unpct s.data.toList)).toArray⟩ : ByteArray).size ≤ 4000000000 := size_le (by rw [low_length]; exact unpct_le _) hs
   go_enter Tryz.func278, Tryz.ntmps278
   go_wp2_with (first | (go_at_call 104; refine (hasPrefix_any _ _ _).mono ?_; rintro e w' ⟨rfl, rfl⟩; rw [show (⟨#[91]⟩ : ByteArray).data.toList = [91] from rfl, hp']) | (go_at_call 131; refine (unpercent_any _ _ (by omega)).mono ?_; rintro e w1 ⟨rfl, hb1⟩) | (go_at_call 89; refine (lower_any _ _ (by omega)).mono ?_; rintro e w2 ⟨rfl, hb2⟩; rw [show (⟨(unpct s.data.toList).toArray⟩ : ByteArray).data.toList = unpct s.data.toList from rfl]) | (go_at_call 315; refine (parseName_any _ _ (HG.out.kept (below2 hb1 hb2)) hl).mono ?_; rintro e w3 ⟨rfl, hb3⟩; rw [show (⟨(low (unpct s.data.toList)).toArray⟩ : ByteArray).data.toList = low (unpct s.data.toList) from rfl]))
   go_ret2
   rw [HN.out]
   exact ⟨rfl, below2 (below2 hb1 hb2) hb3⟩
  | false =>
   have HN := hid (parseV_other hp')
   go_enter Tryz.func278, Tryz.ntmps278
   go_wp2_with (first | (go_at_call 104; refine (hasPrefix_any _ _ _).mono ?_; rintro e w' ⟨rfl, rfl⟩; rw [show (⟨#[91]⟩ : ByteArray).data.toList = [91] from rfl, hp']) | (go_at_call 316; refine (parseOther_any _ _ hs).mono ?_; rintro e w1 ⟨rfl, hb1⟩))
   go_ret2
   rw [HN.out]
   exact ⟨rfl, hb1⟩

end Go.Proofs.YtgoefeaopegdoaaGreatDoor

namespace Go.Proofs.YtgoefeaopegdoaaGreatDoor
def digs (base n : Nat) : List UInt8 := digsN base 40 n []

theorem digsN_all (p : UInt8 → Bool) (base : Nat) (hb : 1 ≤ base) (hp : ∀ n < base, p (digC n) = true) : ∀ (f u : Nat) (T : List UInt8), T.all p = true → (digsN base f u T).all p = true
 | 0, _, T, h => by rw [digsN]; exact h
 | f + 1, u, T, h => by
  rw [digsN]
  split
  ·rename_i hu
   rw [List.all_cons, hp u hu, h]; rfl
  ·refine digsN_all p base hb hp f _ _ ?_
   rw [List.all_cons, hp _ (Nat.mod_lt _ (by omega)), h]; rfl

theorem digsN_ne (base : Nat) : ∀ (f u : Nat) (T : List UInt8), T ≠ [] ∨ f ≠ 0 → digsN base f u T ≠ []
 | 0, _, T, h => by rw [digsN]; exact h.resolve_right (by simp)
 | f + 1, u, T, _ => by
  rw [digsN]
  split
  ·simp
  ·exact digsN_ne base f _ _ (.inl (by simp))

theorem digs_ne (base n : Nat) : digs base n ≠ [] := digsN_ne _ _ _ _ (.inr (by decide))

theorem index_one_none (l : List UInt8) (c : UInt8) (h : c ∉ l) : Lib.index l [c] = -1 := by
 induction l with
 | nil => rfl
 | cons a l ih =>
  have ha : a ≠ c := fun e => h (by simp [e])
  have hl : c ∉ l := fun e => h (by simp [e])
  unfold Lib.index
  rw [ih hl]
  have : [c].isPrefixOf (a :: l) = false := by simp [List.isPrefixOf]; exact fun e => ha e.symm
  rw [this]; rfl

theorem index_one_some (a r : List UInt8) (c : UInt8) (h : c ∉ a) : Lib.index (a ++ c :: r) [c] = a.length := by
 induction a with
 | nil => unfold Lib.index; simp [List.isPrefixOf]
 | cons x a ih =>
  have hx : x ≠ c := fun e => h (by simp [e])
  have ha : c ∉ a := fun e => h (by simp [e])
  rw [List.cons_append]
  unfold Lib.index
  rw [ih ha]
  have : [c].isPrefixOf (x :: (a ++ c :: r)) = false := by simp [List.isPrefixOf]; exact fun e => hx e.symm
  rw [this]
  have h1 : ((a.length : Int) == -1) = false := by rw [beq_eq_false_iff_ne]; omega
  simp [h1]

theorem cut_none (l : List UInt8) (c : UInt8) (h : c ∉ l) : Lib.cut l [c] = (l, [], false) := by
 unfold Lib.cut
 rw [index_one_none l c h]; rfl

theorem cut_some (a r : List UInt8) (c : UInt8) (h : c ∉ a) : Lib.cut (a ++ c :: r) [c] = (a, r, true) := by
 unfold Lib.cut
 rw [index_one_some a r c h]
 simp

theorem noDot_dot (l : List UInt8) : noDot (l ++ [46]) = l := by
 unfold noDot Lib.trimSuffix
 rw [if_pos]
 ·simp
 ·unfold Lib.hasSuffix
  rw [List.isSuffixOf_iff_suffix]
  exact ⟨l, rfl⟩

theorem noDot_of (l : List UInt8) (h : ∀ t, l ≠ t ++ [46]) : noDot l = l := by
 unfold noDot Lib.trimSuffix
 rw [if_neg]
 unfold Lib.hasSuffix
 rw [List.isSuffixOf_iff_suffix]
 rintro ⟨t, ht⟩
 exact h t ht.symm

end Go.Proofs.YtgoefeaopegdoaaGreatDoor

namespace Go.Proofs.YtgoefeaopegdoaaGreatDoor
theorem unpct_plain : ∀ (l : List UInt8), 37 ∉ l → unpct l = l
 | [], _ => rfl
 | c :: l, h => by
  have hc : c ≠ 37 := fun e => h (by simp [e])
  rw [unpct_cons, pcd_other l c hc]
  simp only [Bool.false_eq_true, if_false]
  rw [unpct_plain l (fun e => h (by simp [e]))]

theorem low_plain (l : List UInt8) (h : ∀ c ∈ l, lowC c = c) : low l = l := by
 unfold low
 rw [List.map_congr_left h]; simp

theorem dec8_digs : ∀ n < 256, dec8 n = digs 10 n := by decide +kernel

end Go.Proofs.YtgoefeaopegdoaaGreatDoor

namespace Go.Proofs.YtgoefeaopegdoaaGreatDoor
theorem dec8_ne (n : Nat) (h : n < 256) : dec8 n ≠ [] := by rw [dec8_digs n h]; exact digs_ne 10 n

end Go.Proofs.YtgoefeaopegdoaaGreatDoor

namespace Go.Proofs.YtgoefeaopegdoaaGreatDoor
open Go.RowKit

theorem hexs_at (d : Nat) (h : d < 16) : ((⟨#[48, 49, 50, 51, 52, 53, 54, 55, 56, 57, 97, 98, 99, 100, 101, 102]⟩ : ByteArray).extract d (d + 1)).data.toList = [digC d] := by
 rcases (show d = 0 ∨ d = 1 ∨ d = 2 ∨ d = 3 ∨ d = 4 ∨ d = 5 ∨ d = 6 ∨ d = 7 ∨ d = 8 ∨ d = 9 ∨ d = 10 ∨ d = 11 ∨ d = 12 ∨ d = 13 ∨ d = 14 ∨ d = 15 from by omega) with
  rfl | rfl | rfl | rfl | rfl | rfl | rfl | rfl | rfl | rfl | rfl | rfl | rfl | rfl | rfl | rfl <;> (rw [Lib.extract_data]; rfl)

theorem hexs_app (d : Nat) (h : d < 16) (T : List UInt8) : (⟨#[48, 49, 50, 51, 52, 53, 54, 55, 56, 57, 97, 98, 99, 100, 101, 102]⟩ : ByteArray).extract d (d + 1) ++ ⟨T.toArray⟩ = ⟨(digC d :: T).toArray⟩ := by
 refine ba_ext ?_
 rw [ByteArray.data_append, Array.toList_append, hexs_at d h]; simp

def DigInv (base n f u : Nat) (T : List UInt8) : Prop :=
 u < base ^ f ∧ f ≤ 40 ∧ T.length + f = 40 ∧ ((digsN base f u T = digs base n ∧ (0 < u ∨ T = [])) ∨ (u = 0 ∧ T = digs base n ∧ T ≠ []))

theorem DigInv.step {base n f u : Nat} {T : List UInt8} (h2 : 2 ≤ base) (h : DigInv base n f u T) (hp : 0 < u ∨ T = []) : ∃ g, f = g + 1 ∧ DigInv base n g (u / base) (digC (u % base) :: T) := by
 obtain ⟨h1, hf, hT, hc⟩ := h
 have hd : digsN base f u T = digs base n := by
  rcases hc with ⟨h, _⟩ | ⟨h0, _, hne⟩
  ·exact h
  ·rcases hp with hp | hp
   ·omega
   ·exact absurd hp hne
 cases f with
 | zero =>
  simp at h1
  rcases hp with hp | hp
  ·omega
  ·subst hp; simp at hT
 | succ g =>
  refine ⟨g, rfl, ?_, by omega, by simp; omega, ?_⟩
  ·rw [Nat.div_lt_iff_lt_mul (by omega)]; rw [Nat.pow_succ] at h1; exact h1
  ·by_cases hu : u < base
   ·right
    rw [digsN_last _ _ _ _ hu] at hd
    refine ⟨Nat.div_eq_of_lt hu, by rw [Nat.mod_eq_of_lt hu]; exact hd, by simp⟩
   ·left
    rw [digsN_more _ _ _ _ hu] at hd
    exact ⟨hd, .inl (Nat.div_pos (by omega) (by omega))⟩

theorem DigInv.done {base n f u : Nat} {T : List UInt8} (h : DigInv base n f u T) (h0 : u = 0) (hT : T ≠ []) : T = digs base n := by
 obtain ⟨_, _, _, hc⟩ := h
 rcases hc with ⟨_, hp | hp⟩ | ⟨_, h, _⟩
 ·omega
 ·exact absurd hp hT
 ·exact h

end Go.Proofs.YtgoefeaopegdoaaGreatDoor

namespace Go.Proofs.YtgoefeaopegdoaaGreatDoor
open Go.RowKit

theorem tens_at (d : Nat) (h : d < 10) : ((⟨#[48, 49, 50, 51, 52, 53, 54, 55, 56, 57]⟩ : ByteArray).extract d (d + 1)).data.toList = [digC d] := by
 rcases (show d = 0 ∨ d = 1 ∨ d = 2 ∨ d = 3 ∨ d = 4 ∨ d = 5 ∨ d = 6 ∨ d = 7 ∨ d = 8 ∨ d = 9 from by omega) with
  rfl | rfl | rfl | rfl | rfl | rfl | rfl | rfl | rfl | rfl <;> (rw [Lib.extract_data]; rfl)

theorem tens_app (d : Nat) (h : d < 10) (T : List UInt8) : (⟨#[48, 49, 50, 51, 52, 53, 54, 55, 56, 57]⟩ : ByteArray).extract d (d + 1) ++ ⟨T.toArray⟩ = ⟨(digC d :: T).toArray⟩ := by
 refine ba_ext ?_
 rw [ByteArray.data_append, Array.toList_append, tens_at d h]; simp

theorem digsN_fuel (base : Nat) (h2 : 2 ≤ base) : ∀ (f g n : Nat) (T : List UInt8), f ≠ 0 → g ≠ 0 → n < base ^ f → n < base ^ g → digsN base f n T = digsN base g n T
 | 0, _, _, _, h, _, _, _ => absurd rfl h
 | _, 0, _, _, _, h, _, _ => absurd rfl h
 | f + 1, g + 1, n, T, _, _, hf, hg => by
  by_cases hn : n < base
  ·rw [digsN_last _ _ _ _ hn, digsN_last _ _ _ _ hn]
  ·rw [digsN_more _ _ _ _ hn, digsN_more _ _ _ _ hn]
   have hd : 0 < base := by omega
   have h1 : n / base < base ^ f := by rw [Nat.div_lt_iff_lt_mul hd]; rw [Nat.pow_succ] at hf; exact hf
   have h3 : n / base < base ^ g := by rw [Nat.div_lt_iff_lt_mul hd]; rw [Nat.pow_succ] at hg; exact hg
   have h0 : n / base ≠ 0 := Nat.pos_iff_ne_zero.1 (Nat.div_pos (by omega) hd)
   refine digsN_fuel base h2 f g _ _ ?_ ?_ h1 h3
   ·rintro rfl; simp at h1; omega
   ·rintro rfl; simp at h3; omega

theorem hex16_digs (n : Nat) (h : n < 65536) : hex16 n = digs 16 n := by
 unfold hex16 digs
 refine digsN_fuel 16 (by omega) 4 40 n [] (by omega) (by omega) (by omega) ?_
 have h1 : 16 ^ 4 ≤ 16 ^ 40 := Nat.pow_le_pow_right (by omega) (by omega)
 omega

set_option maxHeartbeats 2000000 in
theorem rdigits_any (n : Nat) (w : World) (hn : n < 65536) :
  Calls Tryz.prog 327 #[.int .u16 n] w fun e w' => e = .returned (.string ⟨(hex16 n).toArray⟩) ∧ w = w' := by
 rw [hex16_digs n hn]
 have h40 : n < 16 ^ 40 := by
  have h1 : 16 ^ 4 ≤ 16 ^ 40 := Nat.pow_le_pow_right (by omega) (by omega)
  omega
 have H0 := hid (show DigInv 16 n 40 n [] from ⟨h40, by omega, rfl, .inl ⟨rfl, .inr rfl⟩⟩)
 clear h40
 go_enter Tryz.func327, Tryz.ntmps327
 go_wp2
 go_loopg [0, 3] 40 (fun f nv sv wr => ∃ (u : Nat) (T : List UInt8), nv = .int .u16 u ∧ sv = .string ⟨T.toArray⟩ ∧ u < 65536 ∧ DigInv 16 n f u T ∧ wr = w)
 case atStart => exact ⟨n, [], rfl, rfl, hn, H0.out, rfl⟩
 case round =>
  obtain ⟨u, T, rfl, rfl, hu, hinv, rfl⟩ := hrel
  have hTl : T.length ≤ 40 := by have := hinv.2.2.1; omega
  have HI := hid hinv
  clear hinv
  have hm : u % 16 < 16 := by omega
  by_cases hp : 0 < u ∨ T = []
  ·obtain ⟨g, rfl, hnext⟩ := HI.out.step (by omega) hp
   have HN := hid hnext
   have HX := hid (hexs_app (u % 16) hm T)
   have hul : u / 16 < 65536 := by omega
   clear hnext
   by_cases h0 : 0 < u
   ·have h0' : (0 : Int) < (u : Int) := by omega
    clear hp
    go_wp2
    go_roundg g
    case measure => omega
    case rel => exact ⟨_, _, by go_num, by rw [HX.out], hul, HN.out, rfl⟩
   ·have hT0 : T = [] := hp.resolve_left h0
    have hu0 : u = 0 := by omega
    subst hT0
    subst hu0
    clear hp h0
    go_wp2
    go_roundg g
    case measure => omega
    case rel => exact ⟨_, _, by go_num, by rw [HX.out], hul, HN.out, rfl⟩
  ·have hu0 : u = 0 := by omega
   have hT : T ≠ [] := fun h => hp (.inr h)
   have HD := hid (HI.out.done hu0 hT)
   have he : T.isEmpty = false := by simpa using hT
   subst hu0
   clear hp hT
   go_wp2
   go_ret
   rw [HD.out]
   exact ⟨rfl, rfl⟩

set_option maxHeartbeats 2000000 in
theorem numeral_nat (n : Nat) (w : World) (hn : n ≤ 9223372036854775807) :
  Calls Tryz.prog 330 #[.int .i64 n] w fun e w' => e = .returned (.string ⟨(digs 10 n).toArray⟩) ∧ w = w' := by
 have h40 : n < 10 ^ 40 := by
  have h3 : (9223372036854775807 : Nat) < 10 ^ 40 := by decide
  omega
 have H0 := hid (show DigInv 10 n 40 n [] from ⟨h40, by omega, rfl, .inl ⟨rfl, .inr rfl⟩⟩)
 clear h40
 have hq1 : ((n : Int) == -9223372036854775808) = false := by rw [beq_eq_false_iff_ne]; omega
 have hq2 : decide ((n : Int) < 0) = false := decide_eq_false (by omega)
 go_enter Tryz.func330, Tryz.ntmps330
 go_wp2
 go_loopg [0, 3] 40 (fun f nv sv wr => ∃ (u : Nat) (T : List UInt8), nv = .int .i64 u ∧ sv = .string ⟨T.toArray⟩ ∧ u ≤ 9223372036854775807 ∧ DigInv 10 n f u T ∧ wr = w)
 case atStart => exact ⟨n, [], rfl, rfl, hn, H0.out, rfl⟩
 case round =>
  obtain ⟨u, T, rfl, rfl, hu, hinv, rfl⟩ := hrel
  have hTl : T.length ≤ 40 := by have := hinv.2.2.1; omega
  have HI := hid hinv
  clear hinv
  have hm : u % 10 < 10 := by omega
  have ht1 : (u : Int).tmod 10 = ((u % 10 : Nat) : Int) := by rw [Int.tmod_eq_emod_of_nonneg (by omega)]; omega
  have ht2 : (u : Int).tdiv 10 = ((u / 10 : Nat) : Int) := by rw [Int.tdiv_eq_ediv_of_nonneg (by omega)]; omega
  by_cases hp : 0 < u ∨ T = []
  ·obtain ⟨g, rfl, hnext⟩ := HI.out.step (by omega) hp
   have HN := hid hnext
   have HX := hid (tens_app (u % 10) hm T)
   have hul : u / 10 ≤ 9223372036854775807 := by omega
   clear hnext
   by_cases h0 : 0 < u
   ·have h0' : (0 : Int) < (u : Int) := by omega
    clear hp
    go_wp2
    go_roundg g
    case measure => omega
    case rel => exact ⟨_, _, by go_num, by rw [HX.out], hul, HN.out, rfl⟩
   ·have hT0 : T = [] := hp.resolve_left h0
    have hu0 : u = 0 := by omega
    subst hT0
    subst hu0
    clear hp h0
    go_wp2
    go_roundg g
    case measure => omega
    case rel => exact ⟨_, _, by go_num, by rw [HX.out], hul, HN.out, rfl⟩
  ·have hu0 : u = 0 := by omega
   have hT : T ≠ [] := fun h => hp (.inr h)
   have HD := hid (HI.out.done hu0 hT)
   have he : T.isEmpty = false := by simpa using hT
   subst hu0
   clear hp hT
   go_wp2
   go_ret
   rw [HD.out]
   exact ⟨rfl, rfl⟩

end Go.Proofs.YtgoefeaopegdoaaGreatDoor

namespace Go.Proofs.YtgoefeaopegdoaaGreatDoor
theorem joined_nil : joined [] = [] := by simp [joined, Lib.join, List.intercalate]

theorem joined_one (n : Nat) : joined [n] = hex16 n := by simp [joined, Lib.join, List.intercalate]

theorem joined_cons (a b : Nat) (l : List Nat) : joined (a :: b :: l) = hex16 a ++ ([58] ++ joined (b :: l)) := by simp [joined, Lib.join, List.intercalate]

theorem joined_snoc : ∀ (l : List Nat) (n : Nat), l ≠ [] → joined (l ++ [n]) = joined l ++ ([58] ++ hex16 n)
 | [], _, h => absurd rfl h
 | [a], n, _ => by
  show joined (a :: n :: []) = _
  rw [joined_cons, joined_one, joined_one]
 | a :: b :: l, n, _ => by
  show joined (a :: b :: (l ++ [n])) = _
  have := joined_snoc (b :: l) n (by simp)
  rw [joined_cons, joined_cons]
  rw [show b :: (l ++ [n]) = (b :: l) ++ [n] from rfl, this]
  simp

theorem hex16_no58 (n : Nat) : 58 ∉ hex16 n := by
 intro h
 have hall := digsN_all (fun c => c != 58) 16 (by omega) (by decide) 4 n [] rfl
 have := List.all_eq_true.1 hall 58 h
 simp at this

theorem hex16_ne (n : Nat) : hex16 n ≠ [] := digsN_ne 16 4 n [] (.inr (by decide))

theorem last_of (l : List UInt8) (h : l ≠ []) : ∃ A c, l = A ++ [c] := ⟨l.dropLast, l.getLast h, (List.dropLast_concat_getLast h).symm⟩

def EndsWell (T : List UInt8) : Prop := ∃ A c, T = A ++ [c] ∧ c ≠ 58

theorem EndsWell.app (P : List UInt8) {T : List UInt8} (h : EndsWell T) : EndsWell (P ++ T) := by
 obtain ⟨A, c, e, hc⟩ := h
 exact ⟨P ++ A, c, by rw [e, List.append_assoc], hc⟩

theorem hex16_ends (n : Nat) : EndsWell (hex16 n) := by
 obtain ⟨A, c, e⟩ := last_of _ (hex16_ne n)
 refine ⟨A, c, e, fun hc => hex16_no58 n ?_⟩
 rw [e, hc]; simp

theorem joined_ends (l : List Nat) (h : l ≠ []) : EndsWell (joined l) := by
 have e : l = l.dropLast ++ [l.getLast h] := (List.dropLast_concat_getLast h).symm
 rw [e]
 by_cases h0 : l.dropLast = []
 ·rw [h0, List.nil_append, joined_one]; exact hex16_ends _
 ·rw [joined_snoc _ _ h0]
  exact ((hex16_ends _).app [58]).app _

def t6 (x : List Nat) (fr tu i : Nat) : List UInt8 :=
 if fr = tu ∨ i ≤ fr then joined (x.take i) else joined (x.take fr) ++ ([58, 58] ++ joined ((x.take i).drop tu))

theorem t6_step (x : List Nat) (fr tu i : Nat) (hi : i < x.length) (hft : fr ≤ tu) (hc : fr = tu ∨ i < fr ∨ tu ≤ i) :
  (t6 x fr tu i = [] ∧ t6 x fr tu (i + 1) = hex16 x[i]) ∨ ((∃ A, t6 x fr tu i = A ++ [58]) ∧ t6 x fr tu (i + 1) = t6 x fr tu i ++ hex16 x[i]) ∨ (EndsWell (t6 x fr tu i) ∧ t6 x fr tu (i + 1) = t6 x fr tu i ++ ([58] ++ hex16 x[i])) := by
 have htk : x.take (i + 1) = x.take i ++ [x[i]] := (List.take_append_getElem hi).symm
 by_cases hA : fr = tu ∨ i < fr
 ·have h1 : t6 x fr tu i = joined (x.take i) := by rw [t6, if_pos (by omega)]
  have h2 : t6 x fr tu (i + 1) = joined (x.take i ++ [x[i]]) := by rw [t6, if_pos (by omega), htk]
  rw [h1, h2]
  by_cases h0 : i = 0
  ·left
   subst h0
   rw [List.take_zero]
   exact ⟨joined_nil, by rw [List.nil_append, joined_one]⟩
  ·right; right
   have hne : x.take i ≠ [] := by
    intro h
    have := congrArg List.length h
    rw [List.length_take, List.length_nil] at this; omega
   exact ⟨joined_ends _ hne, joined_snoc _ _ hne⟩
 ·have hti : tu ≤ i := by omega
  have h1 : t6 x fr tu i = joined (x.take fr) ++ ([58, 58] ++ joined ((x.take i).drop tu)) := by rw [t6, if_neg (by omega)]
  have h2 : t6 x fr tu (i + 1) = joined (x.take fr) ++ ([58, 58] ++ joined ((x.take i).drop tu ++ [x[i]])) := by
   rw [t6, if_neg (by omega), htk, List.drop_append_of_le_length (by simp; omega)]
  rw [h1, h2]
  by_cases h0 : i = tu
  ·right; left
   have hd : (x.take i).drop tu = [] := List.drop_eq_nil_of_le (by simp; omega)
   rw [hd, joined_nil, List.nil_append, joined_one]
   exact ⟨⟨joined (x.take fr) ++ [58], by simp⟩, by simp⟩
  ·right; right
   have hne : (x.take i).drop tu ≠ [] := by
    intro h
    have := congrArg List.length h
    simp at this; omega
   refine ⟨((joined_ends _ hne).app _).app _, ?_⟩
   rw [joined_snoc _ _ hne]; simp

theorem t6_mark (x : List Nat) (fr tu : Nat) (h : fr < tu) (hx : tu ≤ x.length) : t6 x fr tu tu = t6 x fr tu fr ++ [58, 58] := by
 have hd : (x.take tu).drop tu = [] := List.drop_eq_nil_of_le (by simp; omega)
 rw [t6, if_neg (by omega), t6, if_pos (by omega), hd, joined_nil]; simp

theorem t6_end (x : List Nat) (hx : x.length = 8) (hl : (lrun x).1 = (lrun x).2 ∨ (lrun x).1 < (lrun x).2) (h2 : (lrun x).2 ≤ 8) : t6 x (lrun x).1 (lrun x).2 8 = text6 x := by
 have h8 : x.take 8 = x := List.take_of_length_le (by omega)
 unfold text6
 by_cases h : (lrun x).1 = (lrun x).2
 ·rw [if_pos h, t6, if_pos (.inl h), h8]
 ·rw [if_neg h, t6, if_neg (by omega), h8]

theorem t6_le (x : List Nat) (fr tu i : Nat) (hx : x.length = 8) : (t6 x fr tu i).length ≤ 200 := by
 unfold t6
 split
 ·have := joined_le (x.take i)
  have h2 : (x.take i).length ≤ 8 := by simp; omega
  omega
 ·have h1 := joined_le (x.take fr)
  have h3 := joined_le ((x.take i).drop tu)
  have h2 : (x.take fr).length ≤ 8 := by simp; omega
  have h4 : ((x.take i).drop tu).length ≤ 8 := by simp; omega
  simp only [List.length_append, List.length_cons, List.length_nil]
  omega

end Go.Proofs.YtgoefeaopegdoaaGreatDoor

namespace Go.Proofs.YtgoefeaopegdoaaGreatDoor
def noPair : List UInt8 → Bool
 | a :: b :: l => !(a == 58 && b == 58) && noPair (b :: l)
 | _ => true

theorem index2_none : ∀ (l : List UInt8), noPair l = true → Lib.index l [58, 58] = -1
 | [], _ => rfl
 | [a], _ => by
  unfold Lib.index
  rw [index2_none [] rfl]
  simp [List.isPrefixOf]
 | a :: b :: l, h => by
  simp only [noPair, Bool.and_eq_true] at h
  unfold Lib.index
  rw [index2_none (b :: l) h.2]
  have : [58, 58].isPrefixOf (a :: b :: l) = false := by
   simp [List.isPrefixOf]
   have := h.1
   simp at this
   intro e e2; rcases this with h | h
   ·exact h e.symm
   ·exact h e2.symm
  rw [this]; rfl

theorem index2_some : ∀ (a r : List UInt8), noPair (a ++ [58]) = true → Lib.index (a ++ 58 :: 58 :: r) [58, 58] = a.length
 | [], r, _ => by unfold Lib.index; simp [List.isPrefixOf]
 | x :: a, r, h => by
  have hx : [58, 58].isPrefixOf (x :: (a ++ 58 :: 58 :: r)) = false := by
   cases a with
   | nil =>
    simp [noPair] at h
    simp [List.isPrefixOf]
    exact fun e => h e.symm
   | cons y a =>
    have h' : noPair (x :: y :: (a ++ [58])) = true := h
    simp only [noPair, Bool.and_eq_true] at h'
    have := h'.1
    simp at this
    simp [List.isPrefixOf]
    intro e e2; rcases this with h | h
    ·exact h e.symm
    ·exact h e2.symm
  have h2 : noPair (a ++ [58]) = true := by
   cases a with
   | nil => rfl
   | cons y a =>
    have h' : noPair (x :: y :: (a ++ [58])) = true := h
    simp only [noPair, Bool.and_eq_true] at h'
    exact h'.2
  rw [List.cons_append]
  unfold Lib.index
  rw [index2_some a r h2, hx]
  have h1 : ((a.length : Int) == -1) = false := by rw [beq_eq_false_iff_ne]; omega
  simp [h1]

theorem cut2_none (l : List UInt8) (h : noPair l = true) : Lib.cut l [58, 58] = (l, [], false) := by
 unfold Lib.cut
 rw [index2_none l h]; rfl

theorem cut2_some (a r : List UInt8) (h : noPair (a ++ [58]) = true) : Lib.cut (a ++ ([58, 58] ++ r)) [58, 58] = (a, r, true) := by
 unfold Lib.cut
 rw [show a ++ ([58, 58] ++ r) = a ++ 58 :: 58 :: r from rfl, index2_some a r h]
 simp



def fold16 (n : Nat) (l : List UInt8) : Nat := l.foldl (fun a c => a * 16 + dig16 c) n

end Go.Proofs.YtgoefeaopegdoaaGreatDoor
