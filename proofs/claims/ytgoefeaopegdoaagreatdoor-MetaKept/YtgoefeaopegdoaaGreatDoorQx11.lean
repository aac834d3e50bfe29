/-
  Walks and plain facts that this claim leans on, put together out of 3 texts: Sa, Sd, Uk.
-/
import Derived.Test.YtgoefeaopegdoaaGreatDoorProg
import Derived.Test.YtgoefeaopegdoaaGreatDoorQx1
import Derived.Test.YtgoefeaopegdoaaGreatDoorQx2
import Derived.Test.YtgoefeaopegdoaaGreatDoorQx3
import Derived.Test.YtgoefeaopegdoaaGreatDoorQx4
import Derived.Test.YtgoefeaopegdoaaGreatDoorQx5
import Derived.Test.YtgoefeaopegdoaaGreatDoorQx6
import Derived.Test.YtgoefeaopegdoaaGreatDoorQx8
import Derived.Test.YtgoefeaopegdoaaGreatDoorQx9
import Derived.WalkKit
import Derived.Lib.Strings
import Derived.Lib.UnsafeStr
import Derived.Laws.IdiomStrings
import Derived.Laws.AppendOwn
import Derived.Laws.BitsAllLaws
import Derived.Lib.Bytealg
import Derived.Lib.BufferMore
import Derived.LoopN
import Derived.RegionTactic
import Derived.Deep.RegionWith
import Derived.Deep.QuietTactic
import Derived.BigQuiet
import Derived.Shelf.Strings.Builder1
import Derived.Shelf.Strings.Builder2
import Derived.Shelf.Strings.OnBuilder
import Derived.Shelf.Strings.Trim
import Derived.Shelf.Small.Utf8
import Derived.Shelf.Small.Bits
import Derived.Shelf.Small.Strs
import Derived.Shelf.Small.Wraps
import Derived.Shelf.Strings.BuilderF
import Derived.Shelf.Strings.BuilderK
import Derived.Shelf.Strings.BuilderRune
import Derived.Shelf.Utf8.AppendRune
import Derived.Shelf.Utf8.AppendRunePlain
import Derived.Shelf.Strings.Builder2Cap
import Derived.Shelf.Strconv.Itoa0
import Derived.Shelf.Strconv.Itoa1
import Derived.Shelf.LaysM
import Derived.Shelf.Strconv.Itoa2
import Derived.Shelf.Strconv.Itoa3
import Derived.Shelf.Strings.Search1
import Derived.Shelf.Strings.Search2
import Derived.Shelf.Strings.Search3
import Derived.Shelf.Strings.Cut
import Derived.Shelf.Strings.Count
import Derived.Shelf.Strings.Shaped
import Derived.Shelf.Strings.LastIndex
import Derived.Shelf.Strings.Prefix
import Derived.Shelf.Strings.Split
import Derived.Shelf.Strings.Replace
import Derived.Shelf.Strings.Runes
import Derived.Shelf.Strings.IndexAny
import Derived.Shelf.Strings.AsciiSet
import Derived.Shelf.Strings.IndexAnyAll
import Derived.Shelf.Unicode.DecodeSlow
import Derived.Ground.Names2Prog
import Derived.Shelf.Slices.Clone
import Derived.Shelf.Slices.In.SortNone
import Derived.Ground.SlgnProg
import Derived.Shelf.SlicesE.Clone
import Derived.WalkSpells
import Derived.WalkLawsBesides
import Derived.Lib.FrozenHead2
import Derived.Lib.OthersKept
import Derived.Lib.Builder
import Derived.Lib.IndexMore
import Derived.Lib.Join
import Derived.Lib.LastIndexByte
import Derived.Laws.OwnMore
import Derived.Lib.AppendIntMem
import Derived.Lib.SmallJoins
import Derived.WalkSmall
import Derived.WalkMore
import Derived.Deep.LoopGhost
import Derived.OwnWalk
import Derived.Laws.CopyOwn
import Derived.Laws.ResultCell
import Derived.Deep.MidRow
import Derived.Scope
import Derived.ScopeJumps
import Derived.Lib.IndexAny
import Derived.Lib.Replace
import Derived.Lib.TrimByte
import Derived.Lib.ItoaNum
import Derived.Laws.RangeAny
import Derived.Lib.DecodeN
import Derived.Laws.BytesString
import Derived.Deep.RegionLaw
set_option linter.unusedSimpArgs false
set_option linter.unusedVariables false

namespace Go.Proofs.YtgoefeaopegdoaaGreatDoor
open Go.RowKit

theorem ret_str {l : List UInt8} {t : ByteArray} (h : t.data.toList = l) : Ending.returned (.string t) = .returned (.string ⟨l.toArray⟩) := by
 rw [← h, Lib.mk_data]

set_option maxHeartbeats 400000 in
theorem rdigit_any (c : Int) (w : World) :
  Calls Tryz.prog 138 #[.int .u8 c] w fun e w' => e = .returned (.bool (digitI c)) ∧ w = w' := by
 go_enter Tryz.func138, Tryz.ntmps138
 go_wp2
 all_goals
  go_ret
  exact ⟨ret_bool (by rw [Bool.eq_iff_iff]; simp [digitI]; omega), rfl⟩

set_option maxHeartbeats 1000000 in
theorem rlower_any (s : ByteArray) (w : World) (hs : s.size ≤ 140737488351232) :
  Calls Tryz.prog 102 #[.string s] w fun e w' => e = .returned (.string ⟨(low s.data.toList).toArray⟩) ∧ Below w.heap.size w w' := by
 have hcv := run_bytes_of_string (P := Tryz.prog) w 9 113 5 s Tryz.underlying9 Tryz.underlying113 Tryz.underlying5
 have hcap := grownCap_ge w s.size 0 5
 have hr0 := rowIs_bytes w 5 s (grownCap w s.size 0 5) hcap
 have hb0 : Below w.heap.size w (w.drew.alloc (.cells (bytesRow s (grownCap w s.size 0 5)) 5 ((bytesRow s (grownCap w s.size 0 5)).size, (bytesRow s (grownCap w s.size 0 5)).size + 1))) := (Below.refl _ w).drew.alloc (Nat.le_refl _) _
 generalize (w.drew.alloc (.cells (bytesRow s (grownCap w s.size 0 5)) 5 ((bytesRow s (grownCap w s.size 0 5)).size, (bytesRow s (grownCap w s.size 0 5)).size + 1))) = w0 at hcv hr0 hb0
 generalize grownCap w s.size 0 5 = cap at hcv hcap
 go_enter Tryz.func102, Tryz.ntmps102
 go_wp2
 clear hcv
 go_loopw [4] (fun i wr => ∃ k : Nat, k ≤ s.size ∧ i = .int .i64 k ∧ rowIs wr w.heap.size 5 (lowTo s.data.toList k) ∧ Below w.heap.size w wr)
  (fun i _ => s.size - (intOf i).toNat)
 case atStart => exact ⟨0, Nat.zero_le _, rfl, by rw [lowTo_zero]; exact hr0, hb0⟩
 case round =>
  obtain ⟨k, hk, rfl, hr, hbw⟩ := hrel
  by_cases hlt : k < s.size
  ·have hl : k < s.data.toList.length := by simpa using hlt
   have hl' : k < (lowTo s.data.toList k).length := by rw [lowTo_length]; exact hl
   have hc := hr.cell k hl'
   rw [lowTo_at _ _ hl] at hc
   have hf := hr.frozen k hl'
   have hsucc := lowTo_succ s.data.toList k hl
   have hat := lowTo_at s.data.toList k hl hl'
   generalize s.data.toList[k] = c at hc hsucc hat
   have HS := hid hsucc
   have HAt := hid hat
   clear hsucc hat
   have hc8 : c.toNat < 256 := c.toNat_lt
   by_cases hu : 65 ≤ c.toNat ∧ c.toNat ≤ 90
   ·have h1 : (65 : Int) ≤ (c.toNat : Int) := by omega
    have h2 : (c.toNat : Int) ≤ 90 := by omega
    have HL := hid (lowC_yes c hu)
    clear hu
    go_wp2
    go_roundw
    case rel =>
     refine ⟨k + 1, by omega, by go_num, ?_, hbw.setCell (p := ⟨w.heap.size, k, none⟩) (Nat.le_refl _) _⟩
     rw [HS.out, ← HL.out]
     exact hr.set k _
    case measure => simp [intOf]; omega
   ·have HL := hid (lowC_no c hu)
    have hu' : (c.toNat : Int) < 65 ∨ 90 < (c.toNat : Int) := by omega
    clear hu
    rcases hu' with h1 | h1
    all_goals
     go_wp2
     go_roundw
     case rel =>
      refine ⟨k + 1, by omega, by go_num, ?_, hbw⟩
      have e : lowC c = (lowTo s.data.toList k)[k] := by rw [HL.out, HAt.out]
      rw [HS.out, e, List.set_getElem_self]
      exact hr
     case measure => simp [intOf]; omega
  ·have hk' : k = s.data.toList.length := by simp; omega
   have hr' : rowIs wr w.heap.size 5 (low s.data.toList) := by rw [← lowTo_all, ← hk']; exact hr
   clear hr hk'
   have hcv := hr'.string (P := Tryz.prog) (src := 113) (dst := 9) (cap := cap) Tryz.underlying113 Tryz.underlying5 Tryz.underlying9
   rw [show (low s.data.toList).length = s.size by simp [low]] at hcv
   go_wp2
   go_ret
   exact ⟨rfl, hbw⟩

def inTo (c : Int) (t : List UInt8) (m : Nat) : Bool := (decide (c < 32) || decide (126 < c)) || (t.take m).any fun x => c == (x.toNat : Int)

theorem inTo_zero (c : Int) (t : List UInt8) : inTo c t 0 = (decide (c < 32) || decide (126 < c)) := by simp [inTo]

theorem inTo_succ (c : Int) (t : ByteArray) (k : Nat) (h : k < t.size) : inTo c t.data.toList (k + 1) = (inTo c t.data.toList k || c == (t[k].toNat : Int)) := by
 unfold inTo
 rw [take_snoc t k h, List.any_append, Bool.or_assoc]
 have e : [t[k]].any (fun x => c == (x.toNat : Int)) = (c == (t[k].toNat : Int)) := by simp
 rw [e]
 simp only [Bool.or_assoc]

theorem inTo_all (c : Int) (t : ByteArray) : inTo c t.data.toList t.size = ((decide (c < 32) || decide (126 < c)) || t.data.toList.any fun x => c == (x.toNat : Int)) := by
 unfold inTo
 rw [take_all t t.size (by omega)]

def setL (set : Int) : List UInt8 :=
 if set = 2 then [32, 34, 60, 62, 96] else if set = 3 then [32, 34, 35, 60, 62] else if set = 4 then [32, 34, 35, 60, 62, 39] else if set = 5 then [32, 34, 35, 60, 62, 63, 94, 96, 123, 125] else if set = 6 then [32, 34, 35, 60, 62, 63, 94, 96, 123, 125, 47, 58, 59, 61, 64, 91, 92, 93, 124] else []

theorem setL_in (c set : Int) (h : 1 ≤ set ∧ set ≤ 6) : ((decide (c < 32) || decide (126 < c)) || (setL set).any fun x => c == (x.toNat : Int)) = inSetI c set := by
 rw [Bool.eq_iff_iff, inSetI_iff]
 have h' : set = 1 ∨ set = 2 ∨ set = 3 ∨ set = 4 ∨ set = 5 ∨ set = 6 := by omega
 rcases h' with rfl | rfl | rfl | rfl | rfl | rfl <;> simp [setL, inSetP] <;> omega

set_option maxHeartbeats 1000000 in
theorem rin_1 (c : Int) (w : World) :
  Calls Tryz.prog 240 #[.int .u8 c, .int .i64 1] w fun e w' => e = .returned (.bool (inSetI c 1)) ∧ w = w' := by
 have HF := hid (setL_in c 1 (by omega))
 have hc : c < 32 ∨ (32 ≤ c ∧ 126 < c) ∨ (32 ≤ c ∧ c ≤ 126) := by omega
 rcases hc with hc | ⟨hc1, hc2⟩ | ⟨hc1, hc2⟩
 all_goals
  go_enter Tryz.func240, Tryz.ntmps240
  go_wp2
  generalize hT : ByteArray.mk #[] = t
  have hts : t.size ≤ 19 := by rw [← hT]; decide
  have HA : Hid (inTo c t.data.toList t.size = inSetI c 1) := hid ((inTo_all c t).trans (by rw [← hT]; exact HF.out))
  clear hT HF
  go_loop [5, 7] (fun o j => ∃ m : Nat, m ≤ t.size ∧ j = .int .i64 m ∧ o = .bool (inTo c t.data.toList m)) (fun _ j => t.size - (intOf j).toNat)
  case atStart => exact ⟨0, by omega, rfl, by rw [inTo_zero] <;> (try congr 1) <;> (try simp) <;> omega⟩
  case round =>
   obtain ⟨m, hm, rfl, rfl⟩ := hrel
   by_cases hlt : m < t.size
   ·have HS := hid (inTo_succ c t m hlt)
    have hot : inTo c t.data.toList m = true ∨ inTo c t.data.toList m = false := by cases inTo c t.data.toList m <;> simp
    rcases hot with hot | hot
    all_goals
     go_wp2
     go_round
     case rel => exact ⟨m + 1, by omega, by go_num, by rw [HS.out, hot]; simp⟩
     case measure => simp [intOf]; omega
   ·obtain rfl : m = t.size := by omega
    go_wp2
    go_ret
    exact ⟨ret_bool HA.out, rfl⟩

theorem extract_hex : ∀ n, n < 16 → ((ByteArray.mk #[48, 49, 50, 51, 52, 53, 54, 55, 56, 57, 65, 66, 67, 68, 69, 70]).extract n (n + 1)).data.toList = [hexD n] := by decide +kernel

set_option maxHeartbeats 1000000 in
theorem rescape_any (c : UInt8) (w : World) :
  Calls Tryz.prog 139 #[.int .u8 c.toNat] w fun e w' => e = .returned (.string ⟨(esc c).toArray⟩) ∧ Below w.heap.size w w' := by
 have hc8 := c.toNat_lt
 have ha := and15 c.toNat hc8
 have hsz : (ByteArray.mk #[48, 49, 50, 51, 52, 53, 54, 55, 56, 57, 65, 66, 67, 68, 69, 70]).size = 16 := rfl
 have h1 : (c.toNat : Int) / 16 ≤ 15 := by omega
 have h2 : (c.toNat : Int) % 16 ≤ 15 := by omega
 have h3 : (0 : Int) ≤ (c.toNat : Int) / 16 := by omega
 have h4 : (0 : Int) ≤ (c.toNat : Int) % 16 := by omega
 go_enter Tryz.func139, Tryz.ntmps139
 go_wp2
 go_quiet (fail)
 go_wp2
 go_ret
 refine ⟨ret_str ?_, Go.below_drewN (Below.refl _ w) _⟩
 rw [ByteArray.data_append, ByteArray.data_append, Array.toList_append, Array.toList_append, extract_hex _ (by omega), extract_hex _ (by omega)]
 rfl

theorem extract_at (s : ByteArray) (k : Nat) (h : k < s.size) : (s.extract k (k + 1)).data.toList = [s[k]] := by
 rw [Lib.extract_data]
 have h' : k < s.data.toList.length := by simpa using h
 have := List.drop_eq_getElem_cons h'
 rw [List.take_drop] at *
 simp [this, List.drop_take]
 rfl

set_option maxHeartbeats 1000000 in
theorem rpercent_any (s : ByteArray) (w : World) (hs : s.size ≤ 1000000) :
  Calls Tryz.prog 207 #[.string s, .int .i64 1] w fun e w' => e = .returned (.string ⟨(pct 1 s.data.toList).toArray⟩) ∧ Below w.heap.size w w' := by
 go_enter Tryz.func207, Tryz.ntmps207
 go_wp2
 go_loopw [5, 6] (fun o i wr => ∃ (k : Nat) (t : ByteArray), k ≤ s.size ∧ i = .int .i64 k ∧ o = .string t ∧ t.data.toList = pct 1 (s.data.toList.take k) ∧ Below w.heap.size w wr) (fun _ i _ => s.size - (intOf i).toNat)
 case atStart => exact ⟨0, _, Nat.zero_le _, rfl, rfl, rfl, Below.refl _ w⟩
 case round =>
  obtain ⟨k, t, hk, rfl, rfl, ht, hbw⟩ := hrel
  have htl : t.size ≤ 3 * k := by
   rw [Lib.size_eq, ht]
   have := pct_le 1 (s.data.toList.take k)
   simp at this
   omega
  have HT := hid ht
  clear ht
  by_cases hlt : k < s.size
  ·have HS := hid (take_snoc s k hlt)
   have HP := hid (pct_snoc 1 (s.data.toList.take k) s[k])
   by_cases hin : inSetI (s[k].toNat : Int) 1 = true
   ·go_wp2_with (first | (go_at_call 240; refine (rin_1 _ _).mono ?_; rintro e w' ⟨rfl, rfl⟩))
    refine (rescape_any s[k] wr).mono ?_
    rintro e w1 ⟨rfl, hb1⟩
    have hes : (ByteArray.mk (esc s[k]).toArray).size = 3 := rfl
    go_wp2
    go_roundw
    case rel =>
     refine ⟨k + 1, _, by omega, by go_num, rfl, ?_, hbw.trans (hb1.mono hbw.size)⟩
     rw [ByteArray.data_append, Array.toList_append, HT.out, HS.out, HP.out, pct1, if_pos hin]
    case measure => simp [intOf]; omega
   ·have hin' : inSetI (s[k].toNat : Int) 1 = false := by simpa using hin
    clear hin
    go_wp2_with (first | (go_at_call 240; refine (rin_1 _ _).mono ?_; rintro e w' ⟨rfl, rfl⟩))
    go_roundw
    case rel =>
     refine ⟨k + 1, _, by omega, by go_num, rfl, ?_, hbw⟩
     rw [ByteArray.data_append, Array.toList_append, HT.out, HS.out, HP.out, pct1, hin', extract_at s k hlt]
     rfl
    case measure => simp [intOf]; omega
  ·have ht := HT.out
   rw [take_all s k hlt] at ht
   have HT2 := hid ht
   clear ht HT
   go_wp2
   go_ret
   exact ⟨ret_str HT2.out, hbw⟩

def hexI (c : Int) : Int := if is16I c then val16I c else -1

set_option maxHeartbeats 400000 in
theorem rhex_any (c : Int) (w : World) (h0 : 0 ≤ c) (h1 : c ≤ 255) :
  Calls Tryz.prog 188 #[.int .u8 c] w fun e w' => e = .returned (.int .i64 (hexI c)) ∧ w = w' := by
 by_cases hd : digitI c = true
 ·have hd2 : 48 ≤ c ∧ c ≤ 57 := by simp [digitI] at hd; omega
  go_enter Tryz.func188, Tryz.ntmps188
  go_wp2_with (go_at_call 138; refine (rdigit_any _ _).mono ?_; rintro e w' ⟨rfl, rfl⟩)
  all_goals
   go_ret
   exact ⟨ret_int (by simp [hexI, is16I, val16I, hd, digitI]; omega), rfl⟩
 ·have hd' : digitI c = false := by simpa using hd
  have hd2 : c < 48 ∨ 57 < c := by simp [digitI] at hd'; omega
  clear hd
  have hc : (97 ≤ c ∧ c ≤ 102) ∨ (65 ≤ c ∧ c ≤ 70) ∨ (c < 65 ∨ (70 < c ∧ c < 97) ∨ 102 < c) := by omega
  rcases hc with ⟨h3, h4⟩ | ⟨h3, h4⟩ | h3 | ⟨h3, h4⟩ | h3
  all_goals
   go_enter Tryz.func188, Tryz.ntmps188
   go_wp2_with (go_at_call 138; refine (rdigit_any _ _).mono ?_; rintro e w' ⟨rfl, rfl⟩)
  all_goals
   go_ret
   refine ⟨ret_int ?_, rfl⟩
   have e1 : is16I c = (decide (65 ≤ c) && decide (c ≤ 70) || decide (97 ≤ c) && decide (c ≤ 102)) := by simp [is16I, hd']
   unfold hexI
   rw [e1]
   simp [val16I, digitI]
   omega

end Go.Proofs.YtgoefeaopegdoaaGreatDoor

namespace Go.Proofs.YtgoefeaopegdoaaGreatDoor
open Go.RowKit

def cellsS (L : List (List UInt8)) : List Value := L.map fun x => Value.string ⟨x.toArray⟩

theorem cellsS_app (a b : List (List UInt8)) : cellsS (a ++ b) = cellsS a ++ cellsS b := by simp [cellsS]

theorem cellsS_len (a : List (List UInt8)) : (cellsS a).length = a.length := by simp [cellsS]

theorem cellsS_one (X : ByteArray) : cellsS [X.data.toList] = [.string X] := by
 show [Value.string ⟨X.data.toList.toArray⟩] = _
 rw [Lib.mk_data]

def TxtS (w : World) (b : Nat) (L : List (List UInt8)) : Prop := ∀ j (h : j < L.length), w.cell? ⟨b, j, none⟩ = some (.string ⟨L[j].toArray⟩)

theorem TxtS.kept {w w' : World} {b : Nat} {L : List (List UInt8)} (h : TxtS w b L) (hb : Below w.heap.size w w') : TxtS w' b L := fun j hj => by
 have h1 := h j hj
 exact (hb.cell (World.block_lt_of_cell? w _ h1)).trans h1

theorem TxtS.take {w : World} {b : Nat} {L : List (List UInt8)} (h : TxtS w b L) (n : Nat) : TxtS w b (L.take n) := fun j hj => by
 have : j < L.length := by simp at hj; omega
 rw [h j this]
 simp

def TxtPost (L : List (List UInt8)) (w : World) (e : Ending) (w' : World) : Prop :=
 ∃ b cap, e = .returned (.slice (some ⟨b, 0, none⟩) L.length cap) ∧ L.length ≤ cap ∧ cap ≤ maxLen ∧ TxtS w' b L ∧ Below w.heap.size w w'

theorem own_txt {w w' : World} {B : Nat} {e : TypeId} {v : Value} {L : List (List UInt8)} (h : w'.ownsRow B e 1 v L.length (cellsS L)) (h0 : L ≠ []) (hb : Below w.heap.size w w') : TxtPost L w (.returned v) w' := by
 have hl := List.length_pos_iff.2 h0
 rcases h.2 with ⟨hv, hn⟩ | ⟨g, cap, cur, rfl, hg, hrow, hnc, hcm, hcs, htake⟩
 ·omega
 ·refine ⟨g, cap, rfl, hnc, hcm, fun j hj => ?_, hb⟩
  rw [h.cellAt j (by omega)]
  simp [cellsS, hj]

theorem drop_split (s : ByteArray) (j k : Nat) (hj : j ≤ k) (hk : k < s.size) : s.data.toList.drop j = (s.extract j k).data.toList ++ s[k] :: s.data.toList.drop (k + 1) := by
 rw [Lib.extract_data]
 have h1 : s.data.toList.drop j = (s.data.toList.drop j).take (k - j) ++ (s.data.toList.drop j).drop (k - j) := (List.take_append_drop _ _).symm
 rw [List.drop_drop, show j + (k - j) = k by omega, drop_cons s k hk] at h1
 exact h1

theorem ext_take (s : ByteArray) (j k : Nat) : (s.extract j k).data.toList = (s.data.toList.drop j).take (k - j) := Lib.extract_data _ _ _

theorem ba_self (b : ByteArray) : b = ⟨b.data.toList.toArray⟩ := ba_ext rfl

set_option maxHeartbeats 2000000 in
set_option maxRecDepth 100000 in
theorem rcut_any (s : ByteArray) (c : UInt8) (w : World) (hs : s.size ≤ 1000000) :
  Calls Tryz.prog 78 #[.string s, .int .u8 (c.toNat : Int)] w (TxtPost (cutL c s.data.toList) w) := by
 obtain ⟨i0, hi, hz0, hz1, hz2⟩ := info_parts infoStr
 have hc8 := c.toNat_lt
 go_enter Tryz.func78, Tryz.ntmps78
 go_wp2
 go_loopw [5, 6, 7] (fun v fr i wr => ∃ (k j : Nat) (out : List (List UInt8)), j ≤ k ∧ k ≤ s.size + 1 ∧ i = .int .i64 k ∧ fr = .int .i64 j ∧ out.length ≤ k ∧ wr.ownsRow w.heap.size 9 1 v out.length (cellsS out) ∧ Below w.heap.size w wr ∧
   ((k ≤ s.size ∧ cutL c s.data.toList = out ++ cutL c (s.data.toList.drop j) ∧ c ∉ (s.extract j k).data.toList) ∨ (k = s.size + 1 ∧ out = cutL c s.data.toList)))
  (fun _ _ i _ => s.size + 1 - (intOf i).toNat)
 case atStart => exact ⟨0, 0, [], Nat.le_refl _, by omega, rfl, rfl, Nat.le_refl _, own_nil _ _ _, Below.refl _ w, .inl ⟨by omega, rfl, by rw [ext_take]; simp⟩⟩
 case round =>
  obtain ⟨k, j, out, hjk, hk, rfl, rfl, hol, hown, hbw, hor⟩ := hrel
  have HO := hid hown
  clear hown
  have hbs := hbw.size
  rcases hor with ⟨hks, hcut, hno⟩ | ⟨hks, hout⟩
  ·have HC := hid hcut
   have HN := hid hno
   clear hcut hno
   have hks' : (k : Int) ≤ (s.size : Int) := by omega
   have hjk' : (j : Int) ≤ (k : Int) := by omega
   obtain ⟨X, hX⟩ : ∃ X : ByteArray, X = s.extract j k := ⟨_, rfl⟩
   by_cases hlt : k < s.size
   ·have hlt' : ((k : Int) == (s.size : Int)) = false := by rw [beq_eq_false_iff_ne]; omega
    have hb8 : s[k].toNat < 256 := s[k].toNat_lt
    have HD := hid (drop_split s j k hjk hlt)
    by_cases he : s[k] = c
    ·have he' : (s[k].toNat : Int) = (c.toNat : Int) := by rw [he]
     have HE := hid he
     have HX := hid hX
     clear hX he
     go_wp2_with (at_builtin; go_must (refine wpList_append_own _ rfl _ _ 32 rfl w.heap.size 9 i0 (.string ⟨#[]⟩) 1 16 Tryz.underlying32 hi hz0 hz1 hz2 rfl (by decide) _ _ _ rfl (HO.out.alloc _) ⟨wr.heap.size, 0, none⟩ 1 1 [.string (s.extract j k)] rfl rfl ?c1 ?c2 ?c3 ?c4 ?c5 ?_))
     case c1 =>
      intro q u hq
      match q, hq with
      | 0, hq => simp at hq; subst hq; simp [Addr.add]
     case c2 => intro u hu; simp at hu; subst hu; rfl
     case c3 => unfold maxLen; omega
     case c4 => omega
     case c5 => simp; omega
     intro v' w2 hown' hgrow hnil
     have HO2 := hid hown'
     have HB2 := hid (show Below w.heap.size w w2 from (hbw.alloc hbw.size _).grown hgrow (by simp; omega) (fun g hg => (HO.out.lt g hg).1))
     clear hown' hgrow hnil
     go_wp2
     go_roundw
     case rel =>
      refine ⟨k + 1, k + 1, out ++ [(s.extract j k).data.toList], by omega, by omega, by go_num, by go_num, by simp; omega, ?_, HB2.out, .inl ⟨by omega, ?_, by rw [ext_take]; simp⟩⟩
      ·rw [cellsS_app, cellsS_one, List.length_append]
       exact HO2.out
      ·have h1 := HC.out
       rw [HD.out, HE.out, cutL_some c _ _ HN.out] at h1
       rw [h1]; simp
     case measure => simp [intOf]; omega
    ·have he' : ((s[k].toNat : Int) == (c.toNat : Int)) = false := by
      rw [beq_eq_false_iff_ne]
      intro e
      exact he (UInt8.toNat_inj.1 (by omega))
     have HE := hid he
     clear he hX
     go_wp2
     go_roundw
     case rel =>
      refine ⟨k + 1, j, out, by omega, by omega, by go_num, rfl, by omega, HO.out, hbw, .inl ⟨by omega, HC.out, ?_⟩⟩
      rw [ext_take, show k + 1 - j = (k - j) + 1 by omega, List.take_add_one]
      have h2 := HN.out
      rw [ext_take] at h2
      rw [List.mem_append]
      rintro (h | h)
      ·exact h2 h
      ·rw [List.getElem?_drop, show j + (k - j) = k by omega] at h
       have h3 : s.data.toList[k]? = some s[k] := by
        rw [List.getElem?_eq_getElem (by simpa using hlt)]; rfl
       rw [h3] at h
       simp at h
       exact HE.out h.symm
     case measure => simp [intOf]; omega
   ·have hke : k = s.size := by omega
    subst hke
    have HX := hid hX
    clear hX
    go_wp2_with (at_builtin; go_must (refine wpList_append_own _ rfl _ _ 32 rfl w.heap.size 9 i0 (.string ⟨#[]⟩) 1 16 Tryz.underlying32 hi hz0 hz1 hz2 rfl (by decide) _ _ _ rfl (HO.out.alloc _) ⟨wr.heap.size, 0, none⟩ 1 1 [.string (s.extract j s.size)] rfl rfl ?c1 ?c2 ?c3 ?c4 ?c5 ?_))
    case c1 =>
     intro q u hq
     match q, hq with
     | 0, hq => simp at hq; subst hq; simp [Addr.add]
    case c2 => intro u hu; simp at hu; subst hu; rfl
    case c3 => unfold maxLen; omega
    case c4 => omega
    case c5 => simp; omega
    intro v' w2 hown' hgrow hnil
    have HO2 := hid hown'
    have HB2 := hid (show Below w.heap.size w w2 from (hbw.alloc hbw.size _).grown hgrow (by simp; omega) (fun g hg => (HO.out.lt g hg).1))
    clear hown' hgrow hnil
    go_wp2
    go_roundw
    case rel =>
     refine ⟨s.size + 1, s.size + 1, out ++ [(s.extract j s.size).data.toList], by omega, by omega, by go_num, by go_num, by simp; omega, ?_, HB2.out, .inr ⟨rfl, ?_⟩⟩
     ·rw [cellsS_app, cellsS_one, List.length_append]
      exact HO2.out
     ·have h1 := HC.out
      have e : (s.extract j s.size).data.toList = s.data.toList.drop j := by rw [ext_take]; exact List.take_of_length_le (by simp)
      rw [e]
      have h2 := HN.out
      rw [e] at h2
      rw [cutL_none c _ h2] at h1
      exact h1.symm
    case measure => simp [intOf]
  ·subst hks
   have hks' : ¬ (((s.size + 1 : Nat) : Int) ≤ (s.size : Int)) := by omega
   have HX := hid hout
   clear hout
   go_wp2
   go_ret
   rw [← HX.out]
   exact own_txt HO.out (by rw [HX.out]; exact cutL_ne _ _) hbw

end Go.Proofs.YtgoefeaopegdoaaGreatDoor

namespace Go.Proofs.YtgoefeaopegdoaaGreatDoor
open Go.RowKit

def PathAt (w : World) (v : Value) (L : List (List UInt8)) : Prop :=
 (v = .slice none 0 0 ∧ L = []) ∨ ∃ b cap, v = .slice (some ⟨b, 0, none⟩) L.length cap ∧ b < w.heap.size ∧ L.length ≤ cap ∧ cap ≤ maxLen ∧ TxtS w b L

theorem PathAt.kept {w w' : World} {v : Value} {L : List (List UInt8)} (h : PathAt w v L) (hb : Below w.heap.size w w') : PathAt w' v L := by
 rcases h with h | ⟨b, cap, h1, h2, h3, h4, h5⟩
 ·exact .inl h
 ·exact .inr ⟨b, cap, h1, by have := hb.size; omega, h3, h4, h5.kept hb⟩

theorem own_path {w : World} {B : Nat} {v : Value} {L : List (List UInt8)} (h : w.ownsRow B 9 1 v L.length (cellsS L)) : PathAt w v L := by
 have h2 := h.2
 rcases h2 with ⟨hv, hn⟩ | ⟨g, cap, cur, rfl, hg, hrow, hnc, hcm, hcs, htake⟩
 ·exact .inl ⟨hv, List.eq_nil_of_length_eq_zero hn⟩
 ·refine .inr ⟨g, cap, rfl, (Array.getElem?_eq_some_iff.1 hrow).1, hnc, hcm, fun j hj => ?_⟩
  rw [h.cellAt j (by omega)]
  simp [cellsS, hj]

theorem own_drop {w : World} {B : Nat} {g cap n : Nat} {L : List (List UInt8)} (h : w.ownsRow B 9 1 (.slice (some ⟨g, 0, none⟩) (n + 1) cap) (n + 1) (cellsS L)) (hl : L.length = n + 1) : w.ownsRow B 9 1 (.slice (some ⟨g, 0, none⟩) n cap) n (cellsS L.dropLast) := by
 rcases h.2 with ⟨hv, hn⟩ | ⟨g', cap', cur, hv, hg, hrow, hnc, hcm, hcs, htake⟩
 ·cases hv
 ·cases hv
  refine ⟨by simp [cellsS_len, hl], .inr ⟨g, cap, cur, rfl, hg, hrow, by omega, hcm, hcs, ?_⟩⟩
  have e : (cellsS L).dropLast = cellsS L.dropLast := by simp [cellsS]
  have hcl : cur.toList.length = cap := by simp [hcs]
  rw [← e, ← htake, List.dropLast_eq_take, List.take_take, List.length_take]
  congr 1
  omega

theorem own_nonnil {w : World} {B n : Nat} {v : Value} {L : List (List UInt8)} (h : w.ownsRow B 9 1 v (n + 1) (cellsS L)) : ∃ g cap, v = .slice (some ⟨g, 0, none⟩) (n + 1) cap ∧ n + 1 ≤ cap ∧ cap ≤ maxLen := by
 rcases h.2 with ⟨hv, hn⟩ | ⟨g', cap', cur, hv, hg, hrow, hnc, hcm, hcs, htake⟩
 ·omega
 ·exact ⟨g', cap', hv, hnc, hcm⟩

theorem own_zero {w : World} {B : Nat} {v : Value} {xs : List Value} (h : w.ownsRow B 9 1 v 0 xs) : ∃ a cap, v = .slice a 0 cap := by
 rcases h.2 with ⟨hv, hn⟩ | ⟨g', cap', cur, hv, hg, hrow, hnc, hcm, hcs, htake⟩
 ·exact ⟨none, 0, hv⟩
 ·exact ⟨_, cap', hv⟩

theorem getD_ba (L : List (List UInt8)) (j : Nat) (hj : j < L.length) : (L.map fun x => (⟨x.toArray⟩ : ByteArray)).getD j ByteArray.empty = ⟨L[j].toArray⟩ := by
 simp [List.getD, hj]

theorem clone_any (v : Value) (L : List (List UInt8)) (w : World) (h : PathAt w v L) (hl : L.length ≤ 1000000) :
  Calls Tryz.prog 236 #[v] w fun e w' => ∃ v', e = .returned v' ∧ w'.ownsRow w.heap.size 9 1 v' L.length (cellsS L) ∧ Below w.heap.size w w' := by
 rcases h with ⟨rfl, rfl⟩ | ⟨b, cap, rfl, h2, h3, h4, h5⟩
 ·refine (Tryz.slices_Clone_string_nil 0 0 w).mono ?_
  rintro e w' ⟨rfl, rfl⟩
  exact ⟨_, rfl, own_nil _ _ _, Below.refl _ _⟩
 ·refine (Tryz.slices_Clone_string b 0 L.length cap (L.map fun x => (⟨x.toArray⟩ : ByteArray)) w (by simp) (by omega) ?_).mono ?_
  ·intro j hj
   have hj' : j < L.length := by simpa using hj
   rw [getD_ba L j hj', Nat.zero_add]
   exact h5 j hj'
  ·rintro e w' ⟨v', rfl, hown, _, hb⟩
   refine ⟨v', rfl, ?_, hb⟩
   have e : ((L.map fun x => (⟨x.toArray⟩ : ByteArray)).take L.length).map Value.string = cellsS L := by
    rw [List.take_of_length_le (by simp), List.map_map]; rfl
   rw [e] at hown
   exact hown



theorem cutL_part (c : UInt8) (l : List UInt8) : cutL c l = if (part c l).2.2 then (part c l).1 :: cutL c (part c l).2.1 else [(part c l).1] := by
 rcases first_split c l with h | ⟨a, r, h, rfl⟩
 ·rw [part_none c l h, cutL_none c l h]; rfl
 ·rw [part_some c a r h, cutL_some c a r h]; rfl

theorem part_rest (c : UInt8) (l : List UInt8) (h : (part c l).2.2 = true) : (part c l).2.1.length + 1 ≤ l.length := by
 rcases first_split c l with h1 | ⟨a, r, h1, rfl⟩
 ·rw [part_none c l h1] at h; cases h
 ·rw [part_some c a r h1]; simp

def stepP (out : List (List UInt8)) (p : List UInt8) (mo : Bool) : List (List UInt8) :=
 if dotsV p = 2 then (if mo then out.dropLast else out.dropLast ++ [[]]) else if dotsV p = 1 then (if mo then out else out ++ [[]]) else out ++ [pct 5 p]

theorem pathL_more (out : List (List UInt8)) (p : List UInt8) (L : List (List UInt8)) (h : L ≠ []) : pathL out (p :: L) = pathL (stepP out p true) L := by
 cases L with
 | nil => exact absurd rfl h
 | cons q r =>
  rw [pathL, stepP]
  split
  ·rfl
  ·split <;> rfl

theorem pathL_last (out : List (List UInt8)) (p : List UInt8) : pathL out [p] = stepP out p false := by
 rw [pathL, stepP]
 split
 ·rfl
 ·split <;> rfl

theorem pathL_cut (out : List (List UInt8)) (r : List UInt8) : pathL out (cutL 47 r) = if (part 47 r).2.2 then pathL (stepP out (part 47 r).1 true) (cutL 47 (part 47 r).2.1) else stepP out (part 47 r).1 false := by
 rw [cutL_part]
 cases (part 47 r).2.2
 ·exact pathL_last _ _
 ·exact pathL_more _ _ _ (cutL_ne _ _)

theorem dotsV_cases (p : List UInt8) : dotsV p = 0 ∨ dotsV p = 1 ∨ dotsV p = 2 := by
 unfold dotsV; split
 ·exact .inr (.inl rfl)
 ·split
  ·exact .inr (.inr rfl)
  ·exact .inl rfl

theorem stepP0 {out : List (List UInt8)} {p : List UInt8} {mo : Bool} (h : dotsV p = 0) : stepP out p mo = out ++ [pct 5 p] := by rw [stepP, h]; rfl

theorem stepP1 {out : List (List UInt8)} {p : List UInt8} (h : dotsV p = 1) : stepP out p true = out := by rw [stepP, h]; rfl

theorem stepP1' {out : List (List UInt8)} {p : List UInt8} (h : dotsV p = 1) : stepP out p false = out ++ [[]] := by rw [stepP, h]; rfl

theorem stepP2 {out : List (List UInt8)} {p : List UInt8} (h : dotsV p = 2) : stepP out p true = out.dropLast := by rw [stepP, h]; rfl

theorem stepP2' {out : List (List UInt8)} {p : List UInt8} (h : dotsV p = 2) : stepP out p false = out.dropLast ++ [[]] := by rw [stepP, h]; rfl

theorem own_below {w w' : World} {B : Nat} {v : Value} {n : Nat} {xs : List Value} (h : w.ownsRow B 9 1 v n xs) (hb : Below w.heap.size w w') : w'.ownsRow B 9 1 v n xs :=
 ownsRow_same h fun g hg => hb.block g (h.lt g hg).2

def OwnPost (L : List (List UInt8)) (w : World) (e : Ending) (w' : World) : Prop := ∃ v, e = .returned v ∧ w'.ownsRow w.heap.size 9 1 v L.length (cellsS L) ∧ Below w.heap.size w w'

theorem pathV_none {special : Bool} {hv : List (List UInt8)} {s : List UInt8} (h : s = [] ∧ special = false) : pathV special hv s = [] := by rw [pathV, if_pos h]

theorem pathV_some {special : Bool} {hv : List (List UInt8)} {s : List UInt8} (h : ¬ (s = [] ∧ special = false)) : pathV special hv s = pathL hv (cutL 47 (over1 s)) := by rw [pathV, if_neg h]

theorem over1_le (l : List UInt8) : (over1 l).length ≤ l.length := by
 unfold over1; split
 ·simp
 ·split <;> simp

set_option maxHeartbeats 4000000 in
set_option maxRecDepth 100000 in
theorem readPath_any (s : ByteArray) (va : Value) (hv : List (List UInt8)) (special : Bool) (w : World) (hg : Gd w) (hs : s.size ≤ 100000) (ha : PathAt w va hv) (hl : hv.length ≤ 100000) :
  Calls Tryz.prog 249 #[.string s, va, .bool special] w (OwnPost (pathV special hv s.data.toList) w) := by
 obtain ⟨i0, hi, hz0, hz1, hz2⟩ := info_parts infoStr
 have HG := hid hg
 have HP := hid ha
 clear hg ha
 by_cases hno : s.data.toList = [] ∧ special = false
 ·have HN := hid (pathV_none (hv := hv) hno)
  obtain ⟨hn1, rfl⟩ := hno
  have he := empty_yes s hn1
  clear hn1
  go_enter Tryz.func249, Tryz.ntmps249
  go_wp2
  go_ret
  unfold OwnPost
  rw [HN.out]
  exact ⟨_, rfl, own_nil _ _ _, Below.refl _ _⟩
 ·obtain ⟨R, hR⟩ : ∃ R : ByteArray, R = ⟨(over1 s.data.toList).toArray⟩ := ⟨_, rfl⟩
  have hRl : R.data.toList = over1 s.data.toList := by rw [hR]
  have hRs : R.size ≤ 100000 := by rw [hR]; exact size_le (over1_le _) hs
  have HN := hid (show pathV special hv s.data.toList = pathL hv (cutL 47 R.data.toList) by rw [pathV_some hno, hRl])
  have HT : Hid (∀ w : World, Calls Tryz.prog 184 #[.string s, .string ⟨#[47]⟩] w fun e w' => e = .returned (.string R) ∧ w = w') := fun w => by
   have := Tryz.strings_TrimPrefix s ⟨#[47]⟩ w
   rw [show (⟨#[47]⟩ : ByteArray).data.toList = [47] from rfl, trimP_over, ← hR] at this
   exact this.mono fun e w' ⟨h, h'⟩ => ⟨h, h'.symm⟩
  have hcase : (s.toList.isEmpty = true ∧ special = true) ∨ s.toList.isEmpty = false := by
   by_cases h : s.data.toList = []
   ·refine .inl ⟨empty_yes s h, ?_⟩
    cases special
    ·exact absurd ⟨h, rfl⟩ hno
    ·rfl
   ·exact .inr (empty_no s h)
  clear hR hRl hno
  rcases hcase with ⟨he, rfl⟩ | he
  all_goals
   go_enter Tryz.func249, Tryz.ntmps249
   go_wp2_with fail
   refine (clone_any va hv w HP.out (by omega)).mono ?_
   rintro e w1 ⟨v1, rfl, hown1, hb1⟩
   have HO1 := hid hown1
   clear hown1
   go_wp2_with (go_at_call 184; refine (HT.out _).mono ?_; rintro e w' ⟨rfl, rfl⟩)
   go_loopw [7, 8, 9] (fun v r m wr => ∃ (out : List (List UInt8)) (P : ByteArray) (mo : Bool) (k : Nat), r = .string P ∧ m = .bool mo ∧ P.size + k ≤ 100000 ∧ out.length ≤ hv.length + k + 1 ∧ (mo = true → out.length ≤ hv.length + k) ∧ wr.ownsRow w.heap.size 9 1 v out.length (cellsS out) ∧ Below w.heap.size w wr ∧ (if mo then pathL out (cutL 47 P.data.toList) else out) = pathL hv (cutL 47 R.data.toList))
    (fun _ r m _ => match r, m with | .string P, .bool true => P.size + 1 | _, _ => 0)
   case atStart => exact ⟨hv, R, true, 0, rfl, rfl, by omega, by omega, fun _ => by omega, HO1.out, hb1, rfl⟩
   case round =>
    obtain ⟨out, P, mo, k, rfl, rfl, hPk, hol, holm, hown, hbw, hpath⟩ := hrel
    have HO := hid hown
    have HPa := hid hpath
    clear hown hpath
    have hwr := hbw.size
    cases mo with
    | false =>
     have HE := hid (show out = pathL hv (cutL 47 R.data.toList) from HPa.out)
     go_wp2
     go_ret
     unfold OwnPost
     rw [HN.out, ← HE.out]
     exact ⟨_, rfl, HO.out, hbw⟩
    | true =>
     have hol2 := holm rfl
     have HPb := hid (show (if (part 47 P.data.toList).2.2 then pathL (stepP out (part 47 P.data.toList).1 true) (cutL 47 (part 47 P.data.toList).2.1) else stepP out (part 47 P.data.toList).1 false) = pathL hv (cutL 47 R.data.toList) from (pathL_cut out P.data.toList).symm.trans HPa.out)
     have hple := part_le 47 P.data.toList
     obtain ⟨A, hA⟩ : ∃ A : ByteArray, A = ⟨(part 47 P.data.toList).1.toArray⟩ := ⟨_, rfl⟩
     obtain ⟨B, hB⟩ : ∃ B : ByteArray, B = ⟨(part 47 P.data.toList).2.1.toArray⟩ := ⟨_, rfl⟩
     obtain ⟨mo2, hmo2⟩ : ∃ m, m = (part 47 P.data.toList).2.2 := ⟨_, rfl⟩
     have hAl : A.data.toList = (part 47 P.data.toList).1 := by rw [hA]
     have hBl : B.data.toList = (part 47 P.data.toList).2.1 := by rw [hB]
     have hAs : A.size ≤ P.size := by rw [hA]; exact size_le hple.1 (Nat.le_refl _)
     have hBs : B.size ≤ P.size := by rw [hB]; exact size_le hple.2 (Nat.le_refl _)
     have hBs2 : mo2 = true → B.size + 1 ≤ P.size := fun h => by
      have := part_rest 47 P.data.toList (by rw [← hmo2]; exact h)
      rw [Lib.size_eq, Lib.size_eq, hBl]; exact this
     have HCut : Hid (∀ w : World, Gd w → Calls Tryz.prog 76 #[.string P, .string ⟨#[47]⟩] w fun e w' => e = .returned (.tuple #[.string A, .string B, .bool mo2]) ∧ Below w.heap.size w w') := fun w hg => by
      have := cut_any P ⟨#[47]⟩ w hg (by omega)
      rw [show (⟨#[47]⟩ : ByteArray).data.toList = [47] from rfl, cut_part, ← hA, ← hB, ← hmo2] at this
      exact this
     have HPc := hid (show (if mo2 then pathL (stepP out A.data.toList true) (cutL 47 B.data.toList) else stepP out A.data.toList false) = pathL hv (cutL 47 R.data.toList) by rw [hAl, hBl, hmo2]; exact HPb.out)
     clear hA hB hmo2 hAl hBl hple holm
     go_wp2_with fail
     refine (HCut.out _ (HG.out.kept hbw)).mono ?_
     rintro e w2 ⟨rfl, hb2⟩
     go_wp2_with fail
     refine (dots_any A w2 (by omega)).mono ?_
     rintro e w3 ⟨rfl, hb3⟩
     have hbw3 := below2 (below2 hbw hb2) hb3
     have HB3 := hid hbw3
     have hsz3 := hbw3.size
     have HO3 := hid (own_below HO.out (below2 hb2 hb3))
     clear hbw3
     obtain ⟨k2, hk2⟩ : ∃ k2, k2 = if mo2 then k + 1 else k := ⟨_, rfl⟩
     have hk2a : B.size + k2 ≤ 100000 := by
      cases mo2
      ·simp at hk2; omega
      ·simp at hk2; have := hBs2 rfl; omega
     have hk2b : k ≤ k2 ∧ (mo2 = true → k2 = k + 1) := by
      cases mo2
      ·simp at hk2; simp; omega
      ·simp at hk2; simp; omega
     have HBs := hid hBs2
     have HK2 := hid hk2b
     have hk2c := hk2b.1
     clear hBs2 hk2b hk2
     rcases dotsV_cases A.data.toList with hd | hd | hd
     ·have HPd := hid (show (if mo2 then pathL (out ++ [pct 5 A.data.toList]) (cutL 47 B.data.toList) else out ++ [pct 5 A.data.toList]) = pathL hv (cutL 47 R.data.toList) by rw [← HPc.out, stepP0 hd, stepP0 hd])
      have hpl := pct_le 5 A.data.toList
      rw [hd]
      clear hd
      go_wp2_with fail
      refine (percent_any A 5 w3 (by omega)).mono ?_
      rintro e w4 ⟨rfl, hb4⟩
      have HB4 := hid (below2 HB3.out hb4)
      have hsz4 := HB4.out.size
      have HO4 := hid (own_below HO3.out hb4)
      go_wp2_with (at_builtin; go_must (refine wpList_append_own _ rfl _ _ 32 rfl w.heap.size 9 i0 (.string ⟨#[]⟩) 1 16 Tryz.underlying32 hi hz0 hz1 hz2 rfl (by decide) _ _ _ rfl (HO4.out.alloc _) ⟨w4.heap.size, 0, none⟩ 1 1 [.string ⟨(pct 5 A.data.toList).toArray⟩] rfl rfl ?c1 ?c2 ?c3 ?c4 ?c5 ?_))
      case c1 =>
       intro q u hq
       match q, hq with
       | 0, hq => simp at hq; subst hq; simp [Addr.add]
      case c2 => intro u hu; simp at hu; subst hu; rfl
      case c3 => unfold maxLen; omega
      case c4 => omega
      case c5 => simp; omega
      intro v' w5 hown' hgrow hnil
      have HO5 := hid hown'
      have HB5 := hid (show Below w.heap.size w w5 from (HB4.out.alloc HB4.out.size _).grown hgrow (by simp; omega) (fun g hg => (HO4.out.lt g hg).1))
      clear hown' hgrow hnil
      go_wp2
      go_roundw
      case rel =>
       refine ⟨out ++ [pct 5 A.data.toList], B, mo2, k2, rfl, rfl, hk2a, by first | omega | (simp <;> omega), fun h => by have := HK2.out.2 h; first | omega | (simp <;> omega), ?_, HB5.out, HPd.out⟩
       rw [cellsS_app, List.length_append]
       exact HO5.out
      case measure =>
       cases mo2
       ·simp
       ·have := HBs.out rfl
        simp
        omega
     ·have HO3b := HO3
      cases mo2 with
      | true =>
       have hB1 := HBs.out rfl
       have hK1 := HK2.out.2 rfl
       have HPd := hid (show pathL (out) (cutL 47 B.data.toList) = pathL hv (cutL 47 R.data.toList) by rw [← HPc.out, if_pos rfl, stepP1 hd] <;> rfl)
       rw [hd]
       clear hd
       go_wp2
       go_roundw
       case rel => exact ⟨out, B, true, k2, rfl, rfl, hk2a, by first | omega | (simp <;> omega), fun h => by first | omega | (simp <;> omega), HO3b.out, HB3.out, HPd.out⟩
       case measure =>
        simp
        omega
      | false =>
       have HPd := hid (show out ++ [[]] = pathL hv (cutL 47 R.data.toList) by rw [← HPc.out, if_neg (by decide), stepP1' hd] <;> rfl)
       have HO4 := HO3b
       have HB4 := HB3
       rw [hd]
       clear hd
       go_wp2_with (at_builtin; go_must (refine wpList_append_own _ rfl _ _ 32 rfl w.heap.size 9 i0 (.string ⟨#[]⟩) 1 16 Tryz.underlying32 hi hz0 hz1 hz2 rfl (by decide) _ _ _ rfl (HO4.out.alloc _) ⟨w3.heap.size, 0, none⟩ 1 1 [.string ⟨#[]⟩] rfl rfl ?c1 ?c2 ?c3 ?c4 ?c5 ?_))
       case c1 =>
        intro q u hq
        match q, hq with
        | 0, hq => simp at hq; subst hq; simp [Addr.add]
       case c2 => intro u hu; simp at hu; subst hu; rfl
       case c3 => unfold maxLen; first | omega | (simp <;> omega)
       case c4 => first | omega | (simp <;> omega)
       case c5 => simp; omega
       intro v' w5 hown' hgrow hnil
       have HO5 := hid hown'
       have HB5 := hid (show Below w.heap.size w w5 from (HB4.out.alloc HB4.out.size _).grown hgrow (by simp; omega) (fun g hg => (HO4.out.lt g hg).1))
       clear hown' hgrow hnil
       go_wp2
       go_roundw
       case rel =>
        refine ⟨out ++ [[]], B, false, k2, rfl, rfl, hk2a, by first | omega | (simp <;> omega), fun h => Bool.noConfusion h, ?_, HB5.out, HPd.out⟩
        rw [cellsS_app, List.length_append]
        exact HO5.out
       case measure => simp
     ·cases out with
      | nil =>
       have HO3b := HO3
       obtain ⟨sa, sc, hsv⟩ := own_zero HO3.out
       subst hsv
       cases mo2 with
       | true =>
        have hB1 := HBs.out rfl
        have hK1 := HK2.out.2 rfl
        have HPd := hid (show pathL (([] : List (List UInt8))) (cutL 47 B.data.toList) = pathL hv (cutL 47 R.data.toList) by rw [← HPc.out, if_pos rfl, stepP2 hd] <;> rfl)
        rw [hd]
        clear hd
        go_wp2
        go_roundw
        case rel => exact ⟨([] : List (List UInt8)), B, true, k2, rfl, rfl, hk2a, by first | omega | (simp <;> omega), fun h => by first | omega | (simp <;> omega), HO3b.out, HB3.out, HPd.out⟩
        case measure =>
         simp
         omega
       | false =>
        have HPd := hid (show ([] : List (List UInt8)) ++ [[]] = pathL hv (cutL 47 R.data.toList) by rw [← HPc.out, if_neg (by decide), stepP2' hd] <;> rfl)
        have HO4 := HO3b
        have HB4 := HB3
        rw [hd]
        clear hd
        go_wp2_with (at_builtin; go_must (refine wpList_append_own _ rfl _ _ 32 rfl w.heap.size 9 i0 (.string ⟨#[]⟩) 1 16 Tryz.underlying32 hi hz0 hz1 hz2 rfl (by decide) _ _ _ rfl (HO4.out.alloc _) ⟨w3.heap.size, 0, none⟩ 1 1 [.string ⟨#[]⟩] rfl rfl ?c1 ?c2 ?c3 ?c4 ?c5 ?_))
        case c1 =>
         intro q u hq
         match q, hq with
         | 0, hq => simp at hq; subst hq; simp [Addr.add]
        case c2 => intro u hu; simp at hu; subst hu; rfl
        case c3 => unfold maxLen; first | omega | (simp <;> omega)
        case c4 => first | omega | (simp <;> omega)
        case c5 => simp; omega
        intro v' w5 hown' hgrow hnil
        have HO5 := hid hown'
        have HB5 := hid (show Below w.heap.size w w5 from (HB4.out.alloc HB4.out.size _).grown hgrow (by simp; omega) (fun g hg => (HO4.out.lt g hg).1))
        clear hown' hgrow hnil
        go_wp2
        go_roundw
        case rel =>
         refine ⟨([] : List (List UInt8)) ++ [[]], B, false, k2, rfl, rfl, hk2a, by first | omega | (simp <;> omega), fun h => Bool.noConfusion h, ?_, HB5.out, HPd.out⟩
         rw [cellsS_app, List.length_append]
         exact HO5.out
        case measure => simp
      | cons x xs =>
       obtain ⟨g, cap, hvv, hc1, hc2⟩ := own_nonnil (n := xs.length) HO3.out
       subst hvv
       have HO3b := hid (show w3.ownsRow w.heap.size 9 1 (.slice (some ⟨g, 0, none⟩) xs.length cap) ((x :: xs).dropLast).length (cellsS (x :: xs).dropLast) by
        have := own_drop HO3.out rfl
        rw [List.length_dropLast]
        exact this)
       have hdl : ((x :: xs).dropLast).length = xs.length := by simp
       have hxl : xs.length + 1 ≤ hv.length + k := by simpa using hol2
       cases mo2 with
       | true =>
        have hB1 := HBs.out rfl
        have hK1 := HK2.out.2 rfl
        have HPd := hid (show pathL ((x :: xs).dropLast) (cutL 47 B.data.toList) = pathL hv (cutL 47 R.data.toList) by rw [← HPc.out, if_pos rfl, stepP2 hd] <;> rfl)
        rw [hd]
        clear hd
        go_wp2
        go_roundw
        case rel => exact ⟨(x :: xs).dropLast, B, true, k2, rfl, rfl, hk2a, by first | omega | (simp <;> omega), fun h => by first | omega | (simp <;> omega), HO3b.out, HB3.out, HPd.out⟩
        case measure =>
         simp
         omega
       | false =>
        have HPd := hid (show (x :: xs).dropLast ++ [[]] = pathL hv (cutL 47 R.data.toList) by rw [← HPc.out, if_neg (by decide), stepP2' hd] <;> rfl)
        have HO4 := HO3b
        have HB4 := HB3
        rw [hd]
        clear hd
        go_wp2_with (at_builtin; go_must (refine wpList_append_own _ rfl _ _ 32 rfl w.heap.size 9 i0 (.string ⟨#[]⟩) 1 16 Tryz.underlying32 hi hz0 hz1 hz2 rfl (by decide) _ _ _ rfl (HO4.out.alloc _) ⟨w3.heap.size, 0, none⟩ 1 1 [.string ⟨#[]⟩] rfl rfl ?c1 ?c2 ?c3 ?c4 ?c5 ?_))
        case c1 =>
         intro q u hq
         match q, hq with
         | 0, hq => simp at hq; subst hq; simp [Addr.add]
        case c2 => intro u hu; simp at hu; subst hu; rfl
        case c3 => unfold maxLen; first | omega | (simp <;> omega)
        case c4 => first | omega | (simp <;> omega)
        case c5 => simp; omega
        intro v' w5 hown' hgrow hnil
        have HO5 := hid hown'
        have HB5 := hid (show Below w.heap.size w w5 from (HB4.out.alloc HB4.out.size _).grown hgrow (by simp; omega) (fun g hg => (HO4.out.lt g hg).1))
        clear hown' hgrow hnil
        go_wp2
        go_roundw
        case rel =>
         refine ⟨(x :: xs).dropLast ++ [[]], B, false, k2, rfl, rfl, hk2a, by first | omega | (simp <;> omega), fun h => Bool.noConfusion h, ?_, HB5.out, HPd.out⟩
         rw [cellsS_app, List.length_append]
         rw [hdl]
         exact HO5.out
        case measure => simp

end Go.Proofs.YtgoefeaopegdoaaGreatDoor
