/-
  Walks and plain facts that this claim leans on, put together out of 2 texts: Vg, Vh.
-/
import Derived.Test.YtgoefeaopegdoaaGreatDoorProg
import Derived.Test.YtgoefeaopegdoaaGreatDoorQx1
import Derived.Test.YtgoefeaopegdoaaGreatDoorQx3
import Derived.Lib.IndexMore
import Derived.Lib.Join
import Derived.Lib.LastIndexByte
import Derived.WalkKit
import Derived.Lib.Strings
import Derived.Lib.UnsafeStr
import Derived.Laws.IdiomStrings
import Derived.Laws.AppendOwn
import Derived.Laws.BitsAllLaws
import Derived.Lib.Bytealg
import Derived.Lib.BufferMore
import Derived.Shelf.Strings.Builder1
import Derived.Shelf.Strings.Builder2
import Derived.Shelf.Strings.OnBuilder
import Derived.Shelf.Strings.Trim
import Derived.Shelf.Small.Utf8
import Derived.Shelf.Small.Bits
import Derived.Shelf.Small.Strs
import Derived.Shelf.Small.Wraps
import Derived.Shelf.Strings.BuilderF
import Derived.Shelf.Strings.BuilderK
import Derived.Shelf.Strings.BuilderRune
import Derived.Shelf.Utf8.AppendRune
import Derived.Shelf.Utf8.AppendRunePlain
import Derived.Shelf.Strings.Builder2Cap
import Derived.Shelf.Strconv.Itoa0
import Derived.Shelf.Strconv.Itoa1
import Derived.Shelf.LaysM
import Derived.Shelf.Strconv.Itoa2
import Derived.Shelf.Strconv.Itoa3
import Derived.Shelf.Strings.Search1
import Derived.Shelf.Strings.Search2
import Derived.Shelf.Strings.Search3
import Derived.Shelf.Strings.Cut
import Derived.Shelf.Strings.Count
import Derived.Shelf.Strings.Shaped
import Derived.Shelf.Strings.LastIndex
import Derived.Shelf.Strings.Prefix
import Derived.Shelf.Strings.Split
import Derived.Shelf.Strings.Replace
import Derived.Shelf.Strings.Runes
import Derived.Shelf.Strings.IndexAny
import Derived.Shelf.Strings.AsciiSet
import Derived.Shelf.Strings.IndexAnyAll
import Derived.Shelf.Unicode.DecodeSlow
import Derived.Ground.Names2Prog
import Derived.Shelf.Slices.Clone
import Derived.Shelf.Slices.In.SortNone
import Derived.Ground.SlgnProg
import Derived.Shelf.SlicesE.Clone
import Derived.WalkSpells
import Derived.WalkLawsBesides
import Derived.Lib.AppendIntMem
import Derived.Lib.SmallJoins
import Derived.WalkSmall
import Derived.WalkMore
import Derived.Deep.LoopGhost
import Derived.Lib.FrozenHead2
import Derived.Lib.OthersKept
import Derived.Lib.Builder
import Derived.Deep.RegionWith
import Derived.OwnWalk
set_option linter.unusedSimpArgs false
set_option linter.unusedVariables false

namespace Go.Proofs.YtgoefeaopegdoaaGreatDoor
open Go.RowKit

theorem plainB_none {l : List UInt8} (h : valV 10 l = none) : plainB l = none := by rw [plainB, h]

theorem plainB_big {l : List UInt8} {n : Nat} (h : valV 10 l = some n) (h2 : 255 < n ∨ l = [] ∨ (l.head? = some 48 ∧ l ≠ [48])) : plainB l = none := by rw [plainB, h]; simp only; rw [if_pos h2]

theorem plainB_some {l : List UInt8} {n : Nat} (h : valV 10 l = some n) (h2 : ¬ (255 < n ∨ l = [] ∨ (l.head? = some 48 ∧ l ≠ [48]))) : plainB l = some n := by rw [plainB, h]; simp only; rw [if_neg h2]

theorem ret_u32b {a b : Int} {x y : Bool} (h : a = b) (g : x = y) : Ending.returned (.tuple #[.int .u32 a, .bool x]) = .returned (.tuple #[.int .u32 b, .bool y]) := by rw [h, g]

theorem list_ne (s : ByteArray) (l : List UInt8) (h : s.data.toList ≠ l) : (s.toList == l) = false := by
 rw [Lib.toList_data, beq_eq_false_iff_ne]; exact h

theorem list_eq (s : ByteArray) (l : List UInt8) (h : s.data.toList = l) : (s.toList == l) = true := by
 rw [Lib.toList_data, h]; simp

set_option maxHeartbeats 1000000 in
theorem plainByte_any (s : ByteArray) (w : World) (hs : s.size ≤ 4000000000) :
  Calls Tryz.prog 372 #[.string s] w fun e w' => e = .returned (.tuple #[.int .u32 ((plainB s.data.toList).getD 0 : Nat), .bool (plainB s.data.toList).isSome]) ∧ w = w' := by
 cases hv : valV 10 s.data.toList with
 | none =>
  have HN := hid (plainB_none hv)
  have h1 := isSome_none hv
  clear hv
  go_enter Tryz.func372, Tryz.ntmps372
  go_wp2_with (go_at_call 370; refine (valueOf_any _ _ _ (by decide) (by omega)).mono ?_; rintro e w' ⟨rfl, rfl⟩; rw [h1])
  go_ret2
  exact ⟨ret_u32b (by rw [getD_none HN.out]; rfl) (isSome_none HN.out).symm, rfl⟩
 | some n =>
  have h1 := isSome_some hv
  have h2 := getD_some hv
  have HV := hid hv
  clear hv
  by_cases h255 : 255 < n
  ·have HN := hid (plainB_big HV.out (.inl h255))
   go_enter Tryz.func372, Tryz.ntmps372
   go_wp2_with (go_at_call 370; refine (valueOf_any _ _ _ (by decide) (by omega)).mono ?_; rintro e w' ⟨rfl, rfl⟩; rw [h1, h2])
   go_ret2
   exact ⟨ret_u32b (by rw [getD_none HN.out]; rfl) (isSome_none HN.out).symm, rfl⟩
  ·have h255' : (n : Int) ≤ 255 := by omega
   by_cases h0 : s.data.toList = []
   ·have HN := hid (plainB_big HV.out (.inr (.inl h0)))
    have he := empty_yes s h0
    clear h0
    go_enter Tryz.func372, Tryz.ntmps372
    go_wp2_with (go_at_call 370; refine (valueOf_any _ _ _ (by decide) (by omega)).mono ?_; rintro e w' ⟨rfl, rfl⟩; rw [h1, h2])
    go_ret2
    exact ⟨ret_u32b (by rw [getD_none HN.out]; rfl) (isSome_none HN.out).symm, rfl⟩
   ·have he := empty_no s h0
    have hz : 0 < s.size := by
     have : 0 < s.data.toList.length := List.length_pos_iff.2 h0
     simpa using this
    have hz' : (0 : Int) < (s.size : Int) := by omega
    obtain ⟨r, hr⟩ := list_one s hz
    have hhead : s.data.toList.head? = some s[0] := by rw [hr]; rfl
    by_cases hc : s[0] = 48
    ·have hc' : (s[0].toNat : Int) = 48 := by rw [hc]; rfl
     by_cases h48 : s.data.toList = [48]
     ·have HN := hid (plainB_some HV.out (by rintro (h | h | ⟨_, h⟩); exact h255 h; exact h0 h; exact h h48))
      have hq := list_eq s [48] h48
      clear h0 hr hhead hc h48
      go_enter Tryz.func372, Tryz.ntmps372
      go_wp2_with (go_at_call 370; refine (valueOf_any _ _ _ (by decide) (by omega)).mono ?_; rintro e w' ⟨rfl, rfl⟩; rw [h1, h2])
      go_ret2
      exact ⟨ret_u32b (by rw [getD_some HN.out]) (isSome_some HN.out).symm, rfl⟩
     ·have HN := hid (plainB_big HV.out (.inr (.inr ⟨by rw [hhead, hc], h48⟩)))
      have hq := list_ne s [48] h48
      clear h0 hr hhead hc h48
      go_enter Tryz.func372, Tryz.ntmps372
      go_wp2_with (go_at_call 370; refine (valueOf_any _ _ _ (by decide) (by omega)).mono ?_; rintro e w' ⟨rfl, rfl⟩; rw [h1, h2])
      go_ret2
      exact ⟨ret_u32b (by rw [getD_none HN.out]; rfl) (isSome_none HN.out).symm, rfl⟩
    ·have HN := hid (plainB_some HV.out (by rintro (h | h | ⟨h, _⟩); exact h255 h; exact h0 h; rw [hhead] at h; exact hc (Option.some.inj h)))
     have hc' : ((s[0].toNat : Int) == 48) = false := by
      rw [beq_eq_false_iff_ne]
      intro e
      apply hc
      exact UInt8.toNat_inj.1 (by have : (48 : UInt8).toNat = 48 := rfl; omega)
     clear h0 hr hhead hc
     go_enter Tryz.func372, Tryz.ntmps372
     go_wp2_with (go_at_call 370; refine (valueOf_any _ _ _ (by decide) (by omega)).mono ?_; rintro e w' ⟨rfl, rfl⟩; rw [h1, h2])
     go_ret2
     exact ⟨ret_u32b (by rw [getD_some HN.out]) (isSome_some HN.out).symm, rfl⟩

theorem plainB_le {l : List UInt8} {n : Nat} (h : plainB l = some n) : n ≤ 255 := by
 unfold plainB at h
 split at h
 ·cases h
 ·split at h
  ·cases h
  ·cases h; omega

theorem dotN_none {r n : Nat} {l : List UInt8} (h : plainB (Lib.cut l [46]).1 = none) : dotN (r + 1) n l = none := by rw [dotN, h]

theorem dotN_off {r n b : Nat} {l : List UInt8} (h : plainB (Lib.cut l [46]).1 = some b) (h2 : (Lib.cut l [46]).2.2 ≠ decide (r ≠ 0)) : dotN (r + 1) n l = none := by rw [dotN, h]; simp only; rw [if_neg h2]

theorem dotN_on {r n b : Nat} {l : List UInt8} (h : plainB (Lib.cut l [46]).1 = some b) (h2 : (Lib.cut l [46]).2.2 = decide (r ≠ 0)) : dotN (r + 1) n l = dotN r (n * 256 + b) (Lib.cut l [46]).2.1 := by rw [dotN, h]; simp only; rw [if_pos h2]

theorem or32_256 (h n : Nat) (hn : n < 256) (hh : h < 16777216) : bits .or .u32 ((h : Int) * 256) (n : Int) = (h : Int) * 256 + n := by
 have e : (h : Int) * 256 = ((h * 256 : Nat) : Int) := by simp
 rw [e, u32_or_nat _ _ (by omega) (by omega), nat_join 8 _ _ (by omega) (by omega)]
 simp

theorem ret_dot {a b c d : Int} {x y : Bool} (h : a = b) (h2 : c = d) (g : x = y) : Ending.returned (.tuple #[.int .u16 a, .int .u16 c, .bool x]) = .returned (.tuple #[.int .u16 b, .int .u16 d, .bool y]) := by rw [h, h2, g]

set_option maxHeartbeats 2000000 in
theorem dotted_any (s : ByteArray) (w : World) (hg : Gd w) (hs : s.size ≤ 4000000000) :
  Calls Tryz.prog 366 #[.string s] w fun e w' => e = .returned (.tuple #[.int .u16 ((dottedV s.data.toList).getD 0 / 65536 : Nat), .int .u16 ((dottedV s.data.toList).getD 0 % 65536 : Nat), .bool (dottedV s.data.toList).isSome]) ∧ Below w.heap.size w w' := by
 have HG0 := hid hg
 clear hg
 go_enter Tryz.func366, Tryz.ntmps366
 go_wp2
 go_loopg [5, 6, 14] 4 (fun r n rest i wr => ∃ (h : Nat) (l : List UInt8), r ≤ 4 ∧ i = .int .i64 (4 - r) ∧ n = .int .u32 h ∧ rest = .string ⟨l.toArray⟩ ∧ l.length ≤ 4000000000 ∧ h < 2 ^ (8 * (4 - r)) ∧ dotN r h l = dottedV s.data.toList ∧ Below w.heap.size w wr)
 case atStart => exact ⟨0, s.data.toList, by omega, rfl, rfl, by rw [Lib.mk_data], by simpa using hs, by decide, rfl, Below.refl _ _⟩
 case round =>
  obtain ⟨h, l, hr, rfl, rfl, rfl, hl, hh, hf, hbw⟩ := hrel
  have HF := hid hf
  clear hf
  have HG := hid (HG0.out.kept hbw)
  have hls : (⟨l.toArray⟩ : ByteArray).size ≤ 4000000000 := by show l.toArray.size ≤ _; simpa using hl
  cases gk with
  | zero =>
   have HN := hid (show dottedV s.data.toList = some h by rw [← HF.out]; rfl)
   simp at hh
   go_wp2
   go_ret3
   exact ⟨ret_dot (by rw [getD_some HN.out]; omega) (by rw [getD_some HN.out]; first | omega | (rw [IntKind.wrap_u16]; omega)) (isSome_some HN.out).symm, hbw⟩
  | succ r =>
   obtain ⟨⟨a, b, m⟩, hc⟩ : ∃ x, Lib.cut l [46] = x := ⟨_, rfl⟩
   have HC := hid hc
   have hcl := cut_le l [46]
   rw [hc] at hcl
   obtain ⟨hal, hbl⟩ := hcl
   simp only at hal hbl
   have hal' : (⟨a.toArray⟩ : ByteArray).size ≤ 4000000000 := by show a.toArray.size ≤ _; simp; omega
   have hbl' : b.length ≤ 4000000000 := by omega
   clear hc
   have hh32 : h < 16777216 := by
    obtain rfl | rfl | rfl | rfl : r = 0 ∨ r = 1 ∨ r = 2 ∨ r = 3 := by omega
    all_goals simp at hh <;> omega
   cases hnum : plainB a with
   | none =>
    have HN := hid (show dottedV s.data.toList = none by rw [← HF.out]; exact dotN_none (by rw [HC.out]; exact hnum))
    have h1 := isSome_none hnum
    clear hnum
    go_wp2_with (first | (go_at_call 76; refine (cut_any _ _ _ HG.out hls).mono ?_; rintro e w1 ⟨rfl, hb1⟩; rw [show (⟨l.toArray⟩ : ByteArray).data.toList = l from rfl, show (⟨#[46]⟩ : ByteArray).data.toList = [46] from rfl, HC.out]) | (go_at_call 372; refine (plainByte_any _ _ hal').mono ?_; rintro e w' ⟨rfl, rfl⟩; rw [show (⟨a.toArray⟩ : ByteArray).data.toList = a from rfl, h1]))
    go_ret3
    exact ⟨ret_dot (by rw [getD_none HN.out]; rfl) (by rw [getD_none HN.out]; rfl) (isSome_none HN.out).symm, below2 hbw hb1⟩
   | some n =>
    have h1 := isSome_some hnum
    have h2 := getD_some hnum
    have hn := plainB_le hnum
    have HU := hid (show plainB (Lib.cut l [46]).1 = some n by rw [HC.out]; exact hnum)
    have HM := hid (show (Lib.cut l [46]).2.2 = m by rw [HC.out])
    clear hnum
    by_cases hm : m = decide (r ≠ 0)
    ·have HN := hid (show dotN r (h * 256 + n) b = dottedV s.data.toList by rw [← HF.out, dotN_on HU.out (by rw [HM.out]; exact hm), HC.out])
     have hh2 : h * 256 + n < 2 ^ (8 * (4 - r)) := by
      have e : 8 * (4 - r) = 8 * (4 - (r + 1)) + 8 := by omega
      rw [e, Nat.pow_add]
      omega
     have ho := or32_256 h n (by omega) (by omega)
     have HH := hid hh2
     clear hh2 hh
     by_cases hr0 : r = 0
     ·subst hr0
      simp at hm
      subst hm
      go_wp2_with (first | (go_at_call 76; refine (cut_any _ _ _ HG.out hls).mono ?_; rintro e w1 ⟨rfl, hb1⟩; rw [show (⟨l.toArray⟩ : ByteArray).data.toList = l from rfl, show (⟨#[46]⟩ : ByteArray).data.toList = [46] from rfl, HC.out]) | (go_at_call 372; refine (plainByte_any _ _ hal').mono ?_; rintro e w' ⟨rfl, rfl⟩; rw [show (⟨a.toArray⟩ : ByteArray).data.toList = a from rfl, h1, h2]))
      go_roundg 0
      case measure => omega
      case rel => exact ⟨h * 256 + n, b, by omega, by go_num, by go_num, rfl, hbl', HH.out, HN.out, below2 hbw hb1⟩
     ·have hm' : m = true := by rw [hm]; simp [hr0]
      subst hm'
      clear hm
      have hr1 : (4 - ((r : Int) + 1)) < 3 := by omega
      go_wp2_with (first | (go_at_call 76; refine (cut_any _ _ _ HG.out hls).mono ?_; rintro e w1 ⟨rfl, hb1⟩; rw [show (⟨l.toArray⟩ : ByteArray).data.toList = l from rfl, show (⟨#[46]⟩ : ByteArray).data.toList = [46] from rfl, HC.out]) | (go_at_call 372; refine (plainByte_any _ _ hal').mono ?_; rintro e w' ⟨rfl, rfl⟩; rw [show (⟨a.toArray⟩ : ByteArray).data.toList = a from rfl, h1, h2]))
      go_roundg r
      case measure => omega
      case rel => exact ⟨h * 256 + n, b, by omega, by go_num, by go_num, rfl, hbl', HH.out, HN.out, below2 hbw hb1⟩
    ·have HN := hid (show dottedV s.data.toList = none by rw [← HF.out]; exact dotN_off HU.out (by rw [HM.out]; exact hm))
     by_cases hr0 : r = 0
     ·subst hr0
      have hm' : m = true := by cases m <;> simp at hm ⊢
      subst hm'
      clear hm
      go_wp2_with (first | (go_at_call 76; refine (cut_any _ _ _ HG.out hls).mono ?_; rintro e w1 ⟨rfl, hb1⟩; rw [show (⟨l.toArray⟩ : ByteArray).data.toList = l from rfl, show (⟨#[46]⟩ : ByteArray).data.toList = [46] from rfl, HC.out]) | (go_at_call 372; refine (plainByte_any _ _ hal').mono ?_; rintro e w' ⟨rfl, rfl⟩; rw [show (⟨a.toArray⟩ : ByteArray).data.toList = a from rfl, h1, h2]))
      go_ret3
      exact ⟨ret_dot (by rw [getD_none HN.out]; rfl) (by rw [getD_none HN.out]; rfl) (isSome_none HN.out).symm, below2 hbw hb1⟩
     ·have hm' : m = false := by cases m <;> simp [hr0] at hm ⊢
      subst hm'
      clear hm
      have hr1 : (4 - ((r : Int) + 1)) < 3 := by omega
      go_wp2_with (first | (go_at_call 76; refine (cut_any _ _ _ HG.out hls).mono ?_; rintro e w1 ⟨rfl, hb1⟩; rw [show (⟨l.toArray⟩ : ByteArray).data.toList = l from rfl, show (⟨#[46]⟩ : ByteArray).data.toList = [46] from rfl, HC.out]) | (go_at_call 372; refine (plainByte_any _ _ hal').mono ?_; rintro e w' ⟨rfl, rfl⟩; rw [show (⟨a.toArray⟩ : ByteArray).data.toList = a from rfl, h1, h2]))
      go_ret3
      exact ⟨ret_dot (by rw [getD_none HN.out]; rfl) (by rw [getD_none HN.out]; rfl) (isSome_none HN.out).symm, below2 hbw hb1⟩

end Go.Proofs.YtgoefeaopegdoaaGreatDoor

namespace Go.Proofs.YtgoefeaopegdoaaGreatDoor
open Go.RowKit

theorem infoU16 : (Tryz.prog.info? 279).map (fun i => (i.zero, i.size, i.bytes)) = some (some (.int .u16 0), 1, 2) := by kernel_rfl

def cells16 (l : List Nat) : List Value := l.map fun (n : Nat) => Value.int .u16 (n : Int)

theorem cells16_app (a b : List Nat) : cells16 (a ++ b) = cells16 a ++ cells16 b := by simp [cells16]

theorem cells16_len (a : List Nat) : (cells16 a).length = a.length := by simp [cells16]

theorem own_form {w : World} {base : Nat} {e : TypeId} {size n : Nat} {v : Value} {xs : List Value} (h : w.ownsRow base e size v n xs) : ∃ a cap, v = .slice a n cap := by
 rcases h.2 with ⟨rfl, rfl⟩ | ⟨g, cap, cur, rfl, _⟩
 ·exact ⟨none, 0, rfl⟩
 ·exact ⟨_, cap, rfl⟩

theorem piecesN_done {e : Bool} {f : Nat} {out : List Nat} {l : List UInt8} : piecesN e f out l false = some out := by cases f <;> rfl

theorem piecesN_bad {e : Bool} {f : Nat} {out : List Nat} {l : List UInt8} (h : pieceV (e && !(Lib.cut l [58]).2.2) (Lib.cut l [58]).1 = none) : piecesN e (f + 1) out l true = none := by rw [piecesN, h]

theorem piecesN_go {e : Bool} {f : Nat} {out ns : List Nat} {l : List UInt8} (h : pieceV (e && !(Lib.cut l [58]).2.2) (Lib.cut l [58]).1 = some ns) : piecesN e (f + 1) out l true = piecesN e f (out ++ ns) (Lib.cut l [58]).2.1 (Lib.cut l [58]).2.2 := by rw [piecesN, h]

theorem scan_end {o : Option Nat} {b : Bool} {i n : Nat} : scanP o b i n [] = if i = 0 then none else some [n] := rfl

theorem scan_dot {o : Option Nat} {i n : Nat} {l : List UInt8} : scanP o true i n (46 :: l) = o.map fun m => [m / 65536, m % 65536] := by simp [scanP]

theorem scan_dig {o : Option Nat} {b : Bool} {i n : Nat} {c : UInt8} {l : List UInt8} (h : ¬ (c = 46 ∧ b = true)) (hd : dig16 c < 16) (h4 : i ≠ 4) : scanP o b i n (c :: l) = scanP o b (i + 1) (n * 16 + dig16 c) l := by
 rw [scanP, if_neg h, if_pos ⟨hd, h4⟩]

theorem scan_bad {o : Option Nat} {b : Bool} {i n : Nat} {c : UInt8} {l : List UInt8} (h : ¬ (c = 46 ∧ b = true)) (hd : ¬ (dig16 c < 16 ∧ i ≠ 4)) : scanP o b i n (c :: l) = none := by
 rw [scanP, if_neg h, if_neg hd]

theorem or16s (n d : Nat) (hn : n < 4096) (hd : d < 16) : bits .or .u16 ((n : Int) * 16) (d : Int) = (n : Int) * 16 + d := by
 have e : (n : Int) * 16 = ((n * 16 : Nat) : Int) := by simp
 rw [e, u16_or_nat _ _ (by omega) (by omega), nat_join 4 _ _ (by omega) (by omega)]
 simp

theorem hdigit_dot (w : World) : Calls Tryz.prog 367 #[.int .u8 46, .int .u64 16] w fun e w' => e = .returned (.tuple #[.int .u64 0, .bool false]) ∧ w = w' := by
 have h := hdigit_any 46 16 w (by decide)
 rw [(dig_no (base := 16) (c := 46) (by decide)).1, (dig_no (base := 16) (c := 46) (by decide)).2] at h
 exact h

def RpPost (s : List UInt8) (atEnd : Bool) (w : World) (e : Ending) (w' : World) : Prop :=
 ∃ (a : Option Addr) (cap : Nat) (out : List Nat), e = .returned (.tuple #[.slice a out.length cap, .bool (piecesV s atEnd).isSome]) ∧ w'.ownsRow w.heap.size 279 1 (.slice a out.length cap) out.length (cells16 out) ∧ out.length ≤ 9 ∧ (∀ p, piecesV s atEnd = some p → out = p) ∧ Below w.heap.size w w'

theorem own_kept {w w' : World} {base : Nat} {e : TypeId} {size n : Nat} {v : Value} {xs : List Value} (h : w.ownsRow base e size v n xs) (hb : Below w.heap.size w w') : w'.ownsRow base e size v n xs := by
 refine ⟨h.1, ?_⟩
 rcases h.2 with h | ⟨g, cap, cur, hv, h1, h2, h3⟩
 ·exact .inl h
 ·refine .inr ⟨g, cap, cur, hv, h1, ?_, h3⟩
  have hlt : g < w.heap.size := by
   rcases Nat.lt_or_ge g w.heap.size with h' | h'
   ·exact h'
   ·rw [Array.getElem?_eq_none h'] at h2; cases h2
  rw [hb.block g hlt]; exact h2

theorem own_nil (w : World) (base : Nat) (e : TypeId) : w.ownsRow base e 1 (.slice none 0 0) 0 [] := ⟨rfl, .inl ⟨rfl, rfl⟩⟩

theorem rp_none {s : List UInt8} {atEnd : Bool} {w w' : World} (h : piecesV s atEnd = none) (hb : Below w.heap.size w w') : RpPost s atEnd w (.returned (.tuple #[.slice none 0 0, .bool false])) w' :=
 ⟨none, 0, [], by rw [h]; rfl, own_nil _ _ _, by simp, fun p hp => (by rw [h] at hp; cases hp), hb⟩

theorem rp_some {s : List UInt8} {atEnd : Bool} {w w' : World} {a : Option Addr} {cap : Nat} {out : List Nat} (h : piecesV s atEnd = some out) (hown : w'.ownsRow w.heap.size 279 1 (.slice a out.length cap) out.length (cells16 out)) (hl : out.length ≤ 9) (hb : Below w.heap.size w w') :
  RpPost s atEnd w (.returned (.tuple #[.slice a out.length cap, .bool true])) w' :=
 ⟨a, cap, out, by rw [h]; rfl, hown, hl, fun p hp => (by rw [h] at hp; exact Option.some.inj hp), hb⟩

theorem rp_over {s : List UInt8} {atEnd : Bool} {w w' : World} {a : Option Addr} {cap : Nat} {out : List Nat} (h : piecesV s atEnd = none) (hown : w'.ownsRow w.heap.size 279 1 (.slice a out.length cap) out.length (cells16 out)) (hl : out.length ≤ 9) (hb : Below w.heap.size w w') :
  RpPost s atEnd w (.returned (.tuple #[.slice a out.length cap, .bool false])) w' :=
 ⟨a, cap, out, by rw [h]; rfl, hown, hl, fun p hp => (by rw [h] at hp; cases hp), hb⟩

set_option maxHeartbeats 4000000 in
set_option maxRecDepth 100000 in
theorem readPieces_any (s : ByteArray) (atEnd : Bool) (w : World) (hg : Gd w) (hs : s.size ≤ 4000000000) :
  Calls Tryz.prog 352 #[.string s, .bool atEnd] w (RpPost s.data.toList atEnd w) := by
 obtain ⟨i0, hi, hz0, hz1, hz2⟩ := info_parts infoU16
 have HG0 := hid hg
 clear hg
 obtain ⟨mo, hmo⟩ : ∃ mo : Bool, mo = decide (s.data.toList ≠ []) := ⟨_, rfl⟩
 have hem : s.toList.isEmpty = !mo := by
  rw [hmo]
  by_cases h0 : s.data.toList = []
  ·rw [empty_yes s h0]; simp [h0]
  ·rw [empty_no s h0]; simp [h0]
 have HP := hid (show piecesN atEnd 8 [] s.data.toList mo = piecesV s.data.toList atEnd by rw [hmo]; rfl)
 clear hmo
 go_enter Tryz.func352, Tryz.ntmps352
 go_wp2
 go_step3
 go_wp2
 go_step3
 go_wp2
 go_loopg [6, 7, 8] 8 (fun f v rest more wr => ∃ (a : Option Addr) (cap : Nat) (out : List Nat) (l : List UInt8) (m : Bool), out.length + f = 8 ∧ v = .slice a out.length cap ∧ rest = .string ⟨l.toArray⟩ ∧ more = .bool m ∧ l.length ≤ 4000000000 ∧
  wr.ownsRow w.heap.size 279 1 (.slice a out.length cap) out.length (cells16 out) ∧ piecesN atEnd f out l m = piecesV s.data.toList atEnd ∧ Below w.heap.size w wr)
 case atStart => exact ⟨none, 0, [], s.data.toList, mo, rfl, rfl, by rw [Lib.mk_data], by simp, by simpa using hs, own_nil _ _ _, HP.out, Below.refl _ _⟩
 case round =>
  obtain ⟨a, cap, out, l, m, hof, rfl, rfl, rfl, hl, hown, hf, hbw⟩ := hrel
  have HO := hid hown
  have HF := hid hf
  clear hf hown
  have HG := hid (HG0.out.kept hbw)
  have hls : (⟨l.toArray⟩ : ByteArray).size ≤ 4000000000 := by show l.toArray.size ≤ _; simpa using hl
  cases m with
  | false =>
   have HN := hid (show piecesV s.data.toList atEnd = some out by rw [← HF.out]; exact piecesN_done)
   go_wp2
   try rw [Exit.noGoto_ret]
   go_ret2
   exact rp_some HN.out HO.out (by omega) hbw
  | true =>
   cases gk with
   | zero =>
    have HN := hid (show piecesV s.data.toList atEnd = none by rw [← HF.out]; rfl)
    have h8 : ¬ ((out.length : Int) < 8) := by omega
    go_wp2
    try rw [Exit.noGoto_ret]
    go_ret2
    exact rp_over HN.out HO.out (by omega) hbw
   | succ f =>
    obtain ⟨⟨p, b, mm⟩, hc⟩ : ∃ x, Lib.cut l [58] = x := ⟨_, rfl⟩
    have HC := hid hc
    have hcl := cut_le l [58]
    rw [hc] at hcl
    obtain ⟨hal, hbl⟩ := hcl
    simp only at hal hbl
    have hal' : p.length ≤ 4000000000 := by omega
    have hbl' : b.length ≤ 4000000000 := by omega
    have h8 : ((out.length : Int) < 8) := by omega
    clear hc
    obtain ⟨P, hP⟩ : ∃ P : ByteArray, P = ⟨p.toArray⟩ := ⟨_, rfl⟩
    have HPE := hid hP
    have HPD := hid (show P.data.toList = p by rw [hP])
    have hPs : P.size ≤ 4000000000 := by rw [hP]; show p.toArray.size ≤ _; simpa using hal'
    clear hP
    go_wp2_with (first | (go_at_call 76; refine (cut_any _ _ _ HG.out hls).mono ?_; rintro e w1 ⟨rfl, hb1⟩; rw [show (⟨l.toArray⟩ : ByteArray).data.toList = l from rfl, show (⟨#[58]⟩ : ByteArray).data.toList = [58] from rfl, HC.out]; dsimp only; rw [← HPE.out]))
    have HO1 := hid (own_kept HO.out hb1)
    have HG1 := hid (HG.out.kept hb1)
    have hbw1 := below2 hbw hb1
    have HFb := hid (show ∀ ns, pieceV (atEnd && !mm) p = some ns → piecesN atEnd f (out ++ ns) b mm = piecesV s.data.toList atEnd by
     intro ns hns
     rw [← HF.out, piecesN_go (ns := ns) (by rw [HC.out]; exact hns), HC.out])
    have HFn := hid (show pieceV (atEnd && !mm) p = none → piecesV s.data.toList atEnd = none by
     intro hns
     rw [← HF.out, piecesN_bad (by rw [HC.out]; exact hns)])
    clear hb1 hbw
    go_loopg [6, 10, 34] P.size (fun g ov nv iv wx => ∃ k n : Nat, ov = .slice a out.length cap ∧ k + g = P.size ∧ k ≤ 4 ∧ iv = .int .i64 k ∧ nv = .int .u16 n ∧ n < 16 ^ k ∧ scanP (dottedV p) (atEnd && !mm) k n (P.data.toList.drop k) = pieceV (atEnd && !mm) p ∧ wx = w1)
    case atStart => exact ⟨0, 0, rfl, by omega, by omega, rfl, rfl, by decide, by rw [HPD.out]; rfl, rfl⟩
    case round =>
     obtain ⟨k, n, rfl, hkg, hk4, rfl, rfl, hn, hsc, rfl⟩ := hrel
     have HS := hid hsc
     clear hsc
     have hn16 : n < 65536 := by
      have h4 : 16 ^ k ≤ 16 ^ 4 := Nat.pow_le_pow_right (by omega) hk4
      rw [show 16 ^ 4 = 65536 from rfl] at h4
      exact Nat.lt_of_lt_of_le hn h4
     cases gk with
     | zero =>
      have hkl : k = P.size := by omega
      have hkl' : ¬ ((k : Int) < (P.size : Int)) := by omega
      have hdr : P.data.toList.drop k = [] := drop_none P k (by omega)
      by_cases hk0 : k = 0
      ·have HN := hid (HFn.out (by rw [← HS.out, hdr, scan_end, if_pos hk0]))
       have he := empty_yes P (by rw [hk0, List.drop_zero] at hdr; exact hdr)
       clear hdr
       go_wp2
       try rw [Exit.noGoto_ret]
       go_ret2
       exact rp_none HN.out hbw1
      ·have HV := hid (show pieceV (atEnd && !mm) p = some [n] by rw [← HS.out, hdr, scan_end, if_neg hk0])
       have HN := hid (HFb.out [n] HV.out)
       have he := empty_no P (by intro e; apply hk0; have h0 := congrArg List.length e; rw [List.length_nil, ← Lib.size_eq] at h0; omega)
       clear hdr
       go_wp2_with (at_builtin; go_must (refine wpList_append_own _ rfl _ _ 291 rfl w.heap.size 279 i0 (.int .u16 0) 1 2 Tryz.underlying291 hi hz0 hz1 hz2 rfl (by decide) _ _ _ rfl (HO1.out.alloc _) ⟨wr.heap.size, 0, none⟩ 1 1 [.int .u16 n] rfl rfl ?c1 ?c2 ?c3 ?c4 ?c5 ?_))
       case c2 => rfl
       case c3 => unfold maxLen; omega
       case c4 => omega
       case c5 => have := hbw1.size; simp; omega
       intro v' w3 hown' hgrow hnil
       obtain ⟨a', cap', rfl⟩ := own_form hown'
       have HOw := hid hown'
       have HBl := hid (show Below w.heap.size w w3 from (hbw1.alloc hbw1.size _).grown hgrow (by have := hbw1.size; simp; omega) (fun g hg => (HO1.out.lt g hg).1))
       clear hown' hgrow hnil
       go_wp2
       go_roundg f
       case measure => omega
       case rel => exact ⟨a', cap', out ++ [n], b, mm, by simp; omega, by simp, rfl, rfl, hbl', by rw [cells16_app, show cells16 [n] = [Value.int .u16 (n : Int)] from rfl]; simpa using HOw.out, HN.out, HBl.out⟩
     | succ g =>
      have hlt : k < P.size := by omega
      have hlt' : (k : Int) < (P.size : Int) := by omega
      have HD := hid (drop_cons P k hlt)
      have hc8 : P[k].toNat < 256 := P[k].toNat_lt
      by_cases hdot : P[k] = 46
      ·have hdot' : (P[k].toNat : Int) = 46 := by rw [hdot]; rfl
       have hd16 : ¬ dig16 P[k] < 16 := by rw [hdot]; decide
       have h1 := (dig_no hd16).1
       have h2 := (dig_no hd16).2
       cases hae : (atEnd && !mm) with
       | true =>
        have hA : atEnd = true := by cases atEnd <;> simp at hae ⊢
        have hM : mm = false := by cases mm <;> simp at hae ⊢
        have HPv := hid (show pieceV (atEnd && !mm) p = (dottedV p).map fun m => [m / 65536, m % 65536] by rw [← HS.out, HD.out, hdot, hae]; exact scan_dot)
        subst hM
        subst hA
        clear hdot hae
        cases hdv : dottedV p with
        | none =>
         have HN := hid (HFn.out (by rw [HPv.out, hdv]; rfl))
         have g1 := isSome_none hdv
         clear hdv
         go_wp2_with (first | (go_at_call 366; refine (dotted_any _ _ HG1.out hPs).mono ?_; rintro e w2 ⟨rfl, hb2⟩; rw [HPD.out, g1]))
         try rw [Exit.noGoto_ret]
         go_ret2
         exact rp_none HN.out (below2 hbw1 hb2)
        | some m =>
         have HN := hid (HFb.out [m / 65536, m % 65536] (by rw [HPv.out, hdv]; rfl))
         have g1 := isSome_some hdv
         have g2 := getD_some hdv
         clear hdv
         go_wp2_with (first | (go_at_call 366; refine (dotted_any _ _ HG1.out hPs).mono ?_; rintro e w2 ⟨rfl, hb2⟩; rw [HPD.out, g1, g2]) | (at_builtin; go_must (refine wpList_append_own _ rfl _ _ 291 rfl w.heap.size 279 i0 (.int .u16 0) 1 2 Tryz.underlying291 hi hz0 hz1 hz2 rfl (by decide) _ _ _ rfl ((own_kept HO1.out hb2).alloc _) ⟨w2.heap.size, 0, none⟩ 2 2 [.int .u16 (m / 65536 : Nat), .int .u16 (m % 65536 : Nat)] rfl rfl ?d1 ?d2 ?d3 ?d4 ?d5 ?_)))
         case d1 =>
          intro j u hj
          match j, hj with
          | 0, hj => simp at hj; subst hj; simp [Addr.add]
          | 1, hj => simp at hj; subst hj; simp [Addr.add]
         case d2 => intro u hu; simp at hu; rcases hu with rfl | rfl <;> rfl
         case d3 => unfold maxLen; omega
         case d4 => omega
         case d5 => have := hbw1.size; have := hb2.size; simp; omega
         intro v' w3 hown' hgrow hnil
         obtain ⟨a', cap', rfl⟩ := own_form hown'
         have hbw2 := below2 hbw1 hb2
         have HOw := hid hown'
         have HBl := hid (show Below w.heap.size w w3 from (hbw2.alloc hbw2.size _).grown hgrow (by have := hbw2.size; simp; omega) (fun g hg => (HO1.out.lt g hg).1))
         clear hown' hgrow hnil
         go_wp2
         try rw [Exit.noGoto_ret]
         go_ret2
         have hps := HN.out
         rw [piecesN_done] at hps
         have hp := rp_some (w := w) (w' := w3) (a := a') (cap := cap') (out := out ++ [m / 65536, m % 65536]) hps.symm (by rw [cells16_app, show cells16 [m / 65536, m % 65536] = [Value.int .u16 ((m / 65536 : Nat) : Int), Value.int .u16 ((m % 65536 : Nat) : Int)] from rfl, List.length_append]; exact HOw.out) (by simp; omega) HBl.out
         rw [List.length_append] at hp
         exact hp
       | false =>
        have HN := hid (HFn.out (by rw [← HS.out, HD.out]; exact scan_bad (fun h => by rw [hae] at h; exact absurd h.2 (by decide)) (fun h => hd16 h.1)))
        clear hdot
        have hcase : atEnd = false ∨ (atEnd = true ∧ mm = true) := by cases atEnd <;> cases mm <;> simp at hae ⊢
        clear hae
        rcases hcase with rfl | ⟨rfl, rfl⟩
        all_goals
         go_wp2_with (first | (go_at_call 367; refine (hdigit_dot _).mono ?_; rintro e w' ⟨rfl, rfl⟩))
         try rw [Exit.noGoto_ret]
         go_ret2
         exact rp_none HN.out hbw1
      ·have hdot' : ((P[k].toNat : Int) == 46) = false := by
        rw [beq_eq_false_iff_ne]
        intro e
        apply hdot
        exact UInt8.toNat_inj.1 (by have : (46 : UInt8).toNat = 46 := rfl; omega)
       by_cases hd : dig16 P[k] < 16
       ·have h1 := (dig_yes hd).1
        have h2 := (dig_yes hd).2
        by_cases h4 : k = 4
        ·have HN := hid (HFn.out (by rw [← HS.out, HD.out]; exact scan_bad (fun h => hdot h.1) (fun h => h.2 h4)))
         subst h4
         clear hdot
         go_wp2_with (first | (go_at_call 367; refine (hdigit_any _ _ _ (by decide)).mono ?_; rintro e w' ⟨rfl, rfl⟩; rw [h1, h2]))
         try rw [Exit.noGoto_ret]
         go_ret2
         exact rp_none HN.out hbw1
        ·have hk3 : k ≤ 3 := by omega
         have HN := hid (show scanP (dottedV p) (atEnd && !mm) (k + 1) (n * 16 + dig16 P[k]) (P.data.toList.drop (k + 1)) = pieceV (atEnd && !mm) p by rw [← HS.out, HD.out, scan_dig (fun h => hdot h.1) hd h4])
         have hn12 : n < 4096 := by
          have h3 : 16 ^ k ≤ 16 ^ 3 := Nat.pow_le_pow_right (by omega) hk3
          rw [show 16 ^ 3 = 4096 from rfl] at h3
          exact Nat.lt_of_lt_of_le hn h3
         have HNn := hid (show n * 16 + dig16 P[k] < 16 ^ (k + 1) by rw [Nat.pow_succ]; omega)
         have ho := or16s n (dig16 P[k]) hn12 hd
         have h4' : ((k : Int) == 4) = false := by rw [beq_eq_false_iff_ne]; omega
         clear hdot h4 hn
         go_wp2_with (first | (go_at_call 367; refine (hdigit_any _ _ _ (by decide)).mono ?_; rintro e w' ⟨rfl, rfl⟩; rw [h1, h2]))
         go_roundg g
         case measure => omega
         case rel => exact ⟨k + 1, n * 16 + dig16 P[k], rfl, by omega, by omega, by go_num, by go_num, HNn.out, HN.out, rfl⟩
       ·have h1 := (dig_no hd).1
        have h2 := (dig_no hd).2
        have HN := hid (HFn.out (by rw [← HS.out, HD.out]; exact scan_bad (fun h => hdot h.1) (fun h => hd h.1)))
        clear hdot
        go_wp2_with (first | (go_at_call 367; refine (hdigit_any _ _ _ (by decide)).mono ?_; rintro e w' ⟨rfl, rfl⟩; rw [h1, h2]))
        try rw [Exit.noGoto_ret]
        go_ret2
        exact rp_none HN.out hbw1

end Go.Proofs.YtgoefeaopegdoaaGreatDoor
