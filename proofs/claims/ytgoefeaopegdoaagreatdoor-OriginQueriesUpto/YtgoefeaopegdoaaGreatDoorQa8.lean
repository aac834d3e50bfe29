/-
  Walks and plain facts that this claim leans on, put together out of 7 texts: Rm, Hh, Hi, Hk, Ph, Ua, Yc.
-/
import Derived.Test.YtgoefeaopegdoaaGreatDoorProg
import Derived.Test.YtgoefeaopegdoaaGreatDoorQa1
import Derived.Test.YtgoefeaopegdoaaGreatDoorQa3
import Derived.Test.YtgoefeaopegdoaaGreatDoorQa6
import Derived.Test.YtgoefeaopegdoaaGreatDoorQa7
import Derived.Lib.IndexMore
import Derived.Lib.Join
import Derived.Lib.LastIndexByte
import Derived.WalkKit
import Derived.Lib.Strings
import Derived.Lib.UnsafeStr
import Derived.Laws.IdiomStrings
import Derived.Laws.AppendOwn
import Derived.Laws.BitsAllLaws
import Derived.Lib.Bytealg
import Derived.Lib.BufferMore
import Derived.Shelf.Strings.Builder1
import Derived.Shelf.Strings.Builder2
import Derived.Shelf.Strings.OnBuilder
import Derived.Shelf.Strings.Trim
import Derived.Shelf.Small.Utf8
import Derived.Shelf.Small.Bits
import Derived.Shelf.Small.Strs
import Derived.Shelf.Small.Wraps
import Derived.Shelf.Strings.BuilderF
import Derived.Shelf.Strings.BuilderK
import Derived.Shelf.Strings.BuilderRune
import Derived.Shelf.Utf8.AppendRune
import Derived.Shelf.Utf8.AppendRunePlain
import Derived.Shelf.Strings.Builder2Cap
import Derived.Shelf.Strconv.Itoa0
import Derived.Shelf.Strconv.Itoa1
import Derived.Shelf.LaysM
import Derived.Shelf.Strconv.Itoa2
import Derived.Shelf.Strconv.Itoa3
import Derived.Shelf.Strings.Search1
import Derived.Shelf.Strings.Search2
import Derived.Shelf.Strings.Search3
import Derived.Shelf.Strings.Cut
import Derived.Shelf.Strings.Count
import Derived.Shelf.Strings.Shaped
import Derived.Shelf.Strings.LastIndex
import Derived.Shelf.Strings.Prefix
import Derived.Shelf.Strings.Split
import Derived.Shelf.Strings.Replace
import Derived.Shelf.Strings.Runes
import Derived.Shelf.Strings.IndexAny
import Derived.Shelf.Strings.AsciiSet
import Derived.Shelf.Strings.IndexAnyAll
import Derived.Shelf.Unicode.DecodeSlow
import Derived.Ground.Names2Prog
import Derived.Shelf.Slices.Clone
import Derived.Shelf.Slices.In.SortNone
import Derived.Ground.SlgnProg
import Derived.Shelf.SlicesE.Clone
import Derived.WalkSpells
import Derived.WalkLawsBesides
import Derived.Lib.AppendIntMem
import Derived.Lib.SmallJoins
import Derived.WalkSmall
import Derived.WalkMore
import Derived.Deep.LoopGhost
import Derived.OwnWalk
import Derived.Laws.CopyOwn
import Derived.Laws.ResultCell
import Derived.Deep.MidRow
import Derived.Deep.RegionWith
import Derived.Lib.FrozenHead2
import Derived.Lib.OthersKept
import Derived.Lib.Builder
set_option linter.unusedSimpArgs false
set_option linter.unusedVariables false

namespace Go.Proofs.YtgoefeaopegdoaaGreatDoor
open Go.RowKit

theorem tens_at (d : Nat) (h : d < 10) : ((⟨#[48, 49, 50, 51, 52, 53, 54, 55, 56, 57]⟩ : ByteArray).extract d (d + 1)).data.toList = [digC d] := by
 rcases (show d = 0 ∨ d = 1 ∨ d = 2 ∨ d = 3 ∨ d = 4 ∨ d = 5 ∨ d = 6 ∨ d = 7 ∨ d = 8 ∨ d = 9 from by omega) with
  rfl | rfl | rfl | rfl | rfl | rfl | rfl | rfl | rfl | rfl <;> (rw [Lib.extract_data]; rfl)

theorem tens_app (d : Nat) (h : d < 10) (T : List UInt8) : (⟨#[48, 49, 50, 51, 52, 53, 54, 55, 56, 57]⟩ : ByteArray).extract d (d + 1) ++ ⟨T.toArray⟩ = ⟨(digC d :: T).toArray⟩ := by
 refine ba_ext ?_
 rw [ByteArray.data_append, Array.toList_append, tens_at d h]; simp

theorem digsN_fuel (base : Nat) (h2 : 2 ≤ base) : ∀ (f g n : Nat) (T : List UInt8), f ≠ 0 → g ≠ 0 → n < base ^ f → n < base ^ g → digsN base f n T = digsN base g n T
 | 0, _, _, _, h, _, _, _ => absurd rfl h
 | _, 0, _, _, _, h, _, _ => absurd rfl h
 | f + 1, g + 1, n, T, _, _, hf, hg => by
  by_cases hn : n < base
  ·rw [digsN_last _ _ _ _ hn, digsN_last _ _ _ _ hn]
  ·rw [digsN_more _ _ _ _ hn, digsN_more _ _ _ _ hn]
   have hd : 0 < base := by omega
   have h1 : n / base < base ^ f := by rw [Nat.div_lt_iff_lt_mul hd]; rw [Nat.pow_succ] at hf; exact hf
   have h3 : n / base < base ^ g := by rw [Nat.div_lt_iff_lt_mul hd]; rw [Nat.pow_succ] at hg; exact hg
   have h0 : n / base ≠ 0 := Nat.pos_iff_ne_zero.1 (Nat.div_pos (by omega) hd)
   refine digsN_fuel base h2 f g _ _ ?_ ?_ h1 h3
   ·rintro rfl; simp at h1; omega
   ·rintro rfl; simp at h3; omega

theorem hex16_digs (n : Nat) (h : n < 65536) : hex16 n = digs 16 n := by
 unfold hex16 digs
 refine digsN_fuel 16 (by omega) 4 40 n [] (by omega) (by omega) (by omega) ?_
 have h1 : 16 ^ 4 ≤ 16 ^ 40 := Nat.pow_le_pow_right (by omega) (by omega)
 omega

set_option maxHeartbeats 2000000 in
theorem rdigits_any (n : Nat) (w : World) (hn : n < 65536) :
  Calls Tryz.prog 327 #[.int .u16 n] w fun e w' => e = .returned (.string ⟨(hex16 n).toArray⟩) ∧ w = w' := by
 rw [hex16_digs n hn]
 have h40 : n < 16 ^ 40 := by
  have h1 : 16 ^ 4 ≤ 16 ^ 40 := Nat.pow_le_pow_right (by omega) (by omega)
  omega
 have H0 := hid (show DigInv 16 n 40 n [] from ⟨h40, by omega, rfl, .inl ⟨rfl, .inr rfl⟩⟩)
 clear h40
 go_enter Tryz.func327, Tryz.ntmps327
 go_wp2
 go_loopg [0, 3] 40 (fun f nv sv wr => ∃ (u : Nat) (T : List UInt8), nv = .int .u16 u ∧ sv = .string ⟨T.toArray⟩ ∧ u < 65536 ∧ DigInv 16 n f u T ∧ wr = w)
 case atStart => exact ⟨n, [], rfl, rfl, hn, H0.out, rfl⟩
 case round =>
  obtain ⟨u, T, rfl, rfl, hu, hinv, rfl⟩ := hrel
  have hTl : T.length ≤ 40 := by have := hinv.2.2.1; omega
  have HI := hid hinv
  clear hinv
  have hm : u % 16 < 16 := by omega
  by_cases hp : 0 < u ∨ T = []
  ·obtain ⟨g, rfl, hnext⟩ := HI.out.step (by omega) hp
   have HN := hid hnext
   have HX := hid (hexs_app (u % 16) hm T)
   have hul : u / 16 < 65536 := by omega
   clear hnext
   by_cases h0 : 0 < u
   ·have h0' : (0 : Int) < (u : Int) := by omega
    clear hp
    go_wp2
    go_roundg g
    case measure => omega
    case rel => exact ⟨_, _, by go_num, by rw [HX.out], hul, HN.out, rfl⟩
   ·have hT0 : T = [] := hp.resolve_left h0
    have hu0 : u = 0 := by omega
    subst hT0
    subst hu0
    clear hp h0
    go_wp2
    go_roundg g
    case measure => omega
    case rel => exact ⟨_, _, by go_num, by rw [HX.out], hul, HN.out, rfl⟩
  ·have hu0 : u = 0 := by omega
   have hT : T ≠ [] := fun h => hp (.inr h)
   have HD := hid (HI.out.done hu0 hT)
   have he : T.isEmpty = false := by simpa using hT
   subst hu0
   clear hp hT
   go_wp2
   go_ret
   rw [HD.out]
   exact ⟨rfl, rfl⟩

set_option maxHeartbeats 2000000 in
theorem numeral_nat (n : Nat) (w : World) (hn : n ≤ 9223372036854775807) :
  Calls Tryz.prog 330 #[.int .i64 n] w fun e w' => e = .returned (.string ⟨(digs 10 n).toArray⟩) ∧ w = w' := by
 have h40 : n < 10 ^ 40 := by
  have h3 : (9223372036854775807 : Nat) < 10 ^ 40 := by decide
  omega
 have H0 := hid (show DigInv 10 n 40 n [] from ⟨h40, by omega, rfl, .inl ⟨rfl, .inr rfl⟩⟩)
 clear h40
 have hq1 : ((n : Int) == -9223372036854775808) = false := by rw [beq_eq_false_iff_ne]; omega
 have hq2 : decide ((n : Int) < 0) = false := decide_eq_false (by omega)
 go_enter Tryz.func330, Tryz.ntmps330
 go_wp2
 go_loopg [0, 3] 40 (fun f nv sv wr => ∃ (u : Nat) (T : List UInt8), nv = .int .i64 u ∧ sv = .string ⟨T.toArray⟩ ∧ u ≤ 9223372036854775807 ∧ DigInv 10 n f u T ∧ wr = w)
 case atStart => exact ⟨n, [], rfl, rfl, hn, H0.out, rfl⟩
 case round =>
  obtain ⟨u, T, rfl, rfl, hu, hinv, rfl⟩ := hrel
  have hTl : T.length ≤ 40 := by have := hinv.2.2.1; omega
  have HI := hid hinv
  clear hinv
  have hm : u % 10 < 10 := by omega
  have ht1 : (u : Int).tmod 10 = ((u % 10 : Nat) : Int) := by rw [Int.tmod_eq_emod_of_nonneg (by omega)]; omega
  have ht2 : (u : Int).tdiv 10 = ((u / 10 : Nat) : Int) := by rw [Int.tdiv_eq_ediv_of_nonneg (by omega)]; omega
  by_cases hp : 0 < u ∨ T = []
  ·obtain ⟨g, rfl, hnext⟩ := HI.out.step (by omega) hp
   have HN := hid hnext
   have HX := hid (tens_app (u % 10) hm T)
   have hul : u / 10 ≤ 9223372036854775807 := by omega
   clear hnext
   by_cases h0 : 0 < u
   ·have h0' : (0 : Int) < (u : Int) := by omega
    clear hp
    go_wp2
    go_roundg g
    case measure => omega
    case rel => exact ⟨_, _, by go_num, by rw [HX.out], hul, HN.out, rfl⟩
   ·have hT0 : T = [] := hp.resolve_left h0
    have hu0 : u = 0 := by omega
    subst hT0
    subst hu0
    clear hp h0
    go_wp2
    go_roundg g
    case measure => omega
    case rel => exact ⟨_, _, by go_num, by rw [HX.out], hul, HN.out, rfl⟩
  ·have hu0 : u = 0 := by omega
   have hT : T ≠ [] := fun h => hp (.inr h)
   have HD := hid (HI.out.done hu0 hT)
   have he : T.isEmpty = false := by simpa using hT
   subst hu0
   clear hp hT
   go_wp2
   go_ret
   rw [HD.out]
   exact ⟨rfl, rfl⟩

end Go.Proofs.YtgoefeaopegdoaaGreatDoor

namespace Go.Proofs.YtgoefeaopegdoaaGreatDoor
theorem joined_nil : joined [] = [] := by simp [joined, Lib.join, List.intercalate]

theorem joined_one (n : Nat) : joined [n] = hex16 n := by simp [joined, Lib.join, List.intercalate]

theorem joined_cons (a b : Nat) (l : List Nat) : joined (a :: b :: l) = hex16 a ++ ([58] ++ joined (b :: l)) := by simp [joined, Lib.join, List.intercalate]

theorem joined_snoc : ∀ (l : List Nat) (n : Nat), l ≠ [] → joined (l ++ [n]) = joined l ++ ([58] ++ hex16 n)
 | [], _, h => absurd rfl h
 | [a], n, _ => by
  show joined (a :: n :: []) = _
  rw [joined_cons, joined_one, joined_one]
 | a :: b :: l, n, _ => by
  show joined (a :: b :: (l ++ [n])) = _
  have := joined_snoc (b :: l) n (by simp)
  rw [joined_cons, joined_cons]
  rw [show b :: (l ++ [n]) = (b :: l) ++ [n] from rfl, this]
  simp

theorem hex16_no58 (n : Nat) : 58 ∉ hex16 n := by
 intro h
 have hall := digsN_all (fun c => c != 58) 16 (by omega) (by decide) 4 n [] rfl
 have := List.all_eq_true.1 hall 58 h
 simp at this

theorem hex16_ne (n : Nat) : hex16 n ≠ [] := digsN_ne 16 4 n [] (.inr (by decide))

theorem last_of (l : List UInt8) (h : l ≠ []) : ∃ A c, l = A ++ [c] := ⟨l.dropLast, l.getLast h, (List.dropLast_concat_getLast h).symm⟩

def EndsWell (T : List UInt8) : Prop := ∃ A c, T = A ++ [c] ∧ c ≠ 58

theorem EndsWell.app (P : List UInt8) {T : List UInt8} (h : EndsWell T) : EndsWell (P ++ T) := by
 obtain ⟨A, c, e, hc⟩ := h
 exact ⟨P ++ A, c, by rw [e, List.append_assoc], hc⟩

theorem hex16_ends (n : Nat) : EndsWell (hex16 n) := by
 obtain ⟨A, c, e⟩ := last_of _ (hex16_ne n)
 refine ⟨A, c, e, fun hc => hex16_no58 n ?_⟩
 rw [e, hc]; simp

theorem joined_ends (l : List Nat) (h : l ≠ []) : EndsWell (joined l) := by
 have e : l = l.dropLast ++ [l.getLast h] := (List.dropLast_concat_getLast h).symm
 rw [e]
 by_cases h0 : l.dropLast = []
 ·rw [h0, List.nil_append, joined_one]; exact hex16_ends _
 ·rw [joined_snoc _ _ h0]
  exact ((hex16_ends _).app [58]).app _

def t6 (x : List Nat) (fr tu i : Nat) : List UInt8 :=
 if fr = tu ∨ i ≤ fr then joined (x.take i) else joined (x.take fr) ++ ([58, 58] ++ joined ((x.take i).drop tu))

theorem t6_step (x : List Nat) (fr tu i : Nat) (hi : i < x.length) (hft : fr ≤ tu) (hc : fr = tu ∨ i < fr ∨ tu ≤ i) :
  (t6 x fr tu i = [] ∧ t6 x fr tu (i + 1) = hex16 x[i]) ∨ ((∃ A, t6 x fr tu i = A ++ [58]) ∧ t6 x fr tu (i + 1) = t6 x fr tu i ++ hex16 x[i]) ∨ (EndsWell (t6 x fr tu i) ∧ t6 x fr tu (i + 1) = t6 x fr tu i ++ ([58] ++ hex16 x[i])) := by
 have htk : x.take (i + 1) = x.take i ++ [x[i]] := (List.take_append_getElem hi).symm
 by_cases hA : fr = tu ∨ i < fr
 ·have h1 : t6 x fr tu i = joined (x.take i) := by rw [t6, if_pos (by omega)]
  have h2 : t6 x fr tu (i + 1) = joined (x.take i ++ [x[i]]) := by rw [t6, if_pos (by omega), htk]
  rw [h1, h2]
  by_cases h0 : i = 0
  ·left
   subst h0
   rw [List.take_zero]
   exact ⟨joined_nil, by rw [List.nil_append, joined_one]⟩
  ·right; right
   have hne : x.take i ≠ [] := by
    intro h
    have := congrArg List.length h
    rw [List.length_take, List.length_nil] at this; omega
   exact ⟨joined_ends _ hne, joined_snoc _ _ hne⟩
 ·have hti : tu ≤ i := by omega
  have h1 : t6 x fr tu i = joined (x.take fr) ++ ([58, 58] ++ joined ((x.take i).drop tu)) := by rw [t6, if_neg (by omega)]
  have h2 : t6 x fr tu (i + 1) = joined (x.take fr) ++ ([58, 58] ++ joined ((x.take i).drop tu ++ [x[i]])) := by
   rw [t6, if_neg (by omega), htk, List.drop_append_of_le_length (by simp; omega)]
  rw [h1, h2]
  by_cases h0 : i = tu
  ·right; left
   have hd : (x.take i).drop tu = [] := List.drop_eq_nil_of_le (by simp; omega)
   rw [hd, joined_nil, List.nil_append, joined_one]
   exact ⟨⟨joined (x.take fr) ++ [58], by simp⟩, by simp⟩
  ·right; right
   have hne : (x.take i).drop tu ≠ [] := by
    intro h
    have := congrArg List.length h
    simp at this; omega
   refine ⟨((joined_ends _ hne).app _).app _, ?_⟩
   rw [joined_snoc _ _ hne]; simp

theorem t6_mark (x : List Nat) (fr tu : Nat) (h : fr < tu) (hx : tu ≤ x.length) : t6 x fr tu tu = t6 x fr tu fr ++ [58, 58] := by
 have hd : (x.take tu).drop tu = [] := List.drop_eq_nil_of_le (by simp; omega)
 rw [t6, if_neg (by omega), t6, if_pos (by omega), hd, joined_nil]; simp

theorem t6_end (x : List Nat) (hx : x.length = 8) (hl : (lrun x).1 = (lrun x).2 ∨ (lrun x).1 < (lrun x).2) (h2 : (lrun x).2 ≤ 8) : t6 x (lrun x).1 (lrun x).2 8 = text6 x := by
 have h8 : x.take 8 = x := List.take_of_length_le (by omega)
 unfold text6
 by_cases h : (lrun x).1 = (lrun x).2
 ·rw [if_pos h, t6, if_pos (.inl h), h8]
 ·rw [if_neg h, t6, if_neg (by omega), h8]

theorem t6_le (x : List Nat) (fr tu i : Nat) (hx : x.length = 8) : (t6 x fr tu i).length ≤ 200 := by
 unfold t6
 split
 ·have := joined_le (x.take i)
  have h2 : (x.take i).length ≤ 8 := by simp; omega
  omega
 ·have h1 := joined_le (x.take fr)
  have h3 := joined_le ((x.take i).drop tu)
  have h2 : (x.take fr).length ≤ 8 := by simp; omega
  have h4 : ((x.take i).drop tu).length ≤ 8 := by simp; omega
  simp only [List.length_append, List.length_cons, List.length_nil]
  omega

end Go.Proofs.YtgoefeaopegdoaaGreatDoor

namespace Go.Proofs.YtgoefeaopegdoaaGreatDoor
def noPair : List UInt8 → Bool
 | a :: b :: l => !(a == 58 && b == 58) && noPair (b :: l)
 | _ => true

theorem np_cons (x : UInt8) (l : List UInt8) (h : x ≠ 58) (hl : noPair l = true) : noPair (x :: l) = true := by
 cases l with
 | nil => rfl
 | cons b l => simp [noPair, h, hl]

theorem np_pre : ∀ (h t : List UInt8), 58 ∉ h → noPair t = true → noPair (h ++ t) = true
 | [], _, _, ht => ht
 | x :: h, t, hx, ht => np_cons x (h ++ t) (fun e => hx (by simp [e])) (np_pre h t (fun e => hx (by simp [e])) ht)

theorem np_colon (c : UInt8) (t : List UInt8) (hc : c ≠ 58) (h : noPair (c :: t) = true) : noPair (58 :: c :: t) = true := by
 simp [noPair, hc, h]

theorem np_left : ∀ (a b : List UInt8), noPair (a ++ b) = true → noPair a = true
 | [], _, _ => rfl
 | [_], _, _ => rfl
 | x :: y :: a, b, h => by
  have h' : noPair (x :: y :: (a ++ b)) = true := h
  simp only [noPair, Bool.and_eq_true] at h' ⊢
  exact ⟨h'.1, np_left (y :: a) b h'.2⟩

theorem joined_np : ∀ (x : List Nat), x ≠ [] → noPair (joined x ++ [58]) = true ∧ ∃ c r, joined x = c :: r ∧ c ≠ 58
 | [], h => absurd rfl h
 | [n], _ => by
  rw [joined_one]
  refine ⟨np_pre _ _ (hex16_no58 n) rfl, ?_⟩
  cases he : hex16 n with
  | nil => exact absurd he (hex16_ne n)
  | cons c r => exact ⟨c, r, rfl, fun e => hex16_no58 n (by rw [he, e]; simp)⟩
 | n :: m :: l, _ => by
  obtain ⟨h1, c, r, e, hc⟩ := joined_np (m :: l) (by simp)
  rw [joined_cons]
  constructor
  ·rw [List.append_assoc]
   refine np_pre _ _ (hex16_no58 n) ?_
   rw [List.append_assoc, e]
   rw [e] at h1
   exact np_colon c _ hc h1
  ·cases he : hex16 n with
   | nil => exact absurd he (hex16_ne n)
   | cons c r => exact ⟨c, _, rfl, fun e => hex16_no58 n (by rw [he, e]; simp)⟩

theorem index2_none : ∀ (l : List UInt8), noPair l = true → Lib.index l [58, 58] = -1
 | [], _ => rfl
 | [a], _ => by
  unfold Lib.index
  rw [index2_none [] rfl]
  simp [List.isPrefixOf]
 | a :: b :: l, h => by
  simp only [noPair, Bool.and_eq_true] at h
  unfold Lib.index
  rw [index2_none (b :: l) h.2]
  have : [58, 58].isPrefixOf (a :: b :: l) = false := by
   simp [List.isPrefixOf]
   have := h.1
   simp at this
   intro e e2; rcases this with h | h
   ·exact h e.symm
   ·exact h e2.symm
  rw [this]; rfl

theorem index2_some : ∀ (a r : List UInt8), noPair (a ++ [58]) = true → Lib.index (a ++ 58 :: 58 :: r) [58, 58] = a.length
 | [], r, _ => by unfold Lib.index; simp [List.isPrefixOf]
 | x :: a, r, h => by
  have hx : [58, 58].isPrefixOf (x :: (a ++ 58 :: 58 :: r)) = false := by
   cases a with
   | nil =>
    simp [noPair] at h
    simp [List.isPrefixOf]
    exact fun e => h e.symm
   | cons y a =>
    have h' : noPair (x :: y :: (a ++ [58])) = true := h
    simp only [noPair, Bool.and_eq_true] at h'
    have := h'.1
    simp at this
    simp [List.isPrefixOf]
    intro e e2; rcases this with h | h
    ·exact h e.symm
    ·exact h e2.symm
  have h2 : noPair (a ++ [58]) = true := by
   cases a with
   | nil => rfl
   | cons y a =>
    have h' : noPair (x :: y :: (a ++ [58])) = true := h
    simp only [noPair, Bool.and_eq_true] at h'
    exact h'.2
  rw [List.cons_append]
  unfold Lib.index
  rw [index2_some a r h2, hx]
  have h1 : ((a.length : Int) == -1) = false := by rw [beq_eq_false_iff_ne]; omega
  simp [h1]

theorem cut2_none (l : List UInt8) (h : noPair l = true) : Lib.cut l [58, 58] = (l, [], false) := by
 unfold Lib.cut
 rw [index2_none l h]; rfl

theorem cut2_some (a r : List UInt8) (h : noPair (a ++ [58]) = true) : Lib.cut (a ++ ([58, 58] ++ r)) [58, 58] = (a, r, true) := by
 unfold Lib.cut
 rw [show a ++ ([58, 58] ++ r) = a ++ 58 :: 58 :: r from rfl, index2_some a r h]
 simp



def fold16 (n : Nat) (l : List UInt8) : Nat := l.foldl (fun a c => a * 16 + dig16 c) n

theorem fold_digs : ∀ (f u : Nat) (T : List UInt8), u < 16 ^ f → f ≠ 0 → fold16 0 (digsN 16 f u T) = fold16 u T
 | 0, _, _, _, h => absurd rfl h
 | f + 1, u, T, hu, _ => by
  by_cases hn : u < 16
  ·rw [digsN_last _ _ _ _ hn]
   show fold16 (0 * 16 + dig16 (digC u)) T = _
   rw [dig16_digC u hn, Nat.zero_mul, Nat.zero_add]
  ·rw [digsN_more _ _ _ _ hn]
   have h1 : u / 16 < 16 ^ f := by rw [Nat.div_lt_iff_lt_mul (by omega)]; rw [Nat.pow_succ] at hu; exact hu
   have hf : f ≠ 0 := by rintro rfl; simp at h1; omega
   rw [fold_digs f (u / 16) _ h1 hf]
   show fold16 (u / 16 * 16 + dig16 (digC (u % 16))) T = _
   rw [dig16_digC _ (Nat.mod_lt _ (by omega)), show u / 16 * 16 + u % 16 = u by omega]

theorem digsN_len (base : Nat) : ∀ (f n : Nat) (T : List UInt8), (digsN base f n T).length ≤ f + T.length
 | 0, _, T => by simp [digsN]
 | f + 1, n, T => by
  by_cases h : n < base
  ·rw [digsN_last _ _ _ _ h]; simp; omega
  ·rw [digsN_more _ _ _ _ h]
   have := digsN_len base f (n / base) (digC (n % base) :: T)
   simp at this
   omega

def hexC (c : UInt8) : Bool := decide (dig16 c < 16) && c != 46

theorem scan_hex (whole : Option Nat) (last : Bool) : ∀ (l : List UInt8) (i n : Nat), l.all hexC = true → i + l.length ≤ 4 → (i ≠ 0 ∨ l ≠ []) → scanP whole last i n l = some [fold16 n l]
 | [], i, n, _, _, h => by
  have h0 : i ≠ 0 := h.resolve_right (by simp)
  rw [scanP, if_neg h0]; rfl
 | c :: l, i, n, hall, hl, _ => by
  simp only [List.all_cons, Bool.and_eq_true, hexC, decide_eq_true_eq, bne_iff_ne, ne_eq] at hall
  simp only [List.length_cons] at hl
  rw [scanP, if_neg (fun h => hall.1.2 h.1), if_pos ⟨hall.1.1, by omega⟩]
  rw [scan_hex whole last l (i + 1) _ (by simpa [hexC] using hall.2) (by omega) (.inl (by omega))]
  rfl

theorem hex16_all (n : Nat) : (hex16 n).all hexC = true := digsN_all hexC 16 (by omega) (by decide) 4 n [] rfl

theorem piece_hex (last : Bool) (n : Nat) (h : n < 65536) : pieceV last (hex16 n) = some [n] := by
 have hlen : (hex16 n).length ≤ 4 := digsN_len 16 4 n []
 unfold pieceV
 rw [scan_hex _ last _ 0 0 (hex16_all n) (by omega) (.inr (hex16_ne n))]
 have : fold16 0 (hex16 n) = n := by
  have := fold_digs 4 n [] (by omega) (by omega)
  simpa [hex16, fold16] using this
 rw [this]

theorem pieces_joined (atEnd : Bool) : ∀ (y : List Nat) (f : Nat) (out : List Nat), y ≠ [] → y.length ≤ f → (∀ n ∈ y, n < 65536) → piecesN atEnd f out (joined y) true = some (out ++ y)
 | [], _, _, h, _, _ => absurd rfl h
 | [n], f + 1, out, _, _, h16 => by
  have hc : Lib.cut (joined [n]) [58] = (hex16 n, [], false) := by rw [joined_one]; exact cut_none _ _ (hex16_no58 n)
  rw [piecesN, hc]
  simp only [piece_hex _ n (h16 n (by simp))]
  rw [piecesN]
 | n :: m :: y, f + 1, out, _, hl, h16 => by
  have hc : Lib.cut (joined (n :: m :: y)) [58] = (hex16 n, joined (m :: y), true) := by rw [joined_cons]; exact cut_some _ _ _ (hex16_no58 n)
  rw [piecesN, hc]
  simp only [piece_hex _ n (h16 n (by simp))]
  rw [pieces_joined atEnd (m :: y) f (out ++ [n]) (by simp) (by simpa using hl) (fun k hk => h16 k (by simp [hk]))]
  simp
 | _ :: _, 0, _, _, hl, _ => by simp at hl

theorem joined_empty (y : List Nat) : joined y = [] ↔ y = [] := by
 constructor
 ·intro h
  cases y with
  | nil => rfl
  | cons n y =>
   obtain ⟨_, c, r, e, _⟩ := joined_np (n :: y) (by simp)
   rw [e] at h; simp at h
 ·rintro rfl; exact joined_nil

theorem pieces_of (atEnd : Bool) (y : List Nat) (hl : y.length ≤ 8) (h16 : ∀ n ∈ y, n < 65536) : piecesV (joined y) atEnd = some y := by
 unfold piecesV
 by_cases h : y = []
 ·subst h
  rw [joined_nil]; rfl
 ·have hj : joined y ≠ [] := fun e => h ((joined_empty y).1 e)
  rw [decide_eq_true hj, pieces_joined atEnd y 8 [] h hl h16]; rfl



theorem zeros_get : ∀ (l : List Nat) (j : Nat), j < zeros l → l[j]? = some 0
 | [], j, h => by simp [zeros] at h
 | a :: l, j, h => by
  rw [zeros] at h
  split at h
  ·rename_i ha
   cases j with
   | zero => simp [ha]
   | succ j => simpa using zeros_get l j (by omega)
  ·omega

theorem lrunN_zero (x : List Nat) : ∀ (l : List Nat) (i fr tu : Nat), l = x.drop i → (∀ j, fr ≤ j → j < tu → x[j]? = some 0) → ∀ j, (lrunN 0 i fr tu l).1 ≤ j → j < (lrunN 0 i fr tu l).2 → x[j]? = some 0
 | [], i, fr, tu, _, h => h
 | n :: l, i, fr, tu, hd, h => by
  have hd' : l = x.drop (i + 1) := by
   rw [← List.drop_drop, ← hd]; rfl
  rw [lrunN]
  split
  ·refine lrunN_zero x l (i + 1) i (i + zeros (n :: l)) hd' (fun j h1 h2 => ?_)
   have := zeros_get (n :: l) (j - i) (by omega)
   rw [hd, List.getElem?_drop, show i + (j - i) = j by omega] at this
   exact this
  ·exact lrunN_zero x l (i + 1) fr tu hd' h

theorem run_fill (x : List Nat) (h8 : x.length = 8) (hft : (lrun x).1 < (lrun x).2) (ht : (lrun x).2 ≤ 8) : x.take (lrun x).1 ++ List.replicate (8 - (lrun x).1 - (8 - (lrun x).2)) 0 ++ x.drop (lrun x).2 = x := by
 have hz := lrunN_zero x x 0 0 0 rfl (fun j _ h => absurd h (by omega))
 have hz' : ∀ j, (lrun x).1 ≤ j → j < (lrun x).2 → x[j]? = some 0 := hz
 generalize (lrun x).1 = fr at *
 generalize (lrun x).2 = tu at *
 refine List.ext_getElem? fun j => ?_
 by_cases h1 : j < fr
 ·rw [List.append_assoc, List.getElem?_append_left (by simp; omega), List.getElem?_take_of_lt h1]
 ·by_cases h2 : j < tu
  ·rw [List.getElem?_append_left (by simp; omega), List.getElem?_append_right (by simp; omega), List.getElem?_replicate, if_pos (by simp; omega), hz' j (by omega) h2]
  ·rw [List.getElem?_append_right (by simp; omega), List.getElem?_drop]
   congr 1
   simp
   omega

theorem six_text6 (x : List Nat) (h8 : x.length = 8) (h16 : ∀ n ∈ x, n < 65536) : sixV (text6 x) = some x := by
 obtain ⟨hl1, hl2⟩ := lrun_le x
 rw [h8] at hl2
 by_cases h : (lrun x).1 = (lrun x).2
 ·rw [text6_same h]
  have hnp : noPair (joined x) = true := np_left _ _ (joined_np x (by rintro rfl; simp at h8)).1
  unfold sixV
  rw [cut2_none _ hnp]
  have hp := pieces_of true x (by omega) h16
  have hn : piecesV [] true = some [] := rfl
  simp only [Bool.not_false, hp, hn]
  simp [h8]
 ·rw [text6_run h]
  have hnp : noPair (joined (x.take (lrun x).1) ++ [58]) = true := by
   by_cases h0 : x.take (lrun x).1 = []
   ·rw [h0, joined_nil]; rfl
   ·exact (joined_np _ h0).1
  unfold sixV
  rw [cut2_some _ _ hnp]
  have hp1 := pieces_of false (x.take (lrun x).1) (by simp; omega) (fun n hn => h16 n (List.mem_of_mem_take hn))
  have hp2 := pieces_of true (x.drop (lrun x).2) (by simp; omega) (fun n hn => h16 n (List.mem_of_mem_drop hn))
  have e1 : (x.take (lrun x).1).length = (lrun x).1 := by simp; omega
  have e2 : (x.drop (lrun x).2).length = 8 - (lrun x).2 := by simp; omega
  simp only [Bool.not_true, hp1, hp2, e1, e2]
  rw [if_pos ⟨by omega, by simp; omega⟩, run_fill x h8 (by omega) hl2]

end Go.Proofs.YtgoefeaopegdoaaGreatDoor

namespace Go.Proofs.YtgoefeaopegdoaaGreatDoor
def cutL (c : UInt8) : List UInt8 → List (List UInt8)
 | [] => [[]]
 | x :: l => if x = c then [] :: cutL c l else match cutL c l with
  | [] => [[x]]
  | h :: t => (x :: h) :: t

theorem cutL_ne (c : UInt8) (l : List UInt8) : cutL c l ≠ [] := by
 cases l with
 | nil => simp [cutL]
 | cons x l =>
  rw [cutL]
  split
  ·simp
  ·split <;> simp

theorem cutL_none (c : UInt8) : ∀ l : List UInt8, c ∉ l → cutL c l = [l]
 | [], _ => rfl
 | x :: l, h => by
  rw [cutL, if_neg (fun e => h (by simp [e])), cutL_none c l (fun e => h (by simp [e]))]

theorem cutL_some (c : UInt8) : ∀ (a r : List UInt8), c ∉ a → cutL c (a ++ c :: r) = a :: cutL c r
 | [], r, _ => by rw [List.nil_append, cutL, if_pos rfl]
 | x :: a, r, h => by
  rw [List.cons_append, cutL, if_neg (fun e => h (by simp [e])), cutL_some c a r (fun e => h (by simp [e]))]

theorem first_split (c : UInt8) : ∀ l : List UInt8, c ∉ l ∨ ∃ a r, c ∉ a ∧ l = a ++ c :: r
 | [] => .inl (by simp)
 | x :: l => by
  by_cases hx : x = c
  ·exact .inr ⟨[], l, by simp, by simp [hx]⟩
  ·rcases first_split c l with h | ⟨a, r, ha, rfl⟩
   ·exact .inl (by simp [h]; exact fun e => hx e.symm)
   ·exact .inr ⟨x :: a, r, by simp [ha]; exact fun e => hx e.symm, rfl⟩

theorem cutL_ind (c : UInt8) {P : List UInt8 → Prop} (h1 : ∀ l, c ∉ l → P l) (h2 : ∀ a r, c ∉ a → P r → P (a ++ c :: r)) : ∀ l, P l := by
 intro l
 generalize hn : l.length = n
 induction n using Nat.strongRecOn generalizing l with
 | _ n ih =>
  rcases first_split c l with h | ⟨a, r, ha, rfl⟩
  ·exact h1 l h
  ·exact h2 a r ha (ih r.length (by rw [← hn]; simp; omega) r rfl)

theorem cutL_snoc (c : UInt8) : ∀ l : List UInt8, cutL c (l ++ [c]) = cutL c l ++ [[]] :=
 cutL_ind c (fun l h => by rw [cutL_some c l [] h, cutL_none c l h]; rfl)
  (fun a r h ih => by rw [List.append_assoc, List.cons_append, cutL_some c a _ h, ih, cutL_some c a r h]; rfl)

theorem takeWhile_stop {α : Type} (p : α → Bool) (y : α) (hy : p y = false) : ∀ (xs ys : List α), (xs ++ y :: ys).takeWhile p = xs.takeWhile p
 | [], ys => by simp [List.takeWhile, hy]
 | x :: xs, ys => by
  simp only [List.cons_append, List.takeWhile]
  split
  ·rw [takeWhile_stop p y hy xs ys]
  ·rfl

theorem lastLab_app (a r : List UInt8) : lastLab (a ++ 46 :: r) = lastLab r := by
 unfold lastLab
 rw [List.reverse_append, List.reverse_cons, List.append_assoc, List.singleton_append, takeWhile_stop _ 46 (by decide)]

theorem cutL_last : ∀ l : List UInt8, (cutL 46 l).getLast? = some (lastLab l) :=
 cutL_ind 46 (fun l h => by rw [cutL_none 46 l h, lastLab_none l (fun c hc e => h (e ▸ hc))]; rfl)
  (fun a r h ih => by
   rw [cutL_some 46 a r h, lastLab_app, List.getLast?_cons, ih]; rfl)

theorem lastLab_nil : ∀ l : List UInt8, lastLab l = [] → l = [] ∨ ∃ t, l = t ++ [46] := by
 intro l h
 rcases List.eq_nil_or_concat l with rfl | ⟨t, c, rfl⟩
 ·exact .inl rfl
 ·right
  refine ⟨t, ?_⟩
  by_cases hc : c = 46
  ·rw [hc]; simp
  ·exfalso
   unfold lastLab at h
   simp [hc] at h

def labL (l : List UInt8) : List (List UInt8) := if 1 < (cutL 46 l).length ∧ (cutL 46 l).getLast? = some [] then (cutL 46 l).dropLast else cutL 46 l

theorem labL_eq (l : List UInt8) : labL l = cutL 46 (noDot l) := by
 unfold labL
 by_cases h : ∃ t, l = t ++ [46]
 ·obtain ⟨t, rfl⟩ := h
  rw [noDot_dot, cutL_snoc]
  rw [if_pos]
  ·simp
  ·refine ⟨?_, by simp⟩
   have := cutL_ne 46 t
   have : 0 < (cutL 46 t).length := List.length_pos_iff.2 this
   simp; omega
 ·rw [noDot_of l (fun t e => h ⟨t, e⟩), if_neg]
  rintro ⟨h1, h2⟩
  rw [cutL_last] at h2
  rcases lastLab_nil l (Option.some.inj h2) with rfl | h3
  ·simp [cutL] at h1
  ·exact h h3



def valC (cap base : Nat) : Nat → List UInt8 → Option Nat
 | n, [] => some n
 | n, c :: l => if dig16 c < base then valC cap base (min (n * base + dig16 c) cap) l else none

theorem valN_isSome (base : Nat) : ∀ (l : List UInt8) (n : Nat), (valN base n l).isSome = l.all fun c => decide (dig16 c < base)
 | [], n => rfl
 | c :: l, n => by
  rw [valN]
  by_cases h : dig16 c < base
  ·rw [if_pos h, valN_isSome base l]; simp [h]
  ·rw [if_neg h]; simp [h]

theorem valC_le (cap base : Nat) : ∀ (l : List UInt8) (n m : Nat), n ≤ cap → valC cap base n l = some m → m ≤ cap
 | [], n, m, h, e => by rw [valC] at e; injection e with e; omega
 | c :: l, n, m, h, e => by
  rw [valC] at e
  split at e
  ·exact valC_le cap base l _ m (by omega) e
  ·cases e

theorem valC_N (cap base : Nat) (hb : 1 ≤ base) (hc : 4294967296 ≤ cap) : ∀ (l : List UInt8) (n m : Nat), n = min m 4294967296 → valN base n l = (valC cap base m l).map fun k => min k 4294967296
 | [], n, m, h => by rw [valN, valC, h]; rfl
 | c :: l, n, m, h => by
  rw [valN, valC]
  by_cases hd : dig16 c < base
  ·rw [if_pos hd, if_pos hd]
   refine valC_N cap base hb hc l _ _ ?_
   by_cases hm : m < 4294967296
   ·have : n = m := by omega
    subst this
    omega
   ·have e : n = 4294967296 := by omega
    subst e
    have h1 : 4294967296 * 1 ≤ 4294967296 * base := Nat.mul_le_mul_left _ hb
    have h2 : 4294967296 * base ≤ m * base := Nat.mul_le_mul_right _ (by omega)
    omega
  ·rw [if_neg hd, if_neg hd]; rfl

def lid : Nat := 1099511627776

def rnumV (x : List UInt8) : Option Nat :=
 if marked x then valC lid 16 0 (x.drop 2)
 else if 1 < x.length ∧ x.head? = some 48 then valC lid 8 0 (x.drop 1)
 else if x = [] then none else valC lid 10 0 x

theorem rnumV_eq (x : List UInt8) : numV x = (rnumV x).map fun k => min k 4294967296 := by
 unfold numV rnumV
 by_cases hm : marked x = true
 ·rw [if_pos hm, if_pos hm]
  exact valC_N lid 16 (by omega) (by decide) _ 0 0 rfl
 ·rw [if_neg hm, if_neg hm]
  match x with
  | [] => simp
  | [c] =>
   rw [if_neg (by simp)]
   simp only [List.cons_ne_nil, if_false]
   by_cases hc : c = 48
   ·subst hc
    rw [if_pos rfl]
    rfl
   ·rw [if_neg hc]
    exact valC_N lid 10 (by omega) (by decide) _ 0 0 rfl
  | c :: d :: r =>
   simp only
   by_cases hc : c = 48
   ·subst hc
    rw [if_pos rfl, if_pos ⟨by simp, rfl⟩]
    exact valC_N lid 8 (by omega) (by decide) _ 0 0 rfl
   ·rw [if_neg hc, if_neg (by simp [hc])]
    simp only [reduceCtorEq, if_false]
    exact valC_N lid 10 (by omega) (by decide) _ 0 0 rfl

theorem rnumV_le (x : List UInt8) (n : Nat) (h : rnumV x = some n) : n ≤ lid := by
 unfold rnumV at h
 split at h
 ·exact valC_le _ _ _ _ _ (by decide) h
 ·split at h
  ·exact valC_le _ _ _ _ _ (by decide) h
  ·split at h
   ·cases h
   ·exact valC_le _ _ _ _ _ (by decide) h



def rnumbered (x : List UInt8) : Bool := (decide (x ≠ []) && x.all fun c => decide (dig16 c < 10)) || (marked x && (x.drop 2).all fun c => decide (dig16 c < 16))

theorem marked_form (x : List UInt8) (h : marked x = true) : ∃ c r, x = 48 :: c :: r ∧ dig16 c = 16 := by
 unfold marked Lib.hasPrefix at h
 rw [Bool.or_eq_true, List.isPrefixOf_iff_prefix, List.isPrefixOf_iff_prefix] at h
 rcases h with ⟨t, rfl⟩ | ⟨t, rfl⟩
 ·exact ⟨120, t, rfl, by decide⟩
 ·exact ⟨88, t, rfl, by decide⟩

theorem rnumbered_eq (l : List UInt8) : numberedV l = rnumbered (lastLab (noDot l)) := by
 unfold numberedV rnumbered
 generalize lastLab (noDot l) = x
 unfold valV
 rw [valN_isSome, valN_isSome]
 cases hm : marked x with
 | true =>
  obtain ⟨c, r, rfl, hc⟩ := marked_form x hm
  simp [hc]
 | false => simp



def fourL : Nat → Nat → List (List UInt8) → Option Nat
 | 0, _, _ => none
 | _ + 1, _, [] => none
 | r + 1, h, [x] => match numV x with
  | none => none
  | some n => if n < 2 ^ (8 * (r + 1)) then some (h * 2 ^ (8 * (r + 1)) + n) else none
 | r + 1, h, x :: y :: L => match numV x with
  | none => none
  | some n => if 255 < n then none else fourL r (h * 256 + n) (y :: L)

theorem fourN_L : ∀ (r h : Nat) (l : List UInt8), fourN r h l = fourL r h (cutL 46 l)
 | 0, h, l => by cases cutL 46 l <;> rfl
 | r + 1, h, l => by
  rcases first_split 46 l with h1 | ⟨a, t, ha, rfl⟩
  ·rw [fourN, cut_none l 46 h1, cutL_none 46 l h1, fourL]
   cases numV l <;> rfl
  ·rw [fourN, cut_some a t 46 ha, cutL_some 46 a t ha]
   obtain ⟨y, L, hy⟩ : ∃ y L, cutL 46 t = y :: L := by
    cases e : cutL 46 t with
    | nil => exact absurd e (cutL_ne 46 t)
    | cons y L => exact ⟨y, L, rfl⟩
   rw [hy, fourL]
   cases numV a with
   | none => rfl
   | some n => simp only [if_true]; rw [fourN_L r (h * 256 + n) t, hy]

theorem fourV_L (l : List UInt8) : fourV l = fourL 4 0 (labL l) := by
 rw [labL_eq, ← fourN_L]; rfl

theorem fourL_many : ∀ (r h : Nat) (L : List (List UInt8)), r < L.length → fourL r h L = none
 | 0, h, L, _ => by cases L <;> rfl
 | r + 1, h, [], hl => by simp at hl
 | r + 1, h, [x], hl => by simp at hl
 | r + 1, h, x :: y :: L, hl => by
  rw [fourL]
  cases numV x with
  | none => rfl
  | some n =>
   simp only
   rw [fourL_many r _ (y :: L) (by simpa using hl)]
   simp

theorem fourL_bad : ∀ (r h : Nat) (L : List (List UInt8)) (x : List UInt8), x ∈ L → numV x = none → fourL r h L = none
 | 0, h, L, x, _, _ => by cases L <;> rfl
 | r + 1, h, [], x, hx, _ => by simp at hx
 | r + 1, h, [y], x, hx, hn => by
  simp at hx; subst hx
  rw [fourL, hn]
 | r + 1, h, y :: z :: L, x, hx, hn => by
  rw [fourL]
  cases hy : numV y with
  | none => rfl
  | some n =>
   simp only
   have hx' : x ∈ z :: L := by
    rcases List.mem_cons.1 hx with rfl | h
    ·rw [hn] at hy; cases hy
    ·exact h
   rw [fourL_bad r _ (z :: L) x hx' hn]
   simp

end Go.Proofs.YtgoefeaopegdoaaGreatDoor

namespace Go.Proofs.YtgoefeaopegdoaaGreatDoor
def ten (n d : Int) : Int := if (9223372036854775807 - d) / 10 < n then 9223372036854775807 else n * 10 + d

def numI (l : List UInt8) : Int := l.foldl (fun n c => ten n ((c.toNat : Int) - 48)) 0

def digP (c : UInt8) : Bool := digitI c.toNat

def intV (l : List UInt8) : Int := if l.all digP && !l.isEmpty then numI l else 0

def intOk (l : List UInt8) : Bool := l.all digP && !l.isEmpty

theorem numI_snoc (l : List UInt8) (c : UInt8) : numI (l ++ [c]) = ten (numI l) ((c.toNat : Int) - 48) := by simp [numI]

theorem ten_range (n d : Int) (h : 0 ≤ n ∧ n ≤ 9223372036854775807) (hd : 0 ≤ d ∧ d ≤ 9) : 0 ≤ ten n d ∧ ten n d ≤ 9223372036854775807 := by
 unfold ten; split <;> omega

theorem numI_range (l : List UInt8) (h : l.all digP = true) : 0 ≤ numI l ∧ numI l ≤ 9223372036854775807 := by
 suffices H : ∀ (l : List UInt8) (n : Int), 0 ≤ n ∧ n ≤ 9223372036854775807 → l.all digP = true → 0 ≤ l.foldl (fun n c => ten n ((c.toNat : Int) - 48)) n ∧ l.foldl (fun n c => ten n ((c.toNat : Int) - 48)) n ≤ 9223372036854775807 from H l 0 (by omega) h
 intro l
 induction l with
 | nil => intro n h _; exact h
 | cons c l ih =>
  intro n hn hall
  simp only [List.all_cons, Bool.and_eq_true] at hall
  refine ih _ (ten_range n _ hn ?_) hall.2
  have := hall.1
  simp [digP, digitI] at this
  omega

end Go.Proofs.YtgoefeaopegdoaaGreatDoor

namespace Go.Proofs.YtgoefeaopegdoaaGreatDoor
structure Adr where
 scheme : List UInt8
 user : List UInt8
 pass : List UInt8
 host : List UInt8
 hasHost : Bool
 port : Int
 opq : Bool
 path : List (List UInt8)
 query : List UInt8
 fragment : List UInt8
 hasQuery : Bool
 hasFragment : Bool

def Adr.zero : Adr := ⟨[], [], [], [], false, 0, false, [], [], [], false, false⟩

def sHttp : List UInt8 := [104, 116, 116, 112]

def sHttps : List UInt8 := [104, 116, 116, 112, 115]

def sWs : List UInt8 := [119, 115]

def sWss : List UInt8 := [119, 115, 115]

def sFtp : List UInt8 := [102, 116, 112]

def ownV (s : List UInt8) : Int := if s = sHttp ∨ s = sWs then 80 else if s = sHttps ∨ s = sWss then 443 else if s = sFtp then 21 else -1

def specV (s : List UInt8) : Bool := decide (0 ≤ ownV s)

def part (c : UInt8) : List UInt8 → List UInt8 × List UInt8 × Bool
 | [] => ([], [], false)
 | x :: l => if x = c then ([], l, true) else (x :: (part c l).1, (part c l).2.1, (part c l).2.2)

def aheadV (ends : List UInt8) (l : List UInt8) : List UInt8 × List UInt8 := (l.takeWhile (fun c => !ends.contains c), l.dropWhile (fun c => !ends.contains c))

def wsC (c : UInt8) : Bool := decide (c.toNat ≤ 32)

def eyeC (c : UInt8) : Bool := c == 9 || (c == 10 || c == 13)

def trimV (l : List UInt8) : List UInt8 := ((l.dropWhile wsC).reverse.dropWhile wsC).reverse

def cleanV (l : List UInt8) : List UInt8 := (trimV l).filter (fun c => !eyeC c)

def schC (c : UInt8) : Bool := letterI c.toNat || (digitI c.toNat || (c == 43 || (c == 45 || c == 46)))

def schOk (l : List UInt8) : Bool := (match l with | [] => false | c :: _ => letterI c.toNat) && l.all schC

def schemeV (l : List UInt8) : Option (List UInt8 × List UInt8) := if (part 58 l).2.2 && schOk (part 58 l).1 then some (low (part 58 l).1, (part 58 l).2.1) else none

def slC (c : UInt8) : UInt8 := if c = 92 then 47 else c

def slashV (l : List UInt8) : List UInt8 := (aheadV [63] l).1.map slC ++ (aheadV [63] l).2

def slashedV (scheme l : List UInt8) : List UInt8 := if specV scheme then slashV l else l

def atV (l : List UInt8) : List UInt8 × List UInt8 := if l.contains 64 then (((l.reverse.dropWhile (· != 64)).drop 1).reverse, (l.reverse.takeWhile (· != 64)).reverse) else ([], l)

def colN : Bool → Nat → Nat → List UInt8 → Nat
 | _, _, k, [] => k
 | false, i, k, c :: l => if c = 58 then colN false (i + 1) i l else if c = 91 then colN true (i + 1) k l else colN false (i + 1) k l
 | true, i, k, c :: l => if c = 93 then colN false (i + 1) k l else colN true (i + 1) k l

def colV (l : List UInt8) : Nat := colN false 0 l.length l

def portV (own : Int) (t : List UInt8) : Option Int :=
 if t = [] then some (-1) else if intOk t && decide (intV t ≤ 65535) then some (if intV t = own then -1 else intV t) else none

def authV (scheme s : List UInt8) : Except Int (List UInt8 × List UInt8 × List UInt8 × Int) :=
 match portV (ownV scheme) (((atV s).2.drop (colV (atV s).2)).drop 1) with
 | none => .error 11
 | some p =>
  match parseV ((atV s).2.take (colV (atV s).2)) (specV scheme) with
  | none => .error 10
  | some h =>
   if h = [] ∧ (pct 6 (part 58 (atV s).1).1 ≠ [] ∨ pct 6 (part 58 (atV s).1).2.1 ≠ [] ∨ ((atV s).2.drop (colV (atV s).2)).drop 1 ≠ []) then .error 10
   else .ok (pct 6 (part 58 (atV s).1).1, pct 6 (part 58 (atV s).1).2.1, h, p)

def dotsV (p : List UInt8) : Nat := if unpct p = [46] then 1 else if unpct p = [46, 46] then 2 else 0

def pathL : List (List UInt8) → List (List UInt8) → List (List UInt8)
 | out, [] => out
 | out, [p] => if dotsV p = 2 then out.dropLast ++ [[]] else if dotsV p = 1 then out ++ [[]] else out ++ [pct 5 p]
 | out, p :: q :: r => if dotsV p = 2 then pathL out.dropLast (q :: r) else if dotsV p = 1 then pathL out (q :: r) else pathL (out ++ [pct 5 p]) (q :: r)

def over1 (l : List UInt8) : List UInt8 := match l with | [] => [] | c :: r => if c = 47 then r else l

def pathV (special : Bool) (have_ : List (List UInt8)) (s : List UInt8) : List (List UInt8) := if s = [] ∧ special = false then [] else pathL have_ (cutL 47 (over1 s))

def querV (special : Bool) (q : List UInt8) : List UInt8 := pct (if special then 4 else 3) q

def withQuery (u : Adr) (q : List UInt8) : Adr := if q = [] then u else { u with query := querV (specV u.scheme) (q.drop 1), hasQuery := true }

def withPath (u : Adr) (have_ : List (List UInt8)) (r : List UInt8) : Adr := withQuery { u with path := pathV (specV u.scheme) have_ (aheadV [63] r).1 } (aheadV [63] r).2

def withAuth (u : Adr) (r : List UInt8) : Except Int Adr :=
 match authV u.scheme (aheadV [47, 63] r).1 with
 | .error e => .error e
 | .ok (a, b, h, p) => .ok (withPath { u with user := a, pass := b, host := h, hasHost := true, port := p } [] (aheadV [47, 63] r).2)

def skip47 (l : List UInt8) : List UInt8 := l.dropWhile (· == 47)

def startV (u : Adr) (rest : List UInt8) : Except Int Adr :=
 if specV u.scheme then withAuth u (skip47 (slashV rest))
 else if Lib.hasPrefix rest [47, 47] then withAuth u (rest.drop 2)
 else if Lib.hasPrefix rest [47] then .ok (withPath u [] rest)
 else .ok (withQuery { u with opq := true, path := [pct 1 (aheadV [63] rest).1] } (aheadV [63] rest).2)

def beginU (s : List UInt8) : Adr × List UInt8 :=
 let t := part 35 (cleanV s)
 let m := (schemeV t.1).getD ([], t.1)
 (⟨m.1, [], [], [], false, -1, false, [], [], pct 2 t.2.1, false, t.2.2⟩, m.2)

def joinV (u : Adr) (rest : List UInt8) (b : Adr) : Except Int Adr :=
 let v : Adr := { u with scheme := b.scheme }
 let r := slashedV b.scheme rest
 if Lib.hasPrefix r [47, 47] then startV v r
 else
  let x : Adr := { v with user := b.user, pass := b.pass, host := b.host, hasHost := b.hasHost, port := b.port }
  if Lib.hasPrefix r [47] then .ok (withPath x [] r)
  else if r ≠ [] ∧ r.head? ≠ some 63 then .ok (withPath x b.path.dropLast r)
  else .ok (withQuery { x with opq := b.opq, path := b.path, query := b.query, hasQuery := b.hasQuery } r)

def readV (s : List UInt8) (base : Option Adr) : Except Int Adr :=
 if 4096 < s.length then .error 3
 else
  match base with
  | none => if (beginU s).1.scheme = [] then .error 12 else startV (beginU s).1 (beginU s).2
  | some b =>
   if (beginU s).1.scheme ≠ [] ∧ (specV (beginU s).1.scheme = false ∨ (beginU s).1.scheme ≠ b.scheme) then startV (beginU s).1 (beginU s).2
   else if b.opq = true ∧ (beginU s).2 ≠ [] then .error 12
   else joinV (beginU s).1 (beginU s).2 b

def deciN : Nat → Nat → List UInt8 → List UInt8
 | 0, _, acc => acc
 | f + 1, n, acc => if n < 10 then UInt8.ofNat (48 + n) :: acc else deciN f (n / 10) (UInt8.ofNat (48 + n % 10) :: acc)

def portT (p : Int) : List UInt8 := deciN 6 p.toNat []

def authT (u : Adr) : List UInt8 :=
 if u.hasHost then [47, 47] ++ u.user ++ (if u.pass = [] then [] else 58 :: u.pass) ++ (if u.user = [] ∧ u.pass = [] then [] else [64]) ++ u.host ++ (if u.port = -1 then [] else 58 :: portT u.port) else []

def pathT (u : Adr) : List UInt8 :=
 if u.opq then u.path.flatten
 else (if u.hasHost = false ∧ 1 < u.path.length ∧ u.path.head? = some [] then [47, 46] else []) ++ u.path.flatMap (fun p => 47 :: p)

def bareV (u : Adr) : List UInt8 := u.scheme ++ 58 :: (authT u ++ (pathT u ++ (if u.hasQuery then 63 :: u.query else [])))

def textV (u : Adr) : List UInt8 := bareV u ++ (if u.hasFragment then 35 :: u.fragment else [])

def adrOf : Except Int Adr → Adr
 | .ok u => u
 | .error _ => Adr.zero

def numOf : Except Int Adr → Int
 | .ok _ => 0
 | .error e => e

end Go.Proofs.YtgoefeaopegdoaaGreatDoor

namespace Go.Proofs.YtgoefeaopegdoaaGreatDoor
structure Org where
 scheme : List UInt8
 host : List UInt8
 port : Int
 opq : Bool
deriving DecidableEq

def Org.none : Org := ⟨[], [], 0, true⟩

def sBlob : List UInt8 := [98, 108, 111, 98]

def innV (u : Adr) : Adr := if u.scheme = sBlob ∧ u.opq = true then adrOf (readV u.path.flatten none) else Adr.zero

def webV (s : List UInt8) : Bool := s == sHttp || s == sHttps

def orgA (u : Adr) : Adr := if webV (innV u).scheme then innV u else u

def hasP (u : Adr) : Int := if u.port = -1 then ownV u.scheme else u.port

def orgV (u : Adr) : Org := if specV (orgA u).scheme then ⟨(orgA u).scheme, (orgA u).host, hasP (orgA u), false⟩ else Org.none

def sameO (a b : Org) : Bool := !a.opq && decide (a = b)

end Go.Proofs.YtgoefeaopegdoaaGreatDoor
