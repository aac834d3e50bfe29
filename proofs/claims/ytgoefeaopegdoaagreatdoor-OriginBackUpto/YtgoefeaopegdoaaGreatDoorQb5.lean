/-
  Walks and plain facts that this claim leans on, put together out of 6 texts: Rc, Pn, Eba, Ebr, Ebs, Eza.
-/
import Derived.Test.YtgoefeaopegdoaaGreatDoorProg
import Derived.Test.YtgoefeaopegdoaaGreatDoorQa1
import Derived.Test.YtgoefeaopegdoaaGreatDoorQa2
import Derived.Test.YtgoefeaopegdoaaGreatDoorQa3
import Derived.Test.YtgoefeaopegdoaaGreatDoorQa4
import Derived.Test.YtgoefeaopegdoaaGreatDoorQa5
import Derived.Test.YtgoefeaopegdoaaGreatDoorQa6
import Derived.Test.YtgoefeaopegdoaaGreatDoorQa7
import Derived.Test.YtgoefeaopegdoaaGreatDoorQa8
import Derived.Test.YtgoefeaopegdoaaGreatDoorQa9
import Derived.Test.YtgoefeaopegdoaaGreatDoorQa10
import Derived.Test.YtgoefeaopegdoaaGreatDoorQa11
import Derived.Test.YtgoefeaopegdoaaGreatDoorQa12
import Derived.Test.YtgoefeaopegdoaaGreatDoorQa13
import Derived.Test.YtgoefeaopegdoaaGreatDoorQa14
import Derived.Test.YtgoefeaopegdoaaGreatDoorQa15
import Derived.Test.YtgoefeaopegdoaaGreatDoorQa16
import Derived.Test.YtgoefeaopegdoaaGreatDoorQa17
import Derived.Test.YtgoefeaopegdoaaGreatDoorQa18
import Derived.Test.YtgoefeaopegdoaaGreatDoorQa19
import Derived.Test.YtgoefeaopegdoaaGreatDoorQa20
import Derived.Test.YtgoefeaopegdoaaGreatDoorQa21
import Derived.Test.YtgoefeaopegdoaaGreatDoorQa22
import Derived.Test.YtgoefeaopegdoaaGreatDoorQa23
import Derived.Test.YtgoefeaopegdoaaGreatDoorQa24
import Derived.Test.YtgoefeaopegdoaaGreatDoorQa25
import Derived.Test.YtgoefeaopegdoaaGreatDoorQa26
import Derived.Test.YtgoefeaopegdoaaGreatDoorQa27
import Derived.Test.YtgoefeaopegdoaaGreatDoorQb1
import Derived.Test.YtgoefeaopegdoaaGreatDoorQb2
import Derived.Test.YtgoefeaopegdoaaGreatDoorQb3
import Derived.Test.YtgoefeaopegdoaaGreatDoorQb4
import Derived.WalkKit
import Derived.Lib.Strings
import Derived.Lib.UnsafeStr
import Derived.Laws.IdiomStrings
import Derived.Laws.AppendOwn
import Derived.Lib.BufferRead
import Derived.Lib.RuneBytes
import Derived.Laws.RangeAny
import Derived.Shelf.Strings.Builder1
import Derived.Shelf.Strings.Builder2
import Derived.Shelf.Strings.OnBuilder
import Derived.Shelf.Strings.Trim
import Derived.Shelf.Small.Utf8
import Derived.Shelf.Small.Bits
import Derived.Shelf.Small.Strs
import Derived.Shelf.Small.Wraps
import Derived.Shelf.Strings.BuilderF
import Derived.Shelf.Strings.BuilderK
import Derived.Shelf.Strings.BuilderRune
import Derived.Shelf.Utf8.AppendRune
import Derived.Shelf.Utf8.AppendRunePlain
import Derived.Shelf.Strings.Builder2Cap
import Derived.Shelf.Strconv.Itoa0
import Derived.Shelf.Strconv.Itoa1
import Derived.Shelf.LaysM
import Derived.Shelf.Strconv.Itoa2
import Derived.Shelf.Strconv.Itoa3
import Derived.Shelf.Strings.Search1
import Derived.Shelf.Strings.Search2
import Derived.Shelf.Strings.Search3
import Derived.Shelf.Strings.Cut
import Derived.Shelf.Strings.Count
import Derived.Shelf.Strings.Shaped
import Derived.Shelf.Strings.LastIndex
import Derived.Shelf.Strings.Prefix
import Derived.Shelf.Strings.Split
import Derived.Shelf.Strings.Replace
import Derived.Shelf.Strings.Runes
import Derived.Shelf.Strings.IndexAny
import Derived.Shelf.Strings.AsciiSet
import Derived.Shelf.Strings.IndexAnyAll
import Derived.Shelf.Unicode.DecodeSlow
import Derived.Ground.Names2Prog
import Derived.Shelf.Slices.Clone
import Derived.Shelf.Slices.In.SortNone
import Derived.Ground.SlgnProg
import Derived.Shelf.SlicesE.Clone
import Derived.WalkSpells
import Derived.WalkLawsBesides
import Derived.Lib.FrozenHead2
import Derived.Lib.OthersKept
import Derived.Lib.Builder
import Derived.Laws.Cover4
import Derived.Lib.IndexMore
import Derived.Lib.Join
import Derived.Lib.LastIndexByte
import Derived.Laws.BitsAllLaws
import Derived.Lib.Bytealg
import Derived.Lib.BufferMore
import Derived.LoopN
import Derived.RegionTactic
import Derived.Deep.RegionWith
import Derived.Deep.QuietTactic
import Derived.BigQuiet
import Derived.Laws.OwnMore
import Derived.Scope
import Derived.ScopeJumps
import Derived.WalkMore
import Derived.Lib.IndexAny
import Derived.Lib.Replace
import Derived.Lib.TrimByte
import Derived.Lib.ItoaNum
import Derived.Lib.DecodeN
import Derived.Deep.LoopGhost
import Derived.Laws.BytesString
import Derived.Deep.WholeRow
import Derived.BigRegion
import Derived.Lib.AppendIntMem
import Derived.Lib.SmallJoins
import Derived.WalkSmall
import Derived.OwnWalk
import Derived.Laws.CopyOwn
import Derived.Laws.ResultCell
import Derived.Deep.MidRow
import Derived.Deep.RegionLaw
import Derived.Lib.SlTrimSet
import Derived.Below
import Derived.Shelf.Strings.SlTrimAscii
import Derived.Laws.Runes
import Derived.Lib.SlBytesConst
import Derived.Deep.Cut
import Derived.Deep.RegionHeld
import Derived.Laws.AppendOwnNone
import Derived.Lib.AppendStr
set_option linter.unusedSimpArgs false
set_option linter.unusedVariables false

namespace Go.Proofs.YtgoefeaopegdoaaGreatDoor
open Go.RowKit

theorem enc_eq (r : Int) : (Utf8.encode r).data.toList = Lib.encodeRune r := by
 unfold Utf8.encode Lib.encodeRune Utf8.valid Utf8.runeError
 by_cases h1 : 0 ≤ r ∧ r ≤ 127
 ·rw [Lib.encodeRuneZ_one h1.1 h1.2]
  have hv : ((decide (0 ≤ r) && decide (r < 0xD800)) || (decide (0xE000 ≤ r) && decide (r ≤ 0x10FFFF))) = true := by simp; omega
  simp only [hv, if_true]
  rw [if_pos (by omega)]
  rfl
 by_cases h2 : 128 ≤ r ∧ r ≤ 2047
 ·rw [Lib.encodeRuneZ_two h2.1 h2.2]
  have hv : ((decide (0 ≤ r) && decide (r < 0xD800)) || (decide (0xE000 ≤ r) && decide (r ≤ 0x10FFFF))) = true := by simp; omega
  simp only [hv, if_true]
  rw [if_neg (by omega), if_pos (by omega)]
  have a1 : (192 + r / 64).toNat = 192 + r.toNat / 64 := by omega
  have a2 : (128 + r % 64).toNat = 128 + r.toNat % 64 := by omega
  simp only [List.map_cons, List.map_nil, a1, a2]
  try rfl
 by_cases h3 : (2048 ≤ r ∧ r < 55296) ∨ (57343 < r ∧ r ≤ 65535)
 ·rw [Lib.encodeRuneZ_three h3]
  have hv : ((decide (0 ≤ r) && decide (r < 0xD800)) || (decide (0xE000 ≤ r) && decide (r ≤ 0x10FFFF))) = true := by simp; omega
  simp only [hv, if_true]
  rw [if_neg (by omega), if_neg (by omega), if_pos (by omega)]
  have a1 : (224 + r / 4096).toNat = 224 + r.toNat / 4096 := by omega
  have a2 : (128 + r / 64 % 64).toNat = 128 + r.toNat / 64 % 64 := by omega
  have a3 : (128 + r % 64).toNat = 128 + r.toNat % 64 := by omega
  simp only [List.map_cons, List.map_nil, a1, a2, a3]
  try rfl
 by_cases h4 : 65536 ≤ r ∧ r ≤ 1114111
 ·rw [Lib.encodeRuneZ_four h4.1 h4.2]
  have hv : ((decide (0 ≤ r) && decide (r < 0xD800)) || (decide (0xE000 ≤ r) && decide (r ≤ 0x10FFFF))) = true := by simp; omega
  simp only [hv, if_true]
  rw [if_neg (by omega), if_neg (by omega), if_neg (by omega)]
  have a1 : (240 + r / 262144).toNat = 240 + r.toNat / 262144 := by omega
  have a2 : (128 + r / 4096 % 64).toNat = 128 + r.toNat / 4096 % 64 := by omega
  have a3 : (128 + r / 64 % 64).toNat = 128 + r.toNat / 64 % 64 := by omega
  have a4 : (128 + r % 64).toNat = 128 + r.toNat % 64 := by omega
  simp only [List.map_cons, List.map_nil, a1, a2, a3, a4]
  try rfl
 ·rw [Lib.encodeRuneZ_bad (by omega)]
  have hv : ((decide (0 ≤ r) && decide (r < 0xD800)) || (decide (0xE000 ≤ r) && decide (r ≤ 0x10FFFF))) = false := by simp; omega
  simp only [hv, Bool.false_eq_true, if_false]
  rfl

end Go.Proofs.YtgoefeaopegdoaaGreatDoor

namespace Go.Proofs.YtgoefeaopegdoaaGreatDoor
theorem dec1 (s : ByteArray) (i r : Nat) (h0 : (s.get! (i + 0)).toNat = r) (hr : r < 128) : Utf8.decode s i = (r, 1) := by
 simp only [Utf8.decode, h0]
 rw [if_pos hr]

theorem dec2 (s : ByteArray) (i r : Nat) (h0 : (s.get! (i + 0)).toNat = 192 + r / 64) (h1 : (s.get! (i + 1)).toNat = 128 + r % 64) (hs : i + 1 < s.size) (hr : 128 ≤ r ∧ r < 2048) : Utf8.decode s i = (r, 2) := by
 simp only [Utf8.decode, h0, h1]
 rw [if_neg (by omega), if_pos (by simp; omega)]
 have e : (192 + r / 64) % 32 * 64 + (128 + r % 64) % 64 = r := by omega
 rw [e, if_pos (by omega)]

theorem dec3 (s : ByteArray) (i r : Nat) (h0 : (s.get! (i + 0)).toNat = 224 + r / 4096) (h1 : (s.get! (i + 1)).toNat = 128 + r / 64 % 64) (h2 : (s.get! (i + 2)).toNat = 128 + r % 64) (hs : i + 2 < s.size) (hr : 2048 ≤ r ∧ r < 65536) (hv : Utf8.valid r = true) : Utf8.decode s i = (r, 3) := by
 simp only [Utf8.decode, h0, h1, h2]
 rw [if_neg (by omega), if_neg (by simp; omega), if_pos (by simp; omega)]
 have e : (224 + r / 4096) % 16 * 4096 + (128 + r / 64 % 64) % 64 * 64 + (128 + r % 64) % 64 = r := by omega
 rw [e, if_pos (by simp [hv]; omega)]

theorem dec4 (s : ByteArray) (i r : Nat) (h0 : (s.get! (i + 0)).toNat = 240 + r / 262144) (h1 : (s.get! (i + 1)).toNat = 128 + r / 4096 % 64) (h2 : (s.get! (i + 2)).toNat = 128 + r / 64 % 64) (h3 : (s.get! (i + 3)).toNat = 128 + r % 64) (hs : i + 3 < s.size) (hr : 65536 ≤ r ∧ r < 1114112) (hv : Utf8.valid r = true) : Utf8.decode s i = (r, 4) := by
 simp only [Utf8.decode, h0, h1, h2, h3]
 rw [if_neg (by omega), if_neg (by simp; omega), if_neg (by simp; omega), if_pos (by simp; omega)]
 have e : (240 + r / 262144) % 8 * 262144 + (128 + r / 4096 % 64) % 64 * 4096 + (128 + r / 64 % 64) % 64 * 64 + (128 + r % 64) % 64 = r := by omega
 rw [e, if_pos (by simp [hv]; omega)]

theorem get_byte (s : ByteArray) (n : Nat) (c : UInt8) (h : s.data.toList[n]? = some c) : s.get! n = c := by
 obtain ⟨hlt, e⟩ := List.getElem?_eq_some_iff.1 h
 have hn : n < s.size := by simpa using hlt
 have : s.get! n = s[n]'hn := by simp [ByteArray.get!, getElem!_pos, hn]; rfl
 rw [this]
 exact e

theorem at_mid (A E B : List UInt8) (k : Nat) (hk : k < E.length) : (A ++ E ++ B)[A.length + k]? = some E[k] := by
 rw [List.append_assoc, List.getElem?_append_right (by omega), List.getElem?_append_left (by omega)]
 simp [hk]

theorem u8_nat (n : Nat) (h : n < 256) : (UInt8.ofNat n).toNat = n := by
 have : (UInt8.ofNat n).toNat = n % 256 := by simp
 rw [this]; omega

theorem valid_iff (r : Nat) : Utf8.valid r = true ↔ (r < 55296 ∨ 57344 ≤ r) ∧ r ≤ 1114111 := by
 unfold Utf8.valid
 simp
 omega

theorem enc_bytes (r : Nat) (hv : Utf8.valid r = true) : Lib.encodeRune r =
  if r < 128 then [UInt8.ofNat r] else if r < 2048 then [UInt8.ofNat (192 + r / 64), UInt8.ofNat (128 + r % 64)] else if r < 65536 then [UInt8.ofNat (224 + r / 4096), UInt8.ofNat (128 + r / 64 % 64), UInt8.ofNat (128 + r % 64)]
  else [UInt8.ofNat (240 + r / 262144), UInt8.ofNat (128 + r / 4096 % 64), UInt8.ofNat (128 + r / 64 % 64), UInt8.ofNat (128 + r % 64)] := by
 rw [← enc_eq]
 unfold Utf8.encode
 simp only [hv, if_true, Int.toNat_natCast]
 split
 ·rfl
 ·split
  ·rfl
  ·split <;> rfl

theorem decode_enc (s : ByteArray) (A B : List UInt8) (r : Nat) (hv : Utf8.valid r = true) (hs : s.data.toList = A ++ Lib.encodeRune r ++ B) : Utf8.decode s A.length = (r, (Lib.encodeRune r).length) := by
 have hvr := (valid_iff r).1 hv
 have hsz : s.size = A.length + (Lib.encodeRune r).length + B.length := by rw [Lib.size_eq, hs]; simp; omega
 have he := enc_bytes r hv
 have hget : ∀ k (hk : k < (Lib.encodeRune r).length), s.get! (A.length + k) = (Lib.encodeRune r)[k] := fun k hk => get_byte s _ _ (by rw [hs]; exact at_mid A _ B k hk)
 by_cases c1 : r < 128
 ·rw [if_pos c1] at he
  rw [he] at hget hsz ⊢
  have g0 := hget 0 (by simp)
  rw [dec1 s A.length r (by rw [g0]; exact u8_nat r (by omega)) c1]
  rfl
 rw [if_neg c1] at he
 by_cases c2 : r < 2048
 ·rw [if_pos c2] at he
  rw [he] at hget hsz ⊢
  have g0 := hget 0 (by simp)
  have g1 := hget 1 (by simp)
  rw [dec2 s A.length r (by rw [g0]; exact u8_nat _ (by omega)) (by rw [g1]; exact u8_nat _ (by omega)) (by rw [hsz]; simp; omega) (by omega)]
  rfl
 rw [if_neg c2] at he
 by_cases c3 : r < 65536
 ·rw [if_pos c3] at he
  rw [he] at hget hsz ⊢
  have g0 := hget 0 (by simp)
  have g1 := hget 1 (by simp)
  have g2 := hget 2 (by simp)
  rw [dec3 s A.length r (by rw [g0]; exact u8_nat _ (by omega)) (by rw [g1]; exact u8_nat _ (by omega)) (by rw [g2]; exact u8_nat _ (by omega)) (by rw [hsz]; simp; omega) (by omega) hv]
  rfl
 rw [if_neg c3] at he
 ·rw [he] at hget hsz ⊢
  have g0 := hget 0 (by simp)
  have g1 := hget 1 (by simp)
  have g2 := hget 2 (by simp)
  have g3 := hget 3 (by simp)
  rw [dec4 s A.length r (by rw [g0]; exact u8_nat _ (by omega)) (by rw [g1]; exact u8_nat _ (by omega)) (by rw [g2]; exact u8_nat _ (by omega)) (by rw [g3]; exact u8_nat _ (by omega)) (by rw [hsz]; simp; omega) (by omega) hv]
  rfl

theorem decode_valid (s : ByteArray) (i : Nat) : Utf8.valid (Utf8.decode s i).1 = true := by
 have hb : ∀ k, (s.get! (i + k)).toNat < 256 := fun k => (s.get! (i + k)).toNat_lt
 have h0 := hb 0
 have h1 := hb 1
 simp only [Utf8.decode]
 split
 ·rw [valid_iff]; simp only; omega
 ·split
  ·split
   ·rw [valid_iff]; simp only
    have := Nat.mod_lt ((s.get! (i + 0)).toNat) (show 32 > 0 by omega)
    omega
   ·rfl
  ·split
   ·split
    ·rename_i h; simp at h; exact h.2
    ·rfl
   ·split
    ·split
     ·rename_i h; simp at h; exact h.2
     ·rfl
    ·rfl

theorem enc_le (r : Int) : (Lib.encodeRune r).length ≤ 4 := by
 have := Lib.encodeRuneZ_length r
 unfold Lib.encodeRune
 rw [List.length_map]
 exact this.2

theorem recFrom_le (s : ByteArray) : ∀ (fuel pos : Nat), (recFrom s fuel pos).length ≤ 4 * fuel := by
 intro fuel
 induction fuel with
 | zero => intro pos; simp [recFrom]
 | succ f ih =>
  intro pos
  unfold recFrom
  split
  ·have h1 := ih (pos + (Utf8.decode s pos).2)
   have h2 := enc_le ((Utf8.decode s pos).1 : Int)
   rw [List.length_append]
   have h3 : (Lib.encodeRune ↑(Utf8.decode s pos).fst).length ≤ 4 := h2
   omega
  ·simp

def runesOf (rs : List Nat) : List UInt8 := rs.flatMap fun (r : Nat) => Lib.encodeRune (r : Int)

theorem enc_pos (r : Int) : 1 ≤ (Lib.encodeRune r).length := by
 have := Lib.encodeRuneZ_length r
 unfold Lib.encodeRune
 rw [List.length_map]
 exact this.1

theorem runesOf_len (rs : List Nat) : rs.length ≤ (runesOf rs).length := by
 induction rs with
 | nil => simp
 | cons r rs ih =>
  have := enc_pos r
  simp [runesOf] at ih ⊢
  omega

theorem recFrom_runes (s : ByteArray) (rs : List Nat) : ∀ (A : List UInt8) (fuel : Nat), (∀ r ∈ rs, Utf8.valid r = true) → s.data.toList = A ++ runesOf rs → rs.length ≤ fuel → recFrom s fuel A.length = runesOf rs := by
 induction rs with
 | nil =>
  intro A fuel _ hs _
  refine recFrom_end s fuel _ ?_
  rw [Lib.size_eq, hs]; simp [runesOf]
 | cons r rs ih =>
  intro A fuel hv hs hf
  obtain ⟨f, rfl⟩ : ∃ f, fuel = f + 1 := ⟨fuel - 1, by simp at hf; omega⟩
  have hs' : s.data.toList = A ++ Lib.encodeRune r ++ runesOf rs := by rw [hs]; simp [runesOf]
  have hlt : A.length < s.size := by
   have := enc_pos r
   rw [Lib.size_eq, hs']; simp; omega
  have hd := decode_enc s A (runesOf rs) r (hv r (by simp)) hs'
  have hih := ih (A ++ Lib.encodeRune r) f (fun x hx => hv x (by simp [hx])) hs' (by simp at hf; omega)
  show (if A.length < s.size then _ else _) = _
  rw [if_pos hlt, hd]
  simp only
  rw [List.length_append] at hih
  rw [hih]
  simp [runesOf]

theorem recode_runes (s : ByteArray) (rs : List Nat) (hv : ∀ r ∈ rs, Utf8.valid r = true) (hs : s.data.toList = runesOf rs) : recode s = s.data.toList := by
 have := recFrom_runes s rs [] s.size hv (by simpa using hs) (by rw [Lib.size_eq, hs]; exact runesOf_len rs)
 rw [hs]
 exact this

theorem recFrom_form (s : ByteArray) : ∀ (fuel pos : Nat), ∃ rs : List Nat, (∀ r ∈ rs, Utf8.valid r = true) ∧ recFrom s fuel pos = runesOf rs := by
 intro fuel
 induction fuel with
 | zero => intro pos; exact ⟨[], by simp, rfl⟩
 | succ f ih =>
  intro pos
  by_cases h : pos < s.size
  ·obtain ⟨rs, hv, e⟩ := ih (pos + (Utf8.decode s pos).2)
   refine ⟨(Utf8.decode s pos).1 :: rs, ?_, ?_⟩
   ·intro r hr
    rcases List.mem_cons.1 hr with rfl | hr
    ·exact decode_valid s pos
    ·exact hv r hr
   ·show (if pos < s.size then _ else _) = _
    rw [if_pos h, e]
    simp [runesOf]
  ·exact ⟨[], by simp, recFrom_end s _ pos h⟩

def runesN (s : ByteArray) : Nat → Nat → List Nat
 | 0, _ => []
 | b + 1, i => if i < s.size then (Utf8.decode s i).1 :: runesN s b (i + (Utf8.decode s i).2) else []

theorem runesN_from (s : ByteArray) : ∀ (b i : Nat) (acc : Array Value), Conv.runesFrom s b i acc = acc ++ ((runesN s b i).map fun r => Value.int .i32 (Int.ofNat r)).toArray := by
 intro b
 induction b with
 | zero => intro i acc; simp [Conv.runesFrom, runesN]
 | succ b ih =>
  intro i acc
  unfold Conv.runesFrom runesN
  by_cases h : i < s.size
  ·simp only [h, if_true]
   rw [ih]
   simp
  ·simp [h]

theorem runesN_rec (s : ByteArray) : ∀ (b i : Nat), runesOf (runesN s b i) = recFrom s b i := by
 intro b
 induction b with
 | zero => intro i; rfl
 | succ b ih =>
  intro i
  unfold runesN recFrom
  by_cases h : i < s.size
  ·simp only [h, if_true]
   rw [← ih]
   simp [runesOf]
  ·simp [h, runesOf]

theorem runesBytes_of (rs : List Nat) : (runesBytes (rs.map Int.ofNat)).data.toList = runesOf rs := by
 unfold runesBytes
 suffices h : ∀ (rs : List Nat) (s : ByteArray), ((rs.map Int.ofNat).foldl (fun r n => r ++ Utf8.encode n) s).data.toList = s.data.toList ++ runesOf rs by
  have := h rs ByteArray.empty
  simpa using this
 intro rs
 induction rs with
 | nil => intro s; simp [runesOf]
 | cons r rs ih =>
  intro s
  simp only [List.map_cons, List.foldl_cons]
  rw [ih, ByteArray.data_append, Array.toList_append, enc_eq]
  simp [runesOf]

end Go.Proofs.YtgoefeaopegdoaaGreatDoor

namespace Go.Proofs.YtgoefeaopegdoaaGreatDoor
open Go.RowKit

def wrtB (c : UInt8) : List UInt8 := if plI (c.toNat : Int) then [c] else if c.toNat = 32 then [32] else esc c

theorem wrtB_all (c : UInt8) : (wrtC c).map plusC = wrtB c :=
 beq_iff_eq.1 (u8_all (P := fun c => (wrtC c).map plusC == wrtB c) (by decide +kernel) c)

theorem wrtC_no (c : UInt8) : (wrtC c).all (fun d => !(d == 38) && !(d == 61)) = true :=
 u8_all (P := fun c => (wrtC c).all (fun d => !(d == 38) && !(d == 61))) (by decide +kernel) c

theorem wrtV_no {l : List UInt8} {d : UInt8} (h : d ∈ wrtV l) : d ≠ 38 ∧ d ≠ 61 := by
 unfold wrtV at h
 obtain ⟨c, _, hd⟩ := List.mem_flatMap.1 h
 have := List.all_eq_true.1 (wrtC_no c) d hd
 simpa using this

theorem wrtV_plus (l : List UInt8) : (wrtV l).map plusC = l.flatMap wrtB := by
 unfold wrtV
 rw [List.map_flatMap]
 congr 1
 funext c
 exact wrtB_all c

theorem un_wrtB : ∀ l : List UInt8, unpct (l.flatMap wrtB) = l
 | [] => rfl
 | c :: l => by
  rw [List.flatMap_cons]
  unfold wrtB
  split
  ·rename_i h
   have hne : c ≠ 37 := fun e => by subst e; revert h; decide
   rw [List.singleton_append, unpct_cons, pcd_other _ c hne]
   simp only [Bool.false_eq_true, if_false]
   have := un_wrtB l
   unfold wrtB at this
   rw [this]
  ·split
   ·rename_i h
    have hc : c = 32 := by apply UInt8.toNat_inj.1; rw [h]; rfl
    subst hc
    rw [List.singleton_append, unpct_cons, pcd_other _ 32 (by decide)]
    simp only [Bool.false_eq_true, if_false]
    have := un_wrtB l
    unfold wrtB at this
    rw [this]
   ·rw [unpct_esc]
    have := un_wrtB l
    unfold wrtB at this
    rw [this]

def Fin4 (l : List UInt8) : Prop := dec l = l

theorem read_wrt {l : List UInt8} (h : Fin4 l) : readQ (wrtV l) = l := by
 unfold readQ
 rw [wrtV_plus, un_wrtB]
 exact h

theorem pair_wr {h : Hd} (h1 : Fin4 h.name) (h2 : Fin4 h.value) : pairQ (wrP h) = h := by
 unfold pairQ wrP
 have e : part 61 (wrtV h.name ++ 61 :: wrtV h.value) = (wrtV h.name, wrtV h.value, true) := part_some 61 _ _ (fun hm => (wrtV_no hm).2 rfl)
 rw [e]
 simp only
 rw [read_wrt h1, read_wrt h2]

theorem wrP_no (h : Hd) : 38 ∉ wrP h := by
 unfold wrP
 intro hm
 rcases List.mem_append.1 hm with hm | hm
 ·exact (wrtV_no hm).1 rfl
 ·rcases List.mem_cons.1 hm with hm | hm
  ·exact absurd hm (by decide)
  ·exact (wrtV_no hm).1 rfl

theorem cut_wrA : ∀ (h : Hd) (L : List Hd), cutL 38 (wrP h ++ wrA false L) = wrP h :: L.map wrP
 | h, [] => by
  rw [wrA, List.append_nil, cutL_none 38 _ (wrP_no h)]; rfl
 | h, x :: L => by
  rw [wrA]
  show cutL 38 (wrP h ++ ([38] ++ (wrP x ++ wrA false L))) = _
  rw [List.singleton_append, cutL_some 38 _ _ (wrP_no h), cut_wrA x L]
  rfl

theorem full_wr (h : Hd) : fullQ (wrP h) = true := by
 unfold fullQ wrP
 rw [Bool.not_eq_true', beq_eq_false_iff_ne]
 simp

theorem quer_wr (L : List Hd) (h : ∀ x ∈ L, Fin4 x.name ∧ Fin4 x.value) : querQ (wrV L) = L := by
 unfold querQ wrV
 cases L with
 | nil => rfl
 | cons x L =>
  rw [wrA]
  simp only [if_true, List.nil_append]
  rw [cut_wrA x L]
  have e : (wrP x :: L.map wrP) = (x :: L).map wrP := rfl
  rw [e]
  have : ∀ M : List Hd, (∀ y ∈ M, Fin4 y.name ∧ Fin4 y.value) → ((M.map wrP).filter fullQ).map pairQ = M := by
   intro M
   induction M with
   | nil => intro _; rfl
   | cons y M ih =>
    intro hM
    rw [List.map_cons, List.filter_cons_of_pos (full_wr y), List.map_cons, ih fun z hz => hM z (by simp [hz]), pair_wr (hM y (by simp)).1 (hM y (by simp)).2]
  exact this _ h

theorem runes_list (s : ByteArray) : (runesBytes ((runesN s s.size 0).map Int.ofNat)).data.toList = recode s := by
 rw [runesBytes_of, runesN_rec]; rfl

theorem enc_dot : Lib.encodeRune (46 : Nat) = [46] := by decide

theorem trim_dot (t : List UInt8) : Lib.trimPrefix (46 :: t) bom = 46 :: t := by
 unfold Lib.trimPrefix
 rw [if_neg]
 simp [Lib.hasPrefix, bom]

theorem recode_le (s : ByteArray) : (recode s).length ≤ 4 * s.size := recFrom_le s _ _

theorem recode_dot (s : ByteArray) (h0 : 0 < s.size) (h : s.data.toList[0]? = some 46) : ∃ t, recode s = 46 :: t := by
 have hg : (s.get! (0 + 0)).toNat = 46 := by rw [get_byte s 0 46 h]; rfl
 have hd : Utf8.decode s 0 = (46, 1) := dec1 s 0 46 hg (by decide)
 unfold recode
 cases hz : s.size with
 | zero => omega
 | succ n =>
  rw [recFrom, if_pos (by omega), hd]
  exact ⟨_, by rw [enc_dot]; rfl⟩

theorem fin_recode (s : ByteArray) (h0 : 0 < s.size) (h : s.data.toList[0]? = some 46) : Fin4 (recode s) := by
 obtain ⟨rs, hv, hr⟩ := recFrom_form s s.size 0
 obtain ⟨t, ht⟩ := recode_dot s h0 h
 unfold Fin4 dec
 rw [ht, trim_dot, ← ht]
 have := recode_runes ⟨(recode s).toArray⟩ rs hv (by show recode s = _; exact hr)
 exact this

end Go.Proofs.YtgoefeaopegdoaaGreatDoor

namespace Go.Proofs.YtgoefeaopegdoaaGreatDoor
open Go.RowKit

theorem runes_back (w : World) (s : ByteArray) (cap : Nat) :
  (convert 58 9 (.slice (some ⟨w.heap.size, 0, none⟩) (Conv.runesFrom s s.size 0 #[]).size cap)).run Tryz.prog
   (w.drew.alloc (.cells (Conv.runesFrom s s.size 0 #[] ++ Array.replicate (cap - (Conv.runesFrom s s.size 0 #[]).size) (.int .i32 0)) 21)) =
  .ok (.string (runesBytes ((runesN s s.size 0).map Int.ofNat))) (w.drew.alloc (.cells (Conv.runesFrom s s.size 0 #[] ++ Array.replicate (cap - (Conv.runesFrom s s.size 0 #[]).size) (.int .i32 0)) 21)) := by
 have e : Conv.runesFrom s s.size 0 #[] = ((runesN s s.size 0).map fun r => Value.int .i32 (Int.ofNat r)).toArray := by rw [runesN_from]; simp
 rw [e]
 have h := run_convert_runes (P := Tryz.prog) (w.drew.alloc (.cells (((runesN s s.size 0).map fun r => Value.int .i32 (Int.ofNat r)).toArray ++ Array.replicate (cap - ((runesN s s.size 0).map fun r => Value.int .i32 (Int.ofNat r)).toArray.size) (.int .i32 0)) 21)) 58 9 21 ⟨w.heap.size, 0, none⟩ ((runesN s s.size 0).map fun r => Value.int .i32 (Int.ofNat r)).toArray.size cap ((runesN s s.size 0).map Int.ofNat) (by simp) Tryz.underlying58 Tryz.underlying21 Tryz.underlying9 ?_
 ·rw [h]
  simp
  rw [List.take_of_length_le (by simp)]
 ·intro j hj
  have hj' : j < (runesN s s.size 0).length := by simpa using hj
  rw [Addr.add_lit, Nat.zero_add]
  have hh : (w.drew.alloc (.cells (((runesN s s.size 0).map fun r => Value.int .i32 (Int.ofNat r)).toArray ++ Array.replicate (cap - ((runesN s s.size 0).map fun r => Value.int .i32 (Int.ofNat r)).toArray.size) (.int .i32 0)) 21)).cell? ⟨w.drew.heap.size, j, none⟩ = _ := World.cell?_alloc_mark _ _ _ _ _
  refine hh.trans ?_
  simp [Array.getElem?_append, hj', List.getD]

theorem runesFrom_le (s : ByteArray) : (Conv.runesFrom s s.size 0 #[]).size ≤ s.size := by
 have e : Conv.runesFrom s s.size 0 #[] = ((runesN s s.size 0).map fun r => Value.int .i32 (Int.ofNat r)).toArray := by rw [runesN_from]; simp
 rw [e]
 suffices h : ∀ b i, (runesN s b i).length ≤ b by simpa using h s.size 0
 intro b
 induction b with
 | zero => intro i; simp [runesN]
 | succ b ih =>
  intro i
  unfold runesN
  split
  ·have := ih (i + (Utf8.decode s i).2)
   simp; omega
  ·simp

end Go.Proofs.YtgoefeaopegdoaaGreatDoor

namespace Go.Proofs.YtgoefeaopegdoaaGreatDoor
open Go.RowKit

theorem hd_extp {a b : Hd} (h1 : a.name = b.name) (h2 : a.value = b.value) : a = b := by cases a; cases b; simp at h1 h2; simp [h1, h2]

set_option maxHeartbeats 2000000 in
theorem sameP_any (v1 v2 : Value) (L1 L2 : List Hd) (w : World) (h1 : HdAt w v1 L1) (h2 : HdAt w v2 L2) (hl1 : L1.length ≤ 1000000) (hl2 : L2.length ≤ 1000000) :
  Calls Tryz.prog 34 #[v1, v2] w fun e w' => e = .returned (.bool (decide (L1 = L2))) ∧ Below w.heap.size w w' := by
 obtain ⟨a1, c1, rfl, hc1, hm1, hv1⟩ := h1.view
 obtain ⟨a2, c2, rfl, hc2, hm2, hv2⟩ := h2.view
 have V1 := hid hv1
 have V2 := hid hv2
 clear h1 h2 hv1 hv2
 by_cases hl : L1.length = L2.length
 ·have hl' : ((L1.length : Int) == (L2.length : Int)) = true := by rw [beq_iff_eq]; omega
  go_enter Tryz.func34, Tryz.ntmps34
  go_wp2
  go_loopw [5] (fun i wr => ∃ k : Nat, k ≤ L1.length ∧ i = .int .i64 k ∧ (∀ j (h1 : j < L1.length) (h2 : j < L2.length), j < k → L1[j] = L2[j]) ∧ Below w.heap.size w wr) (fun i _ => L1.length - (intOf i).toNat)
  case atStart => exact ⟨0, Nat.zero_le _, rfl, fun j _ _ h => absurd h (by omega), Below.refl _ _⟩
  case round =>
   obtain ⟨k, hk, rfl, hall, hb⟩ := hrel
   have HA := hid hall
   clear hall
   by_cases hlt : k < L1.length
   ·have hlt' : (k : Int) < (L1.length : Int) := by omega
    have hlt2' : (k : Int) < (L2.length : Int) := by omega
    obtain ⟨b1, o1, rfl, e1, e1'⟩ := V1.out k hlt
    obtain ⟨b2, o2, rfl, e2, e2'⟩ := V2.out k (by omega)
    have f1 : wr.cell? ⟨b1, o1 + k * 2, none⟩ = some (.string ⟨L1[k].name.toArray⟩) := (hb.cell (World.block_lt_of_cell? w _ e1)).trans e1
    have f1' : wr.cell? ⟨b1, o1 + k * 2 + 1, none⟩ = some (.string ⟨L1[k].value.toArray⟩) := (hb.cell (World.block_lt_of_cell? w _ e1')).trans e1'
    have f2 : wr.cell? ⟨b2, o2 + k * 2, none⟩ = some (.string ⟨(L2[k]'(by omega)).name.toArray⟩) := (hb.cell (World.block_lt_of_cell? w _ e2)).trans e2
    have f2' : wr.cell? ⟨b2, o2 + k * 2 + 1, none⟩ = some (.string ⟨(L2[k]'(by omega)).value.toArray⟩) := (hb.cell (World.block_lt_of_cell? w _ e2')).trans e2'
    clear e1 e2 e1' e2'
    obtain ⟨x, hx⟩ : ∃ x, x = L1[k].name := ⟨_, rfl⟩
    obtain ⟨x', hx'⟩ : ∃ x, x = L1[k].value := ⟨_, rfl⟩
    obtain ⟨y, hy⟩ : ∃ y, y = (L2[k]'(by omega)).name := ⟨_, rfl⟩
    obtain ⟨y', hy'⟩ : ∃ y, y = (L2[k]'(by omega)).value := ⟨_, rfl⟩
    rw [← hx] at f1
    rw [← hx'] at f1'
    rw [← hy] at f2
    rw [← hy'] at f2'
    have HX := hid hx
    have HY := hid hy
    have HX' := hid hx'
    have HY' := hid hy'
    clear hx hy hx' hy'
    by_cases hxy : x = y ∧ x' = y'
    ·obtain ⟨rfl, rfl⟩ := hxy
     go_wp2
     go_quiet (fail)
     go_wp2
     go_roundw
     case rel =>
      refine ⟨k + 1, by omega, by go_num, fun j h1 h2 hj => ?_, Go.below_drewN hb _⟩
      by_cases he : j = k
      ·subst he; exact hd_extp (by rw [← HX.out, ← HY.out]) (by rw [← HX'.out, ← HY'.out])
      ·exact HA.out j h1 h2 (by omega)
     case measure => simp [intOf]; omega
    ·have HN := hid (show ¬ L1 = L2 from fun e => hxy ⟨by rw [HX.out, HY.out]; subst e; rfl, by rw [HX'.out, HY'.out]; subst e; rfl⟩)
     by_cases hx1 : x = y
     ·subst hx1
      have hne : (x' == y') = false := by
       rw [beq_eq_false_iff_ne]
       exact fun e => hxy ⟨rfl, e⟩
      clear hxy
      go_wp2
      go_quiet (fail)
      go_wp2
      go_ret
      exact ⟨ret_bool (by simp [HN.out]), Go.below_drewN hb _⟩
     ·have hne : (x == y) = false := by
       rw [beq_eq_false_iff_ne]
       exact hx1
      clear hxy hx1
      go_wp2
      go_quiet (fail)
      go_wp2
      go_ret
      exact ⟨ret_bool (by simp [HN.out]), Go.below_drewN hb _⟩
   ·have HE := hid (show L1 = L2 from list_eq_of hl fun j h1 h2 => HA.out j h1 h2 (by omega))
    go_wp2
    go_ret
    exact ⟨ret_bool (by simp [HE.out]), hb⟩
 ·have hl' : ((L1.length : Int) == (L2.length : Int)) = false := by rw [beq_eq_false_iff_ne]; omega
  have HN := hid (show ¬ L1 = L2 from fun e => hl (by rw [e]))
  go_enter Tryz.func34, Tryz.ntmps34
  go_wp2
  go_ret
  exact ⟨ret_bool (by simp [HN.out]), Below.refl _ _⟩

end Go.Proofs.YtgoefeaopegdoaaGreatDoor

namespace Go.Proofs.YtgoefeaopegdoaaGreatDoor
open Go.RowKit

def sumL (L : List (List UInt8)) : Nat := (L.map (fun p => p.length + 1)).sum

theorem cut15_sum (c : UInt8) : ∀ l : List UInt8, sumL (cutL c l) = l.length + 1
 | [] => rfl
 | x :: l => by
  have ih := cut15_sum c l
  rw [cutL]
  split
  ·unfold sumL at ih ⊢
   rw [List.map_cons, List.sum_cons, ih]
   simp; omega
  ·cases h : cutL c l with
   | nil => exact absurd h (cutL_ne c l)
   | cons a t =>
    rw [h] at ih
    unfold sumL at ih ⊢
    rw [List.map_cons, List.sum_cons] at ih ⊢
    simp only [List.length_cons]
    omega

theorem join15_sum (c : UInt8) : ∀ L : List (List UInt8), (Lib.join L [c]).length ≤ sumL L
 | [] => by simp [Lib.join, List.intercalate]
 | [x] => by simp [Lib.join, List.intercalate, sumL]
 | x :: y :: L => by
  have ih := join15_sum c (y :: L)
  have e : Lib.join (x :: y :: L) [c] = x ++ ([c] ++ Lib.join (y :: L) [c]) := by simp [Lib.join, List.intercalate]
  rw [e, List.length_append, List.length_append]
  have e2 : sumL (x :: y :: L) = (x.length + 1) + sumL (y :: L) := by unfold sumL; rw [List.map_cons, List.sum_cons]
  rw [e2]
  simp only [List.length_cons, List.length_nil]
  omega

theorem drop15_sum : ∀ (k : Nat) (L : List (List UInt8)), sumL (L.drop k) ≤ sumL L
 | 0, L => Nat.le_refl _
 | k + 1, [] => Nat.le_refl _
 | k + 1, x :: L => by
  have ih := drop15_sum k L
  have e2 : sumL (x :: L) = (x.length + 1) + sumL L := by unfold sumL; rw [List.map_cons, List.sum_cons]
  rw [e2, List.drop_succ_cons]
  omega

theorem len15_sum : ∀ L : List (List UInt8), L.length ≤ sumL L
 | [] => Nat.zero_le _
 | x :: L => by
  have ih := len15_sum L
  have e2 : sumL (x :: L) = (x.length + 1) + sumL L := by unfold sumL; rw [List.map_cons, List.sum_cons]
  rw [e2, List.length_cons]
  omega

theorem siteOk15 {o : Org} (h : o.host.length ≤ 1000000) : SiteOk o := by
 have h1 := cut15_sum 46 o.host
 refine ⟨h, ?_, ?_⟩
 ·have := len15_sum (cutL 46 o.host); omega
 ·have := join15_sum 46 ((cutL 46 o.host).drop (aheadO o.host))
  have := drop15_sum (aheadO o.host) (cutL 46 o.host)
  omega

theorem org_hl {u : Adr} (h : TrOk u) : (orgV u).host.length ≤ 1000000 := by
 unfold orgV
 split
 ·unfold orgA
  split
  ·exact (inn_tr u).2.2
  ·exact h.2.2
 ·decide

theorem siteU15 {u : Adr} (h : TrOk u) : SiteOk (orgV u) := siteOk15 (org_hl h)

def UlAt (w : World) (v : Value) (P : List (Adr × Value)) : Prop :=
 ∃ a cap, v = .slice a P.length cap ∧ P.length ≤ cap ∧ cap ≤ maxLen ∧ ∀ i (h : i < P.length), ∃ g o, a = some ⟨g, o, none⟩ ∧ w.rangeAt g (o + i * 12) (adrCells P[i].1 P[i].2) ∧ PathAt w P[i].2 P[i].1.path ∧ TrOk P[i].1

theorem UlAt.view {w : World} {v : Value} {P : List (Adr × Value)} (h : UlAt w v P) : ∃ a cap, v = .slice a P.length cap ∧ P.length ≤ cap ∧ cap ≤ maxLen ∧ ∀ i (h : i < P.length), ∃ g o, a = some ⟨g, o, none⟩ ∧ w.rangeAt g (o + i * 12) (adrCells P[i].1 P[i].2) ∧ PathAt w P[i].2 P[i].1.path ∧ TrOk P[i].1 := h

theorem range_kept {w w' : World} {g o : Nat} {cs : List Value} (h : w.rangeAt g o cs) (hb : Below w.heap.size w w') : w'.rangeAt g o cs := fun j v hv => by
 have h1 := h j v hv
 exact (hb.cell (World.block_lt_of_cell? w _ h1)).trans h1

theorem UlAt.kept {w w' : World} {v : Value} {P : List (Adr × Value)} (h : UlAt w v P) (hb : Below w.heap.size w w') : UlAt w' v P := by
 obtain ⟨a, cap, e, h1, h2, h3⟩ := h
 refine ⟨a, cap, e, h1, h2, fun i hi => ?_⟩
 obtain ⟨g, o, e1, e2, e3, e4⟩ := h3 i hi
 exact ⟨g, o, e1, range_kept e2 hb, e3.kept hb, e4⟩

theorem UlAt.take {w : World} {a : Option Addr} {n cap : Nat} {P : List (Adr × Value)} (h : UlAt w (.slice a n cap) P) (k : Nat) (hk : k ≤ P.length) : UlAt w (.slice a k cap) (P.take k) := by
 obtain ⟨a', cap', e, h1, h2, h3⟩ := h
 injection e with e1 e2 e3
 subst e1; subst e3
 have hl : (P.take k).length = k := by rw [List.length_take]; omega
 refine ⟨a, cap, by rw [hl], by rw [hl]; omega, h2, fun i hi => ?_⟩
 rw [hl] at hi
 obtain ⟨g, o, e1, e2, e3, e4⟩ := h3 i (by omega)
 rw [List.getElem_take]
 exact ⟨g, o, e1, e2, e3, e4⟩

end Go.Proofs.YtgoefeaopegdoaaGreatDoor
