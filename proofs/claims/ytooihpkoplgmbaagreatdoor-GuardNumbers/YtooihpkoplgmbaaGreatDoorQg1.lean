/- Walks and plain facts. -/
import Derived.Test.YtooihpkoplgmbaaGreatDoorProg
import Derived.WalkKit
import Derived.Lib.Strings
import Derived.Lib.UnsafeStr
import Derived.Laws.IdiomStrings
import Derived.Laws.AppendOwn
import Derived.Laws.BitsAllLaws
import Derived.Lib.Bytealg
import Derived.Lib.BufferMore
import Derived.Lib.IndexMore
import Derived.Lib.Join
import Derived.WalkSpells
import Derived.WalkLawsBesides
import Derived.Lib.LastIndexByte
import Derived.Test.YtooihpkoplgmbaaGreatDoorTie
import Derived.Shelf.Strings.Builder1
import Derived.Shelf.Strings.Builder2
import Derived.Shelf.Strings.OnBuilder
import Derived.Shelf.Strings.Trim
import Derived.Shelf.Small.Utf8
import Derived.Shelf.Small.Bits
import Derived.Shelf.Small.Strs
import Derived.Shelf.Small.Wraps
import Derived.Shelf.Strings.BuilderF
import Derived.Shelf.Strings.BuilderK
import Derived.Shelf.Utf8.RuneCount
import Derived.Shelf.Strings.Builder2Cap
import Derived.Shelf.Strconv.Itoa0
import Derived.Shelf.Strconv.Itoa1
import Derived.Shelf.LaysM
import Derived.Shelf.Strconv.Itoa2
import Derived.Shelf.Strconv.Itoa3
import Derived.Shelf.Strings.Search1
import Derived.Shelf.Strings.Search2
import Derived.Shelf.Strings.Search3
import Derived.Shelf.Strings.Cut
import Derived.Shelf.Strings.Count
import Derived.Shelf.Strings.Shaped
import Derived.Shelf.Sort.Plain
import Derived.Shelf.Strings.LastIndex
import Derived.Shelf.Strings.Prefix
import Derived.Shelf.Strings.Split
import Derived.Shelf.Strings.Replace
import Derived.Shelf.Strings.SplitShaped
import Derived.Shelf.Unicode.Decode
import Derived.Shelf.Strings.Runes
import Derived.Shelf.Strings.RuneCount
import Derived.Shelf.Strings.IndexAny
import Derived.Shelf.Strings.AsciiSet
import Derived.Shelf.Strings.IndexAnyAll
import Derived.Shelf.Strings.Explode
import Derived.Shelf.Unicode.DecodeSlow
import Derived.Shelf.Unicode.DecodeAny
import Derived.Shelf.Unicode.DecodeLast
import Derived.Shelf.Strings.FieldsFuncAny
import Derived.Shelf.Strings.FieldsFuncGrows
import Derived.Shelf.Slices.Equal
import Derived.Ground.Names2Prog
import Derived.Shelf.Slices.Clone
import Derived.Shelf.Slices.CompactS
import Derived.Shelf.Slices.Cells
import Derived.Shelf.Slices.In.SortNone
import Derived.Ground.SlgnProg
import Derived.Shelf.SlicesE.Equal
import Derived.Shelf.SlicesE.Clone
import Derived.Lib.AppendIntMem
import Derived.Lib.SmallJoins
import Derived.WalkSmall
import Derived.Deep.LoopGhost
import Derived.Deep.MidRow
import Derived.WalkMore
import Derived.Lib.FrozenHead2
import Derived.Lib.OthersKept
import Derived.Lib.Builder
import Derived.Deep.RegionWith
import Derived.OwnWalk
import Derived.Laws.CopyOwn
import Derived.Laws.ResultCell
import Derived.Scope
import Derived.ScopeJumps
import Derived.Lib.IndexAny
import Derived.Lib.Replace
import Derived.Lib.TrimByte
import Derived.Lib.ItoaNum
import Derived.Laws.RangeAny
import Derived.Lib.DecodeN
import Derived.RegionTactic
import Derived.Deep.QuietTactic
import Derived.BigQuiet
import Derived.Laws.BytesString
import Derived.Deep.RegionLaw
import Derived.LoopN
import Derived.Laws.OwnMore
import Derived.Deep.WholeRow
import Derived.BigRegion
import Derived.Lib.AppendStr
import Derived.Deep.RegionHeld
import Derived.Laws.AppendOwnNone
import Derived.Lib.BufferRead
import Derived.Lib.RuneBytes
import Derived.Deep.Cut
import Derived.Laws.Runes
import Derived.Lib.SlTrimSet
import Derived.Below
import Derived.Shelf.Strings.SlTrimAscii
import Derived.Sort.OwnSorted
import Derived.Shelf.Spec.SearchS
import Derived.Sort.Walk0
import Derived.Lib.FieldsP
import Derived.Shelf.GgClosure.GivesRunes
import Derived.Laws.EntriesVeiled
import Derived.Lib.IndexBytes
import Derived.Lib.LaidTab
import Derived.Laws.BitsAll
import Derived.Deep.RegionHeldLaw
import Derived.Deep.CutRange
import Derived.Stop.LaidErr
import Derived.LaidMore
set_option linter.unusedSimpArgs false
set_option linter.unusedVariables false
set_option maxHeartbeats 16000000
set_option maxRecDepth 100000

namespace Go.Proofs.YtooihpkoplgmbaaGreatDoor
def digitI (c : Int) : Bool := decide (48 <= c) && decide (c <= 57)
def letterI (c : Int) : Bool := (decide (65 <= c) && decide (c <= 90)) || (decide (97 <= c) && decide (c <= 122))
def is16I (c : Int) : Bool := digitI c || ((decide (65 <= c) && decide (c <= 70)) || (decide (97 <= c) && decide (c <= 102)))
def val16I (c : Int) : Int :=
 if 97 <= c /\ c <= 102 then c - 87 else if 65 <= c /\ c <= 70 then c - 55 else if 48 <= c /\ c <= 57 then c - 48 else 0
theorem hid {p : Prop} (h : p) : RowKit.Hid p := h
theorem ret_bool {a b : Bool} (h : a = b) : Ending.returned (.bool a) = .returned (.bool b) := by rw [h]
theorem ret_int {k : IntKind} {a b : Int} (h : a = b) : Ending.returned (.int k a) = .returned (.int k b) := by rw [h]
theorem ret_ib {k : IntKind} {a b : Int} {x y : Bool} (h : a = b) (g : x = y) : Ending.returned (.tuple #[.int k a, .bool x]) = .returned (.tuple #[.int k b, .bool y]) := by rw [h, g]
theorem take_snoc (s : ByteArray) (k : Nat) (h : k < s.size) : s.data.toList.take (k + 1) = s.data.toList.take k ++ [s[k]] := by
 rw [List.take_succ_eq_append_getElem (by simpa using h)]; rfl
theorem take_all (s : ByteArray) (k : Nat) (h : ¬ k < s.size) : s.data.toList.take k = s.data.toList :=
 List.take_of_length_le (by simp; omega)
theorem byteCells_one (c : UInt8) : Lib.byteCells [c] = [.int .u8 c.toNat] := rfl
theorem run_string_own {P : Program} {w : World} {base : Nat} {e src dst : TypeId} {v : Value} {l : List UInt8} (hs : P.underlying src = some (.slice e)) (he : P.underlying e = some (.int .u8)) (hd : P.underlying dst = some .string)
  (h : w.ownsRow base e 1 v l.length (Lib.byteCells l)) (hnn : v ≠ .slice none 0 0) : (convert src dst v).run P w = .ok (.string ⟨l.toArray⟩) w := by
 rcases h.2 with ⟨hv, _⟩ | ⟨g, cap, cur, rfl, _⟩
 ·exact absurd hv hnn
 ·refine run_convert_bytes_back w src dst e ⟨g, 0, none⟩ cap l hs he hd fun j hj => ?_
  exact h.cells (g := g) rfl j _ (by simp [Lib.byteCells, hj])
def idxA (c : Int) : Int := Lib.indexByte [47, 58, 59, 61, 64, 91, 92, 93, 124] c.toNat.toUInt8
def idxB (c : Int) : Int := Lib.indexByte [63, 94, 96, 123, 125] c.toNat.toUInt8
def idxC (c : Int) : Int := Lib.indexByte [32, 34, 60, 62] c.toNat.toUInt8
theorem index_nonneg (l : List UInt8) (b : UInt8) : 0 <= Lib.indexByte l b ↔ b ∈ l := by
 induction l with
 | nil => simp [Lib.indexByte]
 | cons a l ih =>
  have hge := Lib.indexByte_ge l b
  unfold Lib.indexByte
  by_cases h : a = b
  ·simp [h]
  ·have h2 : (a == b) = false := by simpa using h
   have h3 : ¬ b = a := fun e => h e.symm
   rw [h2]
   by_cases h4 : Lib.indexByte l b = -1
   ·have : b ∉ l := by rw [<- ih, h4]; decide
    simp [h4, h3, this]
   ·have : b ∈ l := by rw [<- ih]; omega
    simp [h4, this]; omega
theorem byte_eq (c : Int) (h0 : 0 <= c) (h1 : c <= 255) (k : Nat) (hk : k < 256) : c.toNat.toUInt8 = UInt8.ofNat k ↔ c = (k : Int) := by
 obtain ⟨n, rfl⟩ := Int.eq_ofNat_of_zero_le h0
 rw [Int.toNat_natCast]
 constructor
 ·intro h
  have := congrArg UInt8.toNat h
  simp at this
  omega
 ·intro h
  have : n = k := by omega
  subst this; rfl
theorem idxA_nonneg (c : Int) (h0 : 0 <= c) (h1 : c <= 255) : 0 <= idxA c ↔ (c = 47 ∨ c = 58 ∨ c = 59 ∨ c = 61 ∨ c = 64 ∨ c = 91 ∨ c = 92 ∨ c = 93 ∨ c = 124) := by
 have e := fun k hk => byte_eq c h0 h1 k hk
 unfold idxA
 rw [index_nonneg]
 simp only [List.mem_cons, List.not_mem_nil, or_false]
 rw [show (47 : UInt8) = UInt8.ofNat 47 from rfl, show (58 : UInt8) = UInt8.ofNat 58 from rfl, show (59 : UInt8) = UInt8.ofNat 59 from rfl, show (61 : UInt8) = UInt8.ofNat 61 from rfl, show (64 : UInt8) = UInt8.ofNat 64 from rfl,
  show (91 : UInt8) = UInt8.ofNat 91 from rfl, show (92 : UInt8) = UInt8.ofNat 92 from rfl, show (93 : UInt8) = UInt8.ofNat 93 from rfl, show (124 : UInt8) = UInt8.ofNat 124 from rfl]
 rw [e 47 (by omega), e 58 (by omega), e 59 (by omega), e 61 (by omega), e 64 (by omega), e 91 (by omega), e 92 (by omega), e 93 (by omega), e 124 (by omega)]
 simp
theorem idxB_nonneg (c : Int) (h0 : 0 <= c) (h1 : c <= 255) : 0 <= idxB c ↔ (c = 63 ∨ c = 94 ∨ c = 96 ∨ c = 123 ∨ c = 125) := by
 have e := fun k hk => byte_eq c h0 h1 k hk
 unfold idxB
 rw [index_nonneg]
 simp only [List.mem_cons, List.not_mem_nil, or_false]
 rw [show (63 : UInt8) = UInt8.ofNat 63 from rfl, show (94 : UInt8) = UInt8.ofNat 94 from rfl, show (96 : UInt8) = UInt8.ofNat 96 from rfl, show (123 : UInt8) = UInt8.ofNat 123 from rfl, show (125 : UInt8) = UInt8.ofNat 125 from rfl]
 rw [e 63 (by omega), e 94 (by omega), e 96 (by omega), e 123 (by omega), e 125 (by omega)]
 simp
theorem idxC_nonneg (c : Int) (h0 : 0 <= c) (h1 : c <= 255) : 0 <= idxC c ↔ (c = 32 ∨ c = 34 ∨ c = 60 ∨ c = 62) := by
 have e := fun k hk => byte_eq c h0 h1 k hk
 unfold idxC
 rw [index_nonneg]
 simp only [List.mem_cons, List.not_mem_nil, or_false]
 rw [show (32 : UInt8) = UInt8.ofNat 32 from rfl, show (34 : UInt8) = UInt8.ofNat 34 from rfl, show (60 : UInt8) = UInt8.ofNat 60 from rfl, show (62 : UInt8) = UInt8.ofNat 62 from rfl]
 rw [e 32 (by omega), e 34 (by omega), e 60 (by omega), e 62 (by omega)]
 simp
abbrev inSetP (c set : Int) : Prop :=
 (1 <= set /\ set <= 6) /\ (c < 32 ∨ 126 < c ∨ (2 <= set /\ (c = 32 ∨ c = 34 ∨ c = 60 ∨ c = 62)) ∨ (set = 2 /\ c = 96) ∨ (3 <= set /\ c = 35) ∨ (set = 4 /\ c = 39) ∨ (5 <= set /\ (c = 63 ∨ c = 94 ∨ c = 96 ∨ c = 123 ∨ c = 125)) ∨
  (set = 6 /\ (c = 47 ∨ c = 58 ∨ c = 59 ∨ c = 61 ∨ c = 64 ∨ c = 91 ∨ c = 92 ∨ c = 93 ∨ c = 124)))
def inSetI (c set : Int) : Bool := decide (inSetP c set)
theorem inSetI_iff (c set : Int) : inSetI c set = true ↔ inSetP c set := by unfold inSetI; exact decide_eq_true_iff
def hexD (n : Nat) : UInt8 := if n < 10 then UInt8.ofNat (48 + n) else UInt8.ofNat (55 + n)
theorem hexD_at (n : Nat) (h : n < (ByteArray.mk #[48, 49, 50, 51, 52, 53, 54, 55, 56, 57, 65, 66, 67, 68, 69, 70]).size) : (ByteArray.mk #[48, 49, 50, 51, 52, 53, 54, 55, 56, 57, 65, 66, 67, 68, 69, 70])[n] = hexD n := by
 have h16 : n < 16 := h
 rcases (show n = 0 ∨ n = 1 ∨ n = 2 ∨ n = 3 ∨ n = 4 ∨ n = 5 ∨ n = 6 ∨ n = 7 ∨ n = 8 ∨ n = 9 ∨ n = 10 ∨ n = 11 ∨ n = 12 ∨ n = 13 ∨ n = 14 ∨ n = 15 from by omega) with
  rfl | rfl | rfl | rfl | rfl | rfl | rfl | rfl | rfl | rfl | rfl | rfl | rfl | rfl | rfl | rfl <;> rfl
theorem and15 (n : Nat) (h : n < 256) : bits .and .u8 (n : Int) 15 = (n : Int) % 16 := by
 have := u8_and_nat n 15 h (by omega)
 rw [nat_mask4] at this
 simpa using this
def esc (c : UInt8) : List UInt8 := [37, hexD (c.toNat / 16), hexD (c.toNat % 16)]
def pct1 (set : Int) (c : UInt8) : List UInt8 := if inSetI c.toNat set then esc c else [c]
def pct (set : Int) (l : List UInt8) : List UInt8 := l.flatMap (pct1 set)
theorem pct1_le (set : Int) (c : UInt8) : (pct1 set c).length <= 3 := by unfold pct1 esc; split <;> simp
theorem pct_snoc (set : Int) (l : List UInt8) (c : UInt8) : pct set (l ++ [c]) = pct set l ++ pct1 set c := by simp [pct]
theorem pct_le (set : Int) (l : List UInt8) : (pct set l).length <= 3 * l.length := by
 induction l with
 | nil => simp [pct]
 | cons c l ih =>
  have h1 := pct1_le set c
  have h2 : pct set (c :: l) = pct1 set c ++ pct set l := by simp [pct]
  rw [h2]; simp; omega
def pcd (l : List UInt8) : UInt8 × Bool :=
 match l with
 | 37 :: a :: b :: _ => if is16I a.toNat && is16I b.toNat then (UInt8.ofNat (val16I a.toNat * 16 + val16I b.toNat).toNat, true) else (37, false)
 | c :: _ => (c, false)
 | [] => (0, false)
def unpctN : Nat -> List UInt8 -> List UInt8
 | 0, _ => []
 | _ + 1, [] => []
 | f + 1, c :: l => (pcd (c :: l)).1 :: unpctN f (if (pcd (c :: l)).2 then l.drop 2 else l)
def unpct (l : List UInt8) : List UInt8 := unpctN l.length l
theorem list_one (s : ByteArray) (h : 0 < s.size) : ∃ r, s.data.toList = s[0] :: r := by
 have h' : 0 < s.data.toList.length := by simpa using h
 match hl : s.data.toList, h' with
 | a :: r, _ =>
  refine ⟨r, ?_⟩
  have e : s[0] = s.data.toList[0]'(by rw [hl]; simp) := rfl
  rw [e]; simp [hl]
theorem list_three (s : ByteArray) (h : 2 < s.size) : ∃ r, s.data.toList = s[0] :: s[1] :: s[2] :: r := by
 have h' : 2 < s.data.toList.length := by simpa using h
 match hl : s.data.toList, h' with
 | a :: b :: c :: r, _ =>
  refine ⟨r, ?_⟩
  have e0 : s[0] = s.data.toList[0]'(by rw [hl]; simp) := rfl
  have e1 : s[1] = s.data.toList[1]'(by rw [hl]; simp) := rfl
  have e2 : s[2] = s.data.toList[2]'(by rw [hl]; simp) := rfl
  rw [e0, e1, e2]; simp [hl]
theorem pcd_short (l : List UInt8) (c : UInt8) (h : (c :: l).length < 3) : pcd (c :: l) = (c, false) := by
 match l, h with
 | [], _ => unfold pcd; split <;> simp_all
 | [a], _ => unfold pcd; split <;> simp_all
theorem pcd_other (l : List UInt8) (c : UInt8) (h : c ≠ 37) : pcd (c :: l) = (c, false) := by
 unfold pcd; split <;> simp_all
theorem pcd_three (a b : UInt8) (l : List UInt8) : pcd (37 :: a :: b :: l) = if is16I a.toNat && is16I b.toNat then (UInt8.ofNat (val16I a.toNat * 16 + val16I b.toNat).toNat, true) else (37, false) := rfl
theorem val16_lt (c : Int) : 0 <= val16I c /\ val16I c < 16 := by unfold val16I; split <;> (try split) <;> (try split) <;> omega
theorem or16 (a b : Int) : bits .or .u8 (val16I a * 16) (val16I b) = ((UInt8.ofNat (val16I a * 16 + val16I b).toNat).toNat : Int) := by
 have ha := val16_lt a
 have hb := val16_lt b
 obtain ⟨x, hx⟩ := Int.eq_ofNat_of_zero_le ha.1
 obtain ⟨y, hy⟩ := Int.eq_ofNat_of_zero_le hb.1
 rw [hx, hy]
 have e : (x : Int) * 16 = ((x * 16 : Nat) : Int) := by omega
 have e2 : ((x : Int) * 16 + y).toNat = x * 16 + y := by omega
 rw [e2, e, u8_or_nat _ _ (by omega) (by omega), nat_join 4 _ _ (by omega) (by omega)]
 have : (UInt8.ofNat (x * 16 + y)).toNat = (x * 16 + y) % 256 := by simp
 rw [this]
 congr 1
 omega
theorem unpctN_fuel (f : Nat) : ∀ (g : Nat) (l : List UInt8), l.length <= f -> l.length <= g -> unpctN f l = unpctN g l := by
 induction f with
 | zero =>
  intro g l h _
  have : l = [] := List.eq_nil_of_length_eq_zero (by omega)
  subst this
  cases g <;> rfl
 | succ f ih =>
  intro g l h hg
  match l, g, h, hg with
  | [], g, _, _ => cases g <;> rfl
  | c :: l, 0, _, hg => simp at hg
  | c :: l, g + 1, h, hg =>
   simp only [List.length_cons] at h hg
   show _ :: unpctN f _ = _ :: unpctN g _
   rw [ih g _ ?_ ?_]
   ·split
    ·simp; omega
    ·omega
   ·split
    ·simp; omega
    ·omega
theorem unpct_cons (c : UInt8) (l : List UInt8) : unpct (c :: l) = (pcd (c :: l)).1 :: unpct (if (pcd (c :: l)).2 then l.drop 2 else l) := by
 show _ :: unpctN l.length _ = _
 unfold unpct
 rw [unpctN_fuel l.length _ _ ?_ (Nat.le_refl _)]
 split
 ·simp
 ·omega
theorem pcd_len (l : List UInt8) (h : (pcd l).2 = true) : 3 <= l.length := by
 unfold pcd at h
 split at h
 ·simp
 ·simp at h
 ·simp at h
theorem drop_cons (s : ByteArray) (k : Nat) (h : k < s.size) : s.data.toList.drop k = s[k] :: s.data.toList.drop (k + 1) := by
 rw [List.drop_eq_getElem_cons (by simpa using h)]; rfl
theorem drop_none (s : ByteArray) (k : Nat) (h : ¬ k < s.size) : s.data.toList.drop k = [] := List.drop_eq_nil_iff.2 (by simp; omega)
theorem extract_drop (s : ByteArray) (k : Nat) : (s.extract k s.size).data.toList = s.data.toList.drop k := by
 rw [Lib.extract_data, List.take_of_length_le (by simp)]
open Go.RowKit
def rowIs (w : World) (g : Nat) (e : TypeId) (l : List UInt8) : Prop :=
 ∃ (C : Array Value) (fz : Nat × Nat), w.heap[g]? = some (.cells C e fz) /\ l.length <= fz.1 /\ ∀ j (h : j < l.length), C[j]? = some (.int .u8 (l[j].toNat : Int))
theorem rowIs.cell {w : World} {g : Nat} {e : TypeId} {l : List UInt8} (h : rowIs w g e l) (j : Nat) (hj : j < l.length) : w.cell? ⟨g, j, none⟩ = some (.int .u8 (l[j].toNat : Int)) := by
 obtain ⟨C, fz, hg, _, hc⟩ := h
 rw [Lib.cell_of_heap hg]; exact hc j hj
theorem rowIs.frozen {w : World} {g : Nat} {e : TypeId} {l : List UInt8} (h : rowIs w g e l) (j : Nat) (hj : j < l.length) : w.frozen? ⟨g, j, none⟩ = false := by
 obtain ⟨C, fz, hg, hf, _⟩ := h
 simp [World.frozen?, hg]
 omega
theorem rowIs.set {w : World} {g : Nat} {e : TypeId} {l : List UInt8} (h : rowIs w g e l) (j : Nat) (c : UInt8) : rowIs (w.setCell ⟨g, j, none⟩ (.int .u8 (c.toNat : Int))) g e (l.set j c) := by
 obtain ⟨C, fz, hg, hf, hc⟩ := h
 refine ⟨_, fz, Lib.heap_setCell_same hg _, by simpa using hf, ?_⟩
 intro i hi
 have hi' : i < l.length := by simpa using hi
 have hCi := hc i hi'
 have hlt : i < C.size := (Array.getElem?_eq_some_iff.1 hCi).1
 by_cases e : j = i
 ·subst e; simp [hlt]
 ·simp [Array.getElem?_setIfInBounds, e, hCi]
theorem rowIs_bytes (w : World) (e : TypeId) (s : ByteArray) (cap : Nat) (hcap : s.size <= cap) : rowIs (w.drew.alloc (.cells (bytesRow s cap) e ((bytesRow s cap).size, (bytesRow s cap).size + 1))) w.heap.size e s.data.toList := by
 refine ⟨_, _, heap_alloc_new w.drew _, ?_, ?_⟩
 ·simp [bytesRow]
 ·intro j hj
  have hj' : j < s.data.size := by simpa using hj
  rw [bytesRow_at s cap j hj']
  simp
theorem rowIs.string {P : Program} {w : World} {g cap : Nat} {e src dst : TypeId} {l : List UInt8} (h : rowIs w g e l) (hs : P.underlying src = some (.slice e)) (he : P.underlying e = some (.int .u8)) (hd : P.underlying dst = some .string) :
  (convert src dst (.slice (some ⟨g, 0, none⟩) l.length cap)).run P w = .ok (.string ⟨l.toArray⟩) w := by
 refine run_convert_bytes_back w src dst e ⟨g, 0, none⟩ cap l hs he hd fun j hj => ?_
 have := h.cell j hj
 rw [Addr.add_lit]
 simpa using this
def lowC (c : UInt8) : UInt8 := if 65 <= c.toNat /\ c.toNat <= 90 then UInt8.ofNat (c.toNat + 32) else c
def low (l : List UInt8) : List UInt8 := l.map lowC
theorem lowC_yes (c : UInt8) (h : 65 <= c.toNat /\ c.toNat <= 90) : ((lowC c).toNat : Int) = (c.toNat : Int) + 32 := by
 unfold lowC; rw [if_pos h]
 have : (UInt8.ofNat (c.toNat + 32)).toNat = (c.toNat + 32) % 256 := by simp
 rw [this]; omega
theorem lowC_no (c : UInt8) (h : ¬ (65 <= c.toNat /\ c.toNat <= 90)) : lowC c = c := by unfold lowC; rw [if_neg h]
def lowTo (l : List UInt8) (k : Nat) : List UInt8 := (l.take k).map lowC ++ l.drop k
theorem lowTo_length (l : List UInt8) (k : Nat) : (lowTo l k).length = l.length := by simp [lowTo]; omega
theorem lowTo_at (l : List UInt8) (k : Nat) (h : k < l.length) (h' : k < (lowTo l k).length) : (lowTo l k)[k] = l[k] := by
 simp [lowTo, List.getElem_append, List.length_take]
 have : min k l.length = k := by omega
 simp [this]
theorem lowTo_succ (l : List UInt8) (k : Nat) (h : k < l.length) : lowTo l (k + 1) = (lowTo l k).set k (lowC l[k]) := by
 have e1 : (l.take k).length = k := by simp; omega
 unfold lowTo
 rw [List.take_succ_eq_append_getElem h, List.drop_eq_getElem_cons h, List.map_append, List.set_append_right _ _ (by simp; omega)]
 have e2 : k - (List.map lowC (List.take k l)).length = 0 := by simp; omega
 rw [e2, List.append_assoc]; rfl
theorem lowTo_zero (l : List UInt8) : lowTo l 0 = l := by simp [lowTo]
theorem lowTo_all (l : List UInt8) : lowTo l l.length = low l := by simp [lowTo, low]
def forbL : List UInt8 := [0, 9, 10, 13, 32, 35, 47, 58, 60, 62, 63, 64, 91, 92, 93, 94, 124]
def forb (c : UInt8) : Bool := decide (0 <= Lib.indexByte forbL c)
def dig16 (c : UInt8) : Nat :=
 if 48 <= c.toNat /\ c.toNat <= 57 then c.toNat - 48 else if 97 <= c.toNat /\ c.toNat <= 102 then c.toNat - 87 else if 65 <= c.toNat /\ c.toNat <= 70 then c.toNat - 55 else 16
def valN (base : Nat) : Nat -> List UInt8 -> Option Nat
 | n, [] => some n
 | n, c :: l => if dig16 c < base then valN base (min (n * base + dig16 c) 4294967296) l else none
def valV (base : Nat) (l : List UInt8) : Option Nat := valN base 0 l
def marked (l : List UInt8) : Bool := Lib.hasPrefix l [48, 120] || Lib.hasPrefix l [48, 88]
def numV (l : List UInt8) : Option Nat :=
 if marked l then valV 16 (l.drop 2)
 else match l with
  | [] => none
  | c :: r => if c = 48 then valV 8 r else valV 10 (c :: r)
def fourN : Nat -> Nat -> List UInt8 -> Option Nat
 | 0, _, _ => none
 | r + 1, high, rest =>
  match numV (Lib.cut rest [46]).1 with
  | none => none
  | some n =>
   if (Lib.cut rest [46]).2.2 then (if 255 < n then none else fourN r (high * 256 + n) (Lib.cut rest [46]).2.1)
   else if n < 2 ^ (8 * (r + 1)) then some (high * 2 ^ (8 * (r + 1)) + n) else none
def noDot (l : List UInt8) : List UInt8 := Lib.trimSuffix l [46]
def fourV (l : List UInt8) : Option Nat := fourN 4 0 (noDot l)
def lastLab (l : List UInt8) : List UInt8 := (l.reverse.takeWhile (· != 46)).reverse
def numberedV (l : List UInt8) : Bool :=
 if marked (lastLab (noDot l)) then (valV 16 ((lastLab (noDot l)).drop 2)).isSome
 else decide (lastLab (noDot l) ≠ []) && (valV 10 (lastLab (noDot l))).isSome
def dec8 (n : Nat) : List UInt8 :=
 if n < 10 then [UInt8.ofNat (48 + n)] else if n < 100 then [UInt8.ofNat (48 + n / 10), UInt8.ofNat (48 + n % 10)] else [UInt8.ofNat (48 + n / 100), UInt8.ofNat (48 + n / 10 % 10), UInt8.ofNat (48 + n % 10)]
def text4 (n : Nat) : List UInt8 := dec8 (n / 16777216 % 256) ++ 46 :: (dec8 (n / 65536 % 256) ++ 46 :: (dec8 (n / 256 % 256) ++ 46 :: dec8 (n % 256)))
def plainB (l : List UInt8) : Option Nat :=
 match valV 10 l with
 | none => none
 | some n => if 255 < n ∨ l = [] ∨ (l.head? = some 48 /\ l ≠ [48]) then none else some n
def dotN : Nat -> Nat -> List UInt8 -> Option Nat
 | 0, n, _ => some n
 | r + 1, n, rest =>
  match plainB (Lib.cut rest [46]).1 with
  | none => none
  | some b => if (Lib.cut rest [46]).2.2 = decide (r ≠ 0) then dotN r (n * 256 + b) (Lib.cut rest [46]).2.1 else none
def dottedV (l : List UInt8) : Option Nat := dotN 4 0 l
def scanP (whole : Option Nat) (last : Bool) : Nat -> Nat -> List UInt8 -> Option (List Nat)
 | i, n, [] => if i = 0 then none else some [n]
 | i, n, c :: l =>
  if c = 46 /\ last = true then whole.map fun m => [m / 65536, m % 65536]
  else if dig16 c < 16 /\ i ≠ 4 then scanP whole last (i + 1) (n * 16 + dig16 c) l else none
def pieceV (last : Bool) (p : List UInt8) : Option (List Nat) := scanP (dottedV p) last 0 0 p
def piecesN (atEnd : Bool) : Nat -> List Nat -> List UInt8 -> Bool -> Option (List Nat)
 | _, out, _, false => some out
 | 0, _, _, true => none
 | f + 1, out, rest, true =>
  match pieceV (atEnd && !(Lib.cut rest [58]).2.2) (Lib.cut rest [58]).1 with
  | none => none
  | some ns => piecesN atEnd f (out ++ ns) (Lib.cut rest [58]).2.1 (Lib.cut rest [58]).2.2
def piecesV (l : List UInt8) (atEnd : Bool) : Option (List Nat) := piecesN atEnd 8 [] l (decide (l ≠ []))
def sixV (l : List UInt8) : Option (List Nat) :=
 match piecesV (Lib.cut l [58, 58]).1 (!(Lib.cut l [58, 58]).2.2), piecesV (Lib.cut l [58, 58]).2.1 true with
 | some a, some b =>
  if a.length + b.length <= 8 /\ ((Lib.cut l [58, 58]).2.2 = true ↔ a.length + b.length < 8) then some (a ++ List.replicate (8 - a.length - b.length) 0 ++ b) else none
 | _, _ => none
def digC (n : Nat) : UInt8 := if n < 10 then UInt8.ofNat (48 + n) else UInt8.ofNat (87 + n)
def digsN (base : Nat) : Nat -> Nat -> List UInt8 -> List UInt8
 | 0, _, acc => acc
 | f + 1, n, acc => if n < base then digC n :: acc else digsN base f (n / base) (digC (n % base) :: acc)
def hex16 (n : Nat) : List UInt8 := digsN 16 4 n []
def zeros : List Nat -> Nat
 | [] => 0
 | n :: l => if n = 0 then zeros l + 1 else 0
def lrunN : Nat -> Nat -> Nat -> Nat -> List Nat -> Nat × Nat
 | _, _, fr, tu, [] => (fr, tu)
 | f, i, fr, tu, n :: l =>
  if max (tu - fr) 1 < zeros (n :: l) then lrunN f (i + 1) i (i + zeros (n :: l)) l else lrunN f (i + 1) fr tu l
def lrun (x : List Nat) : Nat × Nat := lrunN 0 0 0 0 x
def joined (x : List Nat) : List UInt8 := Lib.join (x.map hex16) [58]
def text6 (x : List Nat) : List UInt8 :=
 if (lrun x).1 = (lrun x).2 then joined x else joined (x.take (lrun x).1) ++ ([58, 58] ++ joined (x.drop (lrun x).2))
def nameB (c : UInt8) : Bool := !(decide (c.toNat < 33) || (decide (126 < c.toNat) || (c == 37 || forb c)))
def coded (l : List UInt8) : Bool := Lib.hasPrefix l [120, 110, 45, 45] || Lib.contains l [46, 120, 110, 45, 45]
def allN (l : List UInt8) : Bool := l.all nameB
def nameV (l : List UInt8) : Option (List UInt8) :=
 if l = [] ∨ allN l = false ∨ coded l = true then none
 else if numberedV l then (fourV l).map text4 else some l
def otherV (l : List UInt8) : Option (List UInt8) := if l.any forb then none else some (pct 1 l)
def bracketV (l : List UInt8) : Option (List UInt8) :=
 if Lib.hasSuffix l [93] then (sixV (Lib.trimSuffix l [93])).map fun x => 91 :: (text6 x ++ [93]) else none
def parseV (l : List UInt8) (special : Bool) : Option (List UInt8) :=
 if Lib.hasPrefix l [91] then bracketV (l.drop 1) else if special then nameV (low (unpct l)) else otherV l
theorem dig16_le (c : UInt8) : dig16 c <= 16 := by
 unfold dig16; split
 ·omega
 ·split
  ·omega
  ·split <;> omega
theorem ret_u64b {a b : Int} {x y : Bool} (h : a = b) (g : x = y) : Ending.returned (.tuple #[.int .u64 a, .bool x]) = .returned (.tuple #[.int .u64 b, .bool y]) := by rw [h, g]
def digR (base : Nat) (c : UInt8) : Nat := if dig16 c < base then dig16 c else 0
def digOk (base : Nat) (c : UInt8) : Bool := decide (dig16 c < base)
theorem dig16_cases (c : UInt8) : (48 <= c.toNat /\ c.toNat <= 57 /\ dig16 c = c.toNat - 48) ∨ (97 <= c.toNat /\ c.toNat <= 102 /\ dig16 c = c.toNat - 87) ∨ (65 <= c.toNat /\ c.toNat <= 70 /\ dig16 c = c.toNat - 55) ∨
  (¬ (48 <= c.toNat /\ c.toNat <= 57) /\ ¬ (97 <= c.toNat /\ c.toNat <= 102) /\ ¬ (65 <= c.toNat /\ c.toNat <= 70) /\ dig16 c = 16) := by
 unfold dig16
 split
 ·omega
 ·split
  ·omega
  ·split <;> omega
theorem dig_yes {base : Nat} {c : UInt8} (h : dig16 c < base) : digR base c = dig16 c /\ digOk base c = true := by simp [digR, digOk, h]
theorem dig_no {base : Nat} {c : UInt8} (h : ¬ dig16 c < base) : digR base c = 0 /\ digOk base c = false := by simp [digR, digOk, h]
theorem ret_dig {a : Int} {x : Bool} {base : Nat} {c : UInt8} (h : (dig16 c < base /\ a = dig16 c /\ x = true) ∨ (¬ dig16 c < base /\ a = 0 /\ x = false)) : Ending.returned (.tuple #[.int .u64 a, .bool x]) = .returned (.tuple #[.int .u64 (digR base c : Nat), .bool (digOk base c)]) := by
 rcases h with ⟨h, rfl, rfl⟩ | ⟨h, rfl, rfl⟩
 ·rw [(dig_yes h).1, (dig_yes h).2]
 ·rw [(dig_no h).1, (dig_no h).2]; rfl
theorem hdigit_any (c : UInt8) (base : Nat) (w : World) (hb : base <= 16) :
  Calls Tryz.prog 298 #[.int .u8 c.toNat, .int .u64 base] w fun e w' => e = .returned (.tuple #[.int .u64 (digR base c : Nat), .bool (digOk base c)]) /\ w = w' := by
 have hc : c.toNat < 256 := c.toNat_lt
 have HD := hid (dig16_cases c)
 go_enter Tryz.func298, Tryz.ntmps298
 go_wp2
 all_goals
  go_ret2
  refine ⟨ret_dig ?_, rfl⟩
  have hd := HD.out
  clear HD
  first
   | (left; refine ⟨by omega, by omega, rfl⟩)
   | (right; refine ⟨by omega, by omega, rfl⟩)
theorem valueOf_any (s : ByteArray) (base : Nat) (w : World) (hb : base <= 16) (hs : s.size <= 140737488351232) :
  Calls Tryz.prog 301 #[.string s, .int .u64 base] w fun e w' => e = .returned (.tuple #[.int .u64 ((valV base s.data.toList).getD 0 : Nat), .bool (valV base s.data.toList).isSome]) /\ w = w' := by
 go_enter Tryz.func301, Tryz.ntmps301
 go_wp2
 go_loop [6, 12] (fun n i => ∃ k m : Nat, k <= s.size /\ i = .int .i64 k /\ n = .int .u64 m /\ m <= 4294967296 /\ valN base m (s.data.toList.drop k) = valV base s.data.toList) (fun _ i => s.size - (intOf i).toNat)
 case atStart => exact ⟨0, 0, Nat.zero_le _, rfl, rfl, by omega, rfl⟩
 case round =>
  obtain ⟨k, m, hk, rfl, rfl, hm, hv⟩ := hrel
  have HV := hid hv
  clear hv
  by_cases hlt : k < s.size
  ·have HD := hid (drop_cons s k hlt)
   have h16 := dig16_le s[k]
   by_cases hd : dig16 s[k] < base
   ·have h1 := (dig_yes hd).1
    have h2 := (dig_yes hd).2
    have hmb : m * base <= 4294967296 * 16 := Nat.mul_le_mul hm hb
    have HN := hid (show valN base (min (m * base + dig16 s[k]) 4294967296) (s.data.toList.drop (k + 1)) = valV base s.data.toList by
     rw [<- HV.out, HD.out, valN, if_pos hd])
    have hp : (m : Int) * (base : Int) = ((m * base : Nat) : Int) := (Int.natCast_mul m base).symm
    generalize m * base = p at hp hmb HN
    by_cases hle : p + dig16 s[k] <= 4294967296
    ·have hmin : min (p + dig16 s[k]) 4294967296 = p + dig16 s[k] := by omega
     rw [hmin] at HN
     clear hmin
     go_wp2_with (go_at_call 298; refine (hdigit_any _ _ _ hb).mono ?_; rintro e w' ⟨rfl, rfl⟩; rw [h1, h2])
     go_round
     case rel => exact ⟨k + 1, p + dig16 s[k], by omega, by go_num, by go_num, hle, HN.out⟩
     case measure => simp [intOf]; omega
    ·have hmin : min (p + dig16 s[k]) 4294967296 = 4294967296 := by omega
     rw [hmin] at HN
     clear hmin
     go_wp2_with (go_at_call 298; refine (hdigit_any _ _ _ hb).mono ?_; rintro e w' ⟨rfl, rfl⟩; rw [h1, h2])
     go_round
     case rel => exact ⟨k + 1, 4294967296, by omega, by go_num, by go_num, by omega, HN.out⟩
     case measure => simp [intOf]; omega
   ·have h1 := (dig_no hd).1
    have h2 := (dig_no hd).2
    have HN := hid (show valV base s.data.toList = none by rw [<- HV.out, HD.out, valN, if_neg hd])
    go_wp2_with (go_at_call 298; refine (hdigit_any _ _ _ hb).mono ?_; rintro e w' ⟨rfl, rfl⟩; rw [h1, h2])
    go_ret2
    exact ⟨ret_u64b (by rw [HN.out]; rfl) (by rw [HN.out]; rfl), rfl⟩
  ·have HN := hid (show valV base s.data.toList = some m by rw [<- HV.out, drop_none s k hlt, valN])
   go_wp2
   go_ret2
   exact ⟨ret_u64b (by rw [HN.out]; rfl) (by rw [HN.out]; rfl), rfl⟩
theorem digitsAlone_any (s : ByteArray) (base : Nat) (w : World) (hb : base <= 16) (hs : s.size <= 140737488351232) :
  Calls Tryz.prog 294 #[.string s, .int .u64 base] w fun e w' => e = .returned (.bool (valV base s.data.toList).isSome) /\ w = w' := by
 go_enter Tryz.func294, Tryz.ntmps294
 go_wp2_with (go_at_call 301; refine (valueOf_any _ _ _ hb hs).mono ?_; rintro e w' ⟨rfl, rfl⟩)
 go_ret
 exact ⟨rfl, rfl⟩
theorem valueOf_l (s : ByteArray) (l : List UInt8) (base : Nat) (w : World) (hl : s.data.toList = l) (hb : base <= 16) (hs : s.size <= 140737488351232) :
  Calls Tryz.prog 301 #[.string s, .int .u64 base] w fun e w' => e = .returned (.tuple #[.int .u64 ((valV base l).getD 0 : Nat), .bool (valV base l).isSome]) /\ w = w' := by
 subst hl; exact valueOf_any s base w hb hs
theorem digitsAlone_l (s : ByteArray) (l : List UInt8) (base : Nat) (w : World) (hl : s.data.toList = l) (hb : base <= 16) (hs : s.size <= 140737488351232) :
  Calls Tryz.prog 294 #[.string s, .int .u64 base] w fun e w' => e = .returned (.bool (valV base l).isSome) /\ w = w' := by
 subst hl; exact digitsAlone_any s base w hb hs
theorem ba_ext {a : ByteArray} {l : List UInt8} (h : a.data.toList = l) : a = ⟨l.toArray⟩ := by
 subst h; exact (Lib.mk_data a).symm
theorem lastLab_none (l : List UInt8) (h : ∀ c ∈ l, c ≠ 46) : lastLab l = l := by
 unfold lastLab
 have e := List.takeWhile_append_of_pos (p := fun x : UInt8 => x != 46) (l₁ := l.reverse) (l₂ := []) (by intro c hc; have := h c (by simpa using hc); simpa using this)
 rw [List.append_nil] at e
 rw [e]
 simp
theorem lastLab_some (a l : List UInt8) (h : ∀ c ∈ l, c ≠ 46) : lastLab (a ++ 46 :: l) = l := by
 unfold lastLab
 have e : (a ++ 46 :: l).reverse = l.reverse ++ 46 :: a.reverse := by simp
 rw [e, List.takeWhile_append_of_pos (by intro c hc; have := h c (by simpa using hc); simpa using this)]
 simp
theorem bang_at (s : ByteArray) (j : Nat) (h : j < s.size) : s.data[j]! = s.data.toList[j]'(by simpa using h) := by
 have h' : j < s.data.size := h
 rw [getElem!_pos s.data j h']; simp
theorem lastIdx_lab (s : ByteArray) : ∃ k : Nat, k <= s.size /\ Lib.lastIndexByte s 46 = (k : Int) - 1 /\ s.data.toList.drop k = lastLab s.data.toList := by
 have key : ∀ k : Nat, k <= s.size -> (∀ j, k <= j -> j < s.size -> ((s.data[j]!).toNat : Int) ≠ 46) -> ∀ c ∈ s.data.toList.drop k, c ≠ 46 := by
  intro k hk h c hc
  obtain ⟨i, hi, rfl⟩ := List.getElem_of_mem hc
  have hi' : k + i < s.size := by simp at hi; omega
  have := h (k + i) (by omega) hi'
  rw [bang_at s _ hi'] at this
  intro e
  apply this
  rw [List.getElem_drop] at e
  rw [e]; rfl
 rcases Lib.lastIdx_spec s 46 s.size with ⟨h1, h2⟩ | ⟨i, hi, h1, h2, h3⟩
 ·refine ⟨0, Nat.zero_le _, h1, ?_⟩
  have := key 0 (Nat.zero_le _) (fun j _ hj => h2 j hj)
  rw [List.drop_zero] at this ⊢
  exact (lastLab_none _ this).symm
 ·refine ⟨i + 1, hi, by show Lib.lastIdx s 46 s.size = _; rw [h1]; omega, ?_⟩
  have hn := key (i + 1) hi (fun j hj hj' => h3 j (by omega) hj')
  rw [bang_at s i hi] at h2
  have h46 : s.data.toList[i]'(by simpa using hi) = 46 := by
   apply UInt8.toNat_inj.1
   have : (46 : UInt8).toNat = 46 := rfl
   omega
  have e : s.data.toList = s.data.toList.take i ++ 46 :: s.data.toList.drop (i + 1) := by
   rw [<- h46, <- List.drop_eq_getElem_cons (by simpa using hi), List.take_append_drop]
  conv => rhs; rw [e]
  exact (lastLab_some _ _ hn).symm
def er {α : Type} (o : Option α) : Int := match o with | some _ => 0 | none => 10
theorem er_some {α : Type} {o : Option α} {x : α} (h : o = some x) : er o = 0 := by rw [h]; rfl
theorem er_none {α : Type} {o : Option α} (h : o = none) : er o = 10 := by rw [h]; rfl
theorem noDot_le (l : List UInt8) : (noDot l).length <= l.length := Lib.trimSuffix_le _ _
theorem cut_le (l sep : List UInt8) : (Lib.cut l sep).1.length <= l.length /\ (Lib.cut l sep).2.1.length <= l.length := by
 unfold Lib.cut
 split
 ·simp
  omega
 ·simp
end Go.Proofs.YtooihpkoplgmbaaGreatDoor
