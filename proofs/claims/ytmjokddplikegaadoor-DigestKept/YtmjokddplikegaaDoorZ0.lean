/-
  The plain functions of package digest: SHA-2 over natural numbers, for words of 32 and of 64 bits.
  Plain facts about words: bounds, a word's opposite, bytes of words.
  The walks of digest's functions of one word, at 32 bits.
  What a walk is told of a slice of bytes that came in.
  Plain functions on bytes and lists of bytes that the walks of package infra speak of: nothing of the program stands here.
  Plain facts on lists of bytes: base 64 without its blanks and its padding.
  Plain facts: a slice of bytes in memory, and what it reads as; texts decoded as UTF-8.
  Memory: small facts that the walks of package digest lean on.
  The walk of digest's read, at 32 bits.
  Words in memory: a block that holds numbers of one kind; the roots that the package's variables hold.
  Plain facts about the schedule's words and the rounds.
  Slices of bytes: parts of them.
  Parts of a function's code, by name; a way through a part alone.
  Plain facts about the bytes of words.
  Plain facts about what is filled up behind a text.
  The walks of digest.Same and of the law's hex.
  The walks of digest's functions of one word, at 64 bits.
  The walk of digest's read, at 64 bits.
  The walk of the law's hex.
  The walks of ostiarykeep.FewBytes and ostiarybook.Within.
  The walks of strings.Builder's copyCheck, WriteByte over this translation: a builder that holds bs holds bs and the byte behind the call; what lay below the builder, and every other block that is no row of bytes, stands.
  ostiarybook's book of lists of bytes: what it holds in memory; its marks.
  The walks of ostiarybook's Same, Roomy, Intact at bytes.
-/
import Derived.Test.YtmjokddplikegaaDoorProg
import Derived.WalkKit
import Derived.WalkSpells
import Derived.WalkLawsBesides
import Derived.Laws.BitsAll
import Derived.Laws.Shifts
import Derived.Deep.QuietTactic
import Derived.BigQuiet
import Derived.Lib.UnsafeStr
import Derived.Lib.Strings
import Derived.Laws.IdiomStrings
import Derived.Laws.AppendOwn
import Derived.Lib.BufferRead
import Derived.Lib.RuneBytes
import Derived.Laws.RangeAny
import Derived.Laws.CopyOwn
import Derived.Laws.ResultCell
import Derived.Deep.MidRow
import Derived.Lib.LaidTab
import Derived.Lib.SmallJoins
import Derived.BigRegion
import Derived.WalkSmall
import Derived.Lib.FrozenHead2
import Derived.Lib.OthersKept
import Derived.Lib.Builder
import Derived.Deep.RegionLaw
import Derived.Lib.BufferMore
set_option linter.unusedSimpArgs false
set_option linter.unusedVariables false
namespace Go.Proofs.YtmjokddplikegaaDoor
open Go.RowKit

/-- A number that is worked out ahead of what goes on with it. -/
def force {α : Type} (n : Nat) (f : Nat → α) : α := match n with
  | 0 => f 0
  | m + 1 => f (m + 1)
theorem force_eq {α : Type} (n : Nat) (f : Nat → α) : force n f = f n := by cases n <;> rfl

def rotV (W x n : Nat) : Nat := (x / 2 ^ n) ||| (x * 2 ^ (W - n) % 2 ^ W)
def smV (W a b c x : Nat) : Nat := (rotV W x a ^^^ rotV W x b) ^^^ (x / 2 ^ c)
def grV (W a b c x : Nat) : Nat := (rotV W x a ^^^ rotV W x b) ^^^ rotV W x c
def chV (W a b c : Nat) : Nat := (a &&& b) ^^^ ((2 ^ W - 1 - a) &&& c)
def mjV (a b c : Nat) : Nat := ((a &&& b) ^^^ (a &&& c)) ^^^ (b &&& c)

structure Three where
  (a b c : Nat)
/-- What sets words of one size apart from those of the other. -/
structure Kd where
  W : Nat
  R : Nat
  s0 : Three
  s1 : Three
  g0 : Three
  g1 : Three
def nar : Kd := ⟨32, 64, ⟨7, 18, 3⟩, ⟨17, 19, 10⟩, ⟨2, 13, 22⟩, ⟨6, 11, 25⟩⟩
def wid : Kd := ⟨64, 80, ⟨1, 8, 7⟩, ⟨19, 61, 6⟩, ⟨28, 34, 39⟩, ⟨14, 18, 41⟩⟩

def Kd.small0 (k : Kd) (x : Nat) : Nat := smV k.W k.s0.a k.s0.b k.s0.c x
def Kd.small1 (k : Kd) (x : Nat) : Nat := smV k.W k.s1.a k.s1.b k.s1.c x
def Kd.great0 (k : Kd) (x : Nat) : Nat := grV k.W k.g0.a k.g0.b k.g0.c x
def Kd.great1 (k : Kd) (x : Nat) : Nat := grV k.W k.g1.a k.g1.b k.g1.c x

/-- The word that those bytes are, the greatest one first. -/
def beN : Nat → List UInt8 → Nat
  | w, [] => w
  | w, c :: r => beN (w * 256 + c.toNat) r

def wordV (B : Nat) (l : List UInt8) (t : Nat) : Nat := beN 0 ((l.drop (t * B)).take B)
def wordsV (B : Nat) (l : List UInt8) : List Nat := (List.range 16).map (wordV B l)

def nxtV (k : Kd) (w : List Nat) (t : Nat) : Nat := (k.small1 (w.getD (t - 2) 0) + w.getD (t - 7) 0 + k.small0 (w.getD (t - 15) 0) + w.getD (t - 16) 0) % 2 ^ k.W
def extV (k : Kd) : Nat → List Nat → List Nat
  | 0, w => w
  | n + 1, w => force (nxtV k w w.length) fun x => extV k n (w ++ [x])
def schV (k : Kd) (l : List UInt8) : List Nat := extV k (k.R - 16) (wordsV (k.W / 8) l)

structure St where
  (a b c d e f g h : Nat)
def St.list (s : St) : List Nat := [s.a, s.b, s.c, s.d, s.e, s.f, s.g, s.h]

def t1V (k : Kd) (s : St) (K w : Nat) : Nat := (s.h + k.great1 s.e + chV k.W s.e s.f s.g + K + w) % 2 ^ k.W
def t2V (k : Kd) (s : St) : Nat := (k.great0 s.a + mjV s.a s.b s.c) % 2 ^ k.W
def rndV (k : Kd) (s : St) (K w : Nat) : St :=
  force (t1V k s K w) fun t1 => force ((t1 + t2V k s) % 2 ^ k.W) fun x => force ((s.d + t1) % 2 ^ k.W) fun y => ⟨x, s.a, s.b, s.c, y, s.e, s.f, s.g⟩

/-- The rounds, one for each root and word. -/
def rdsV (k : Kd) : List Nat → List Nat → St → St
  | K :: Ks, w :: ws, s => rdsV k Ks ws (rndV k s (K / 2 ^ (64 - k.W)) w)
  | _, _, s => s

def addV (k : Kd) (s v : St) : St :=
  force ((s.a + v.a) % 2 ^ k.W) fun a => force ((s.b + v.b) % 2 ^ k.W) fun b => force ((s.c + v.c) % 2 ^ k.W) fun c => force ((s.d + v.d) % 2 ^ k.W) fun d =>
  force ((s.e + v.e) % 2 ^ k.W) fun e => force ((s.f + v.f) % 2 ^ k.W) fun f => force ((s.g + v.g) % 2 ^ k.W) fun g => force ((s.h + v.h) % 2 ^ k.W) fun h => ⟨a, b, c, d, e, f, g, h⟩

/-- One block is worked into the state; Ks: the roots, 64 bits each. -/
def foldV (k : Kd) (Ks : List Nat) (s : St) (l : List UInt8) : St := addV k s (rdsV k (Ks.take k.R) (schV k l) s)

/-- The whole blocks of a text, of n bytes each. -/
def workV (k : Kd) (Ks : List Nat) (n : Nat) : Nat → St → List UInt8 → St
  | 0, s, _ => s
  | m + 1, s, l => if n ≤ l.length then workV k Ks n m (foldV k Ks s (l.take n)) (l.drop n) else s

/-- A number as n bytes, the greatest one first. -/
def bytesV : Nat → Nat → List UInt8
  | 0, _ => []
  | n + 1, x => bytesV n (x / 256) ++ [UInt8.ofNat (x % 256)]

def Kd.B (k : Kd) : Nat := k.W / 8
def Kd.size (k : Kd) : Nat := 16 * k.B

/-- What a text has behind its whole blocks, filled up to one block or two. -/
def endLen (k : Kd) (n : Nat) : Nat := if n % k.size + 1 + 2 * k.B > k.size then 2 * k.size else k.size
def endV (k : Kd) (l : List UInt8) : List UInt8 :=
  l.drop (l.length - l.length % k.size) ++ 128 :: (List.replicate (endLen k l.length - l.length % k.size - 9) 0 ++ bytesV 8 (l.length * 8))

def stV (k : Kd) (Hs : List Nat) (i : Nat) : Nat := Hs.getD i 0 / 2 ^ (64 - k.W)
def startV (k : Kd) (Hs : List Nat) (f : Nat) : St := ⟨stV k Hs f, stV k Hs (f + 1), stV k Hs (f + 2), stV k Hs (f + 3), stV k Hs (f + 4), stV k Hs (f + 5), stV k Hs (f + 6), stV k Hs (f + 7)⟩

def toldV (k : Kd) (s : St) : List UInt8 := s.list.flatMap (bytesV k.B)

def summedV (k : Kd) (Hs Ks : List Nat) (f size : Nat) (l : List UInt8) : List UInt8 :=
  (toldV k (workV k Ks k.size 2 (workV k Ks k.size (l.length / k.size) (startV k Hs f) l) (endV k l))).take size

def sumV (Hs Ks : List Nat) (bits : Int) (l : List UInt8) : Option (List UInt8) :=
  if bits = 256 then some (summedV nar Hs Ks 0 32 l) else if bits = 384 then some (summedV wid Hs Ks 8 48 l) else if bits = 512 then some (summedV wid Hs Ks 0 64 l) else none

end Go.Proofs.YtmjokddplikegaaDoor

namespace Go.Proofs.YtmjokddplikegaaDoor
open Go.RowKit

theorem not_xor (W a : Nat) (h : a < 2 ^ W) : (2 ^ W - 1) ^^^ a = 2 ^ W - 1 - a := by
  have h1 : (BitVec.allOnes W ^^^ BitVec.ofNat W a).toNat = (~~~ (BitVec.ofNat W a)).toNat := by rw [BitVec.allOnes_xor]
  rw [BitVec.toNat_xor, BitVec.toNat_not, BitVec.toNat_allOnes, BitVec.toNat_ofNat, Nat.mod_eq_of_lt h] at h1
  exact h1

theorem rot_lt {W x n : Nat} (hx : x < 2 ^ W) : rotV W x n < 2 ^ W :=
  Nat.or_lt_two_pow (Nat.lt_of_le_of_lt (Nat.div_le_self _ _) hx) (Nat.mod_lt _ (Nat.two_pow_pos _))
theorem sm_lt {W a b c x : Nat} (hx : x < 2 ^ W) : smV W a b c x < 2 ^ W :=
  Nat.xor_lt_two_pow (Nat.xor_lt_two_pow (rot_lt hx) (rot_lt hx)) (Nat.lt_of_le_of_lt (Nat.div_le_self _ _) hx)
theorem gr_lt {W a b c x : Nat} (hx : x < 2 ^ W) : grV W a b c x < 2 ^ W :=
  Nat.xor_lt_two_pow (Nat.xor_lt_two_pow (rot_lt hx) (rot_lt hx)) (rot_lt hx)
theorem and_lt_l {W a b : Nat} (ha : a < 2 ^ W) : a &&& b < 2 ^ W := Nat.lt_of_le_of_lt Nat.and_le_left ha
theorem ch_lt {W a b c : Nat} (ha : a < 2 ^ W) : chV W a b c < 2 ^ W :=
  Nat.xor_lt_two_pow (and_lt_l ha) (and_lt_l (by have := Nat.two_pow_pos W; omega))
theorem mj_lt {W a b c : Nat} (ha : a < 2 ^ W) (hb : b < 2 ^ W) : mjV a b c < 2 ^ W :=
  Nat.xor_lt_two_pow (Nat.xor_lt_two_pow (and_lt_l ha) (and_lt_l ha)) (and_lt_l hb)

theorem or_byte (x c : Nat) (hc : c < 256) : x * 256 ||| c = x * 256 + c := by
  have := Nat.shiftLeft_add_eq_or_of_lt (i := 8) (b := c) hc x
  rw [Nat.shiftLeft_eq] at this
  exact this.symm

theorem beN_lt : ∀ (l : List UInt8) (w m : Nat), w < 256 ^ m → beN w l < 256 ^ (m + l.length)
  | [], _, _, h => h
  | c :: r, w, m, h => by
    have hc := c.toNat_lt
    have h2 := beN_lt r (w * 256 + c.toNat) (m + 1) (by rw [Nat.pow_succ]; omega)
    rw [beN, List.length_cons, show m + (r.length + 1) = m + 1 + r.length by omega]
    exact h2

end Go.Proofs.YtmjokddplikegaaDoor

namespace Go.Proofs.YtmjokddplikegaaDoor
open Go.RowKit

theorem ret3 {a b : Int} (h : a = b) : Ending.returned (.int .u32 a) = .returned (.int .u32 b) := by rw [h]

theorem max3 : IntKind.max .u32 = ((2 ^ 32 - 1 : Nat) : Int) := by decide

theorem rot3 (x n : Nat) (hx : x < 4294967296) : bits .or .u32 ((x : Int) / 2 ^ n) ((x : Int) * 2 ^ (32 - n) % 4294967296) = ((rotV 32 x n : Nat) : Int) := by
  have e1 : (x : Int) / 2 ^ n = ((x / 2 ^ n : Nat) : Int) := by
    rw [Int.natCast_ediv, Int.natCast_pow]; rfl
  have e2 : (x : Int) * 2 ^ (32 - n) % 4294967296 = ((x * 2 ^ (32 - n) % 4294967296 : Nat) : Int) := by
    rw [Int.natCast_emod, Int.natCast_mul, Int.natCast_pow]; rfl
  rw [e1, e2, u32_or_nat _ _ (Nat.lt_of_le_of_lt (Nat.div_le_self _ _) hx) (Nat.mod_lt _ (by decide))]
  rfl

set_option maxHeartbeats 1000000 in
theorem turned32 (x n : Nat) (w : World) (hx : x < 4294967296) (hn : n < 32) :
    Calls Tryd.prog 59 #[.int .u32 (x : Int), .int .u64 (n : Int), .int .u64 32] w fun e w' => e = .returned (.int .u32 ((rotV 32 x n : Nat) : Int)) ∧ w = w' := by
  go_enter Tryd.func59, Tryd.ntmps59
  go_wp2
  go_ret
  exact ⟨ret3 (rot3 x n hx), rfl⟩

theorem ch3 (a b c : Nat) (ha : a < 4294967296) (hb : b < 4294967296) (hc : c < 4294967296) : bits .xor .u32 (bits .and .u32 (a : Int) (b : Int)) (bits .and .u32 (bits .xor .u32 (IntKind.max .u32) (a : Int)) (c : Int)) = ((chV 32 a b c : Nat) : Int) := by
  rw [max3, u32_xor_nat _ _ (by decide) ha, not_xor 32 a ha, u32_and_nat _ _ ha hb, u32_and_nat _ _ (by omega) hc, u32_xor_nat _ _ (and_lt_l (W := 32) ha) (and_lt_l (W := 32) (by omega))]
  rfl

theorem mj3 (a b c : Nat) (ha : a < 4294967296) (hb : b < 4294967296) (hc : c < 4294967296) : bits .xor .u32 (bits .xor .u32 (bits .and .u32 (a : Int) (b : Int)) (bits .and .u32 (a : Int) (c : Int))) (bits .and .u32 (b : Int) (c : Int)) = ((mjV a b c : Nat) : Int) := by
  rw [u32_and_nat _ _ ha hb, u32_and_nat _ _ ha hc, u32_and_nat _ _ hb hc, u32_xor_nat _ _ (and_lt_l (W := 32) ha) (and_lt_l (W := 32) ha), u32_xor_nat _ _ (Nat.xor_lt_two_pow (n := 32) (and_lt_l (W := 32) ha) (and_lt_l (W := 32) ha)) (and_lt_l (W := 32) hb)]
  rfl

set_option maxHeartbeats 1000000 in
theorem choice32 (a b c : Nat) (w : World) (ha : a < 4294967296) (hb : b < 4294967296) (hc : c < 4294967296) :
    Calls Tryd.prog 51 #[.int .u32 (a : Int), .int .u32 (b : Int), .int .u32 (c : Int)] w fun e w' => e = .returned (.int .u32 ((chV 32 a b c : Nat) : Int)) ∧ w = w' := by
  have hsg : ¬ IntKind.signed .u32 = true := by decide
  go_enter Tryd.func51, Tryd.ntmps51
  go_wp2
  go_ret
  exact ⟨ret3 (ch3 a b c ha hb hc), rfl⟩

set_option maxHeartbeats 1000000 in
theorem majority32 (a b c : Nat) (w : World) (ha : a < 4294967296) (hb : b < 4294967296) (hc : c < 4294967296) :
    Calls Tryd.prog 52 #[.int .u32 (a : Int), .int .u32 (b : Int), .int .u32 (c : Int)] w fun e w' => e = .returned (.int .u32 ((mjV a b c : Nat) : Int)) ∧ w = w' := by
  go_enter Tryd.func52, Tryd.ntmps52
  go_wp2
  go_ret
  exact ⟨ret3 (mj3 a b c ha hb hc), rfl⟩

set_option maxHeartbeats 1000000 in
theorem upper32 (x : Nat) (w : World) (hx : x < 18446744073709551616) :
    Calls Tryd.prog 40 #[.int .u64 (x : Int), .int .u64 32] w fun e w' => e = .returned (.int .u32 ((x / 2 ^ (64 - 32) : Nat) : Int)) ∧ w = w' := by
  go_enter Tryd.func40, Tryd.ntmps40
  go_wp2
  go_ret
  refine ⟨ret3 ?_, rfl⟩
  simp

theorem upper_l32 (x Y : Nat) (w : World) (hx : x < 18446744073709551616) (hY : Y = x / 2 ^ (64 - 32)) :
    Calls Tryd.prog 40 #[.int .u64 (x : Int), .int .u64 32] w fun e w' => e = .returned (.int .u32 (Y : Int)) ∧ w = w' := by subst hY; exact upper32 x w hx

theorem sm3 (x a b c : Nat) (hx : x < 4294967296) : bits .xor .u32 (bits .xor .u32 ((rotV 32 x a : Nat) : Int) ((rotV 32 x b : Nat) : Int)) ((x : Int) / 2 ^ c) = ((smV 32 a b c x : Nat) : Int) := by
  have e1 : (x : Int) / 2 ^ c = ((x / 2 ^ c : Nat) : Int) := by
    rw [Int.natCast_ediv, Int.natCast_pow]; rfl
  rw [e1, u32_xor_nat _ _ (rot_lt (W := 32) hx) (rot_lt (W := 32) hx), u32_xor_nat _ _ (Nat.xor_lt_two_pow (n := 32) (rot_lt (W := 32) hx) (rot_lt (W := 32) hx)) (Nat.lt_of_le_of_lt (Nat.div_le_self _ _) hx)]
  rfl

theorem gr3 (x a b c : Nat) (hx : x < 4294967296) : bits .xor .u32 (bits .xor .u32 ((rotV 32 x a : Nat) : Int) ((rotV 32 x b : Nat) : Int)) ((rotV 32 x c : Nat) : Int) = ((grV 32 a b c x : Nat) : Int) := by
  rw [u32_xor_nat _ _ (rot_lt (W := 32) hx) (rot_lt (W := 32) hx), u32_xor_nat _ _ (Nat.xor_lt_two_pow (n := 32) (rot_lt (W := 32) hx) (rot_lt (W := 32) hx)) (rot_lt (W := 32) hx)]
  rfl

end Go.Proofs.YtmjokddplikegaaDoor

namespace Go.Proofs.YtmjokddplikegaaDoor
open Go.RowKit

/-- It is nil; or it leads to a row of cap cells, the numbers zs (the first len are its elements), each fitting its kind. -/
def IsRow (k : IntKind) (w : World) (a : Option Addr) (len cap : Nat) (zs : List Int) : Prop :=
  (a = none ∧ len = 0 ∧ cap = 0 ∧ zs = []) ∨
  ∃ x, a = some x ∧ len ≤ cap ∧ cap ≤ maxLen ∧ zs.length = cap ∧ (∀ i, i < zs.length → w.cell? (x.add i) = some (.int k (zs.getD i 0))) ∧ ∀ n ∈ zs, (Lit.int k n).wf = true

theorem IsRow.block {k : IntKind} {w : World} {a : Option Addr} {len cap : Nat} {zs : List Int} (h : IsRow k w a len cap zs) {y : Addr} (hy : a = some y) {j : Nat} (hj : j < zs.length) : (y.add j).block < w.heap.size := by
  rcases h with ⟨rfl, _⟩ | ⟨x, rfl, _, _, _, hcell, _⟩
  · cases hy
  · obtain rfl := Option.some.inj hy
    exact World.block_lt_of_cell? w _ (hcell j hj)

end Go.Proofs.YtmjokddplikegaaDoor

namespace Go.Proofs.YtmjokddplikegaaDoor

def blankI (c : Int) : Bool := c == 9 || (c == 10 || (c == 12 || (c == 13 || c == 32)))
def digitI (c : Int) : Bool := decide (48 ≤ c) && decide (c ≤ 57)
def letterI (c : Int) : Bool := (decide (65 ≤ c) && decide (c ≤ 90)) || (decide (97 ≤ c) && decide (c ≤ 122))
def signI (c : Int) : Bool := c == 33 || (c == 35 || (c == 36 || (c == 37 || (c == 38 || (c == 39 || (c == 42 || (c == 43 || (c == 45 || (c == 46 || (c == 94 || (c == 95 || (c == 96 || (c == 124 || c == 126)))))))))))))
def tokI (c : Int) : Bool := signI c || (letterI c || digitI c)
def is64I (c : Int) : Bool := letterI c || (digitI c || (c == 43 || c == 47))
def val64I (c : Int) : Int :=
  if 65 ≤ c ∧ c ≤ 90 then c - 65 else if 97 ≤ c ∧ c ≤ 122 then c - 71 else if 48 ≤ c ∧ c ≤ 57 then c + 4 else if c = 43 then 62 else if c = 47 then 63 else 0
def is16I (c : Int) : Bool := digitI c || ((decide (65 ≤ c) && decide (c ≤ 70)) || (decide (97 ≤ c) && decide (c ≤ 102)))
def val16I (c : Int) : Int :=
  if 97 ≤ c ∧ c ≤ 102 then c - 87 else if 65 ≤ c ∧ c ≤ 70 then c - 55 else if 48 ≤ c ∧ c ≤ 57 then c - 48 else 0

theorem hid {p : Prop} (h : p) : RowKit.Hid p := h
theorem ret_bool {a b : Bool} (h : a = b) : Ending.returned (.bool a) = .returned (.bool b) := by rw [h]
theorem ret_int {k : IntKind} {a b : Int} (h : a = b) : Ending.returned (.int k a) = .returned (.int k b) := by rw [h]
theorem ret_ib {k : IntKind} {a b : Int} {x y : Bool} (h : a = b) (g : x = y) : Ending.returned (.tuple #[.int k a, .bool x]) = .returned (.tuple #[.int k b, .bool y]) := by rw [h, g]

end Go.Proofs.YtmjokddplikegaaDoor

namespace Go.Proofs.YtmjokddplikegaaDoor

theorem take_snoc (s : ByteArray) (k : Nat) (h : k < s.size) : s.data.toList.take (k + 1) = s.data.toList.take k ++ [s[k]] := by
  rw [List.take_succ_eq_append_getElem (by simpa using h)]; rfl

theorem take_all (s : ByteArray) (k : Nat) (h : ¬ k < s.size) : s.data.toList.take k = s.data.toList :=
  List.take_of_length_le (by simp; omega)

theorem byteCells_one (c : UInt8) : Lib.byteCells [c] = [.int .u8 c.toNat] := rfl

/-- Without the blanks. -/
def noBlanks (l : List UInt8) : List UInt8 := l.filter fun c => !blankI c.toNat

theorem noBlanks_le (l : List UInt8) : (noBlanks l).length ≤ l.length := List.length_filter_le _ _

theorem noBlanks_snoc_yes (l : List UInt8) (c : UInt8) (h : blankI c.toNat = true) : noBlanks (l ++ [c]) = noBlanks l := by
  simp [noBlanks, List.filter_append, h]

theorem noBlanks_snoc_no (l : List UInt8) (c : UInt8) (h : blankI c.toNat = false) : noBlanks (l ++ [c]) = noBlanks l ++ [c] := by
  simp [noBlanks, List.filter_append, h]

/-- Of a length that four divides, one or two signs of padding at the end are left out. -/
def noPadding (l : List UInt8) : List UInt8 := if l.length % 4 = 0 then Lib.trimSuffix (Lib.trimSuffix l [61]) [61] else l

/-- 'string(b)' of a row that the call owns. -/
theorem run_string_own {P : Program} {w : World} {base : Nat} {e src dst : TypeId} {v : Value} {l : List UInt8} (hs : P.underlying src = some (.slice e)) (he : P.underlying e = some (.int .u8)) (hd : P.underlying dst = some .string)
    (h : w.ownsRow base e 1 v l.length (Lib.byteCells l)) (hnn : v ≠ .slice none 0 0) : (convert src dst v).run P w = .ok (.string ⟨l.toArray⟩) w := by
  rcases h.2 with ⟨hv, _⟩ | ⟨g, cap, cur, rfl, _⟩
  · exact absurd hv hnn
  · refine run_convert_bytes_back w src dst e ⟨g, 0, none⟩ cap l hs he hd fun j hj => ?_
    exact h.cells (g := g) rfl j _ (by simp [Lib.byteCells, hj])

end Go.Proofs.YtmjokddplikegaaDoor

namespace Go.Proofs.YtmjokddplikegaaDoor
open Go.RowKit

/-- The slice v reads as the bytes l. -/
def SlB (w : World) (v : Value) (l : List UInt8) : Prop :=
  (∃ c, v = .slice none 0 c ∧ l = []) ∨ ∃ x cap, v = .slice (some x) l.length cap ∧ ∀ j (h : j < l.length), w.cell? (x.add j) = some (.int .u8 (l[j].toNat : Int))

theorem SlB.string {P : Program} {w : World} {v : Value} {l : List UInt8} {e src dst : TypeId} (h : SlB w v l) (hs : P.underlying src = some (.slice e)) (he : P.underlying e = some (.int .u8)) (hd : P.underlying dst = some .string) :
    (convert src dst v).run P w = .ok (.string ⟨l.toArray⟩) w := by
  rcases h with ⟨c, rfl, rfl⟩ | ⟨x, cap, rfl, hc⟩
  · exact Lib.run_convert_nil_bytes w src dst e c hs he hd
  · exact run_convert_bytes_back w src dst e x cap l hs he hd hc

theorem SlB.below {w w' : World} {v : Value} {l : List UInt8} {B : Nat} (h : SlB w v l) (hb : Below B w w') (hB : ∀ x n c, v = .slice (some x) n c → ∀ j, j < l.length → (x.add j).block < B) : SlB w' v l := by
  rcases h with h | ⟨x, cap, rfl, hc⟩
  · exact .inl h
  · exact .inr ⟨x, cap, rfl, fun j hj => (hb.cell (hB x _ _ rfl j hj)).trans (hc j hj)⟩

theorem SlB.kept {w w' : World} {v : Value} {l : List UInt8} (h : SlB w v l) (hb : Below w.heap.size w w') : SlB w' v l := by
  refine h.below hb ?_
  rcases h with ⟨c, rfl, rfl⟩ | ⟨x, cap, rfl, hc⟩
  · intro x n c' e j hj; simp at hj
  · intro x' n c' e j hj
    obtain ⟨e1, _, _⟩ := Value.slice.inj e
    obtain rfl := Option.some.inj e1
    exact World.block_lt_of_cell? w _ (hc j hj)

theorem SlB.alloc {w : World} {v : Value} {l : List UInt8} (h : SlB w v l) (o : Obj) : SlB (w.alloc o) v l := h.kept ((Below.refl _ w).alloc (Nat.le_refl _) o)

theorem SlB.len {w : World} {v : Value} {l : List UInt8} (h : SlB w v l) : ∃ a cap, v = .slice a l.length cap := by
  rcases h with ⟨c, rfl, rfl⟩ | ⟨x, cap, rfl, hc⟩
  · exact ⟨none, c, rfl⟩
  · exact ⟨some x, cap, rfl⟩

/-- A new block that holds the bytes. -/
theorem SlB.laid (w : World) (C : Array Value) (e : TypeId) (fz : Nat × Nat) (l : List UInt8) (cap : Nat) (h : C = (Lib.byteCells l).toArray) : SlB (w.alloc (.cells C e fz)) (.slice (some ⟨w.heap.size, 0, none⟩) l.length cap) l := by
  refine .inr ⟨_, cap, rfl, fun j hj => ?_⟩
  rw [Addr.add_lit, Nat.zero_add, World.cell?_alloc_mark, h]
  simp [Lib.byteCells, hj]

/-- What an owned row reads as. -/
theorem SlB.own {w : World} {B : Nat} {e : TypeId} {v : Value} {l : List UInt8} (h : w.ownsRow B e 1 v l.length (Lib.byteCells l)) : SlB w v l := by
  rcases h.2 with ⟨rfl, h0⟩ | ⟨g, cap, cur, rfl, _⟩
  · exact .inl ⟨0, rfl, List.eq_nil_of_length_eq_zero h0⟩
  · exact .inr ⟨_, cap, rfl, fun j hj => h.cells (g := g) rfl j _ (by simp [Lib.byteCells, hj])⟩

theorem SlB.take {w : World} {a : Option Addr} {len cap : Nat} {l : List UInt8} (h : SlB w (.slice a len cap) l) (n : Nat) (hn : n < l.length) : SlB w (.slice a n cap) (l.take n) := by
  rcases h with ⟨c, e, rfl⟩ | ⟨x, c, e, hc⟩
  · simp at hn
  · obtain ⟨rfl, rfl, rfl⟩ := Value.slice.inj e
    refine .inr ⟨x, cap, by congr 1; simp; omega, fun j hj => ?_⟩
    have hj' : j < l.length := by simp at hj; omega
    rw [hc j hj']; simp

/-- A slice that came in reads as bytes. -/
theorem IsRow.bytes {w : World} {a : Option Addr} {len cap : Nat} {zs : List Int} (h : IsRow .u8 w a len cap zs) : ∃ l : List UInt8, l.length = len ∧ SlB w (.slice a len cap) l ∧ len ≤ cap ∧ cap ≤ maxLen := by
  rcases h with ⟨rfl, rfl, rfl, rfl⟩ | ⟨x, rfl, hlc, hcm, hz, hcell, hwf⟩
  · exact ⟨[], rfl, .inl ⟨0, rfl, rfl⟩, Nat.le_refl _, by unfold maxLen; omega⟩
  · refine ⟨(zs.take len).map fun n => UInt8.ofNat n.toNat, by simp; omega, .inr ⟨x, cap, by congr 1; simp; omega, ?_⟩, hlc, hcm⟩
    intro j hj
    have hj' : j < len ∧ j < zs.length := by simp at hj; omega
    have hwfj := hwf zs[j] (List.getElem_mem hj'.2)
    have hb : 0 ≤ zs[j] ∧ zs[j] ≤ 255 := by simpa [Lit.wf, IntKind.min, IntKind.max, IntKind.bits, IntKind.signed] using hwfj
    rw [hcell j hj'.2]
    have e : zs.getD j 0 = zs[j] := by simp [List.getD, hj'.2]
    rw [e]
    congr 2
    simp
    omega

/-- From place pos on, by at most fuel runes: each rune encoded anew. -/
def recFrom (s : ByteArray) : Nat → Nat → List UInt8
  | 0, _ => []
  | fuel + 1, pos => if pos < s.size then Lib.encodeRune (Utf8.decode s pos).1 ++ recFrom s fuel (pos + (Utf8.decode s pos).2) else []
def recode (s : ByteArray) : List UInt8 := recFrom s s.size 0

def bom : List UInt8 := [239, 187, 191]
def dec (l : List UInt8) : List UInt8 := recode ⟨(Lib.trimPrefix l bom).toArray⟩

theorem width_pos (s : ByteArray) (pos : Nat) (h : pos < s.size) : 1 ≤ (Utf8.decode s pos).2 := by
  by_cases ha : (s[pos]'h).toNat < 128
  · rw [decode_ascii s pos h ha]
    exact Nat.le_refl _
  · exact (decode_high s pos h (by omega)).2

theorem recFrom_end (s : ByteArray) (fuel pos : Nat) (h : ¬ pos < s.size) : recFrom s fuel pos = [] := by
  cases fuel with
  | zero => rfl
  | succ f => simp [recFrom, h]

end Go.Proofs.YtmjokddplikegaaDoor

namespace Go.Proofs.YtmjokddplikegaaDoor
open Go.RowKit

theorem below2 {a b c : World} (h1 : Below a.heap.size a b) (h2 : Below b.heap.size b c) : Below a.heap.size a c := h1.trans (h2.mono h1.size)

theorem row_kept {w w' : World} {g : Nat} {o : Obj} (h : w.heap[g]? = some o) (hb : Below w.heap.size w w') : w'.heap[g]? = some o := by
  have hlt : g < w.heap.size := by
    rcases Nat.lt_or_ge g w.heap.size with h' | h'
    · exact h'
    · rw [Array.getElem?_eq_none h'] at h; cases h
  rw [hb.block g hlt]; exact h

theorem there_row {w : World} {g n : Nat} {cs : Array Value} {t : TypeId} (h : w.heap[g]? = some (.cells cs t (0, 0))) (hn : n ≤ cs.size) : w.there g 0 n := by
  intro j hj
  constructor
  · rw [cell_of_row w g _ cs t _ h]; simp; omega
  · simp [World.frozen?, h]

theorem range_row {w : World} {g : Nat} {cs : List Value} {t : TypeId} {f : Nat × Nat} (h : w.heap[g]? = some (.cells cs.toArray t f)) : w.rangeAt g 0 cs := by
  intro j v hv
  rw [Nat.zero_add, cell_of_row w g j _ t _ h]
  simpa using hv

theorem below_setCells {B b : Nat} (hb : B ≤ b) {w0 : World} : ∀ (vs : List Value) (o : Nat) (w : World), Below B w0 w → Below B w0 (w.setCells b o vs)
  | [], _, _, h => h
  | v :: r, o, w, h => by
    rw [World.setCells]
    exact below_setCells hb r (o + 1) _ (h.setCell (p := ⟨b, o, none⟩) hb v)

theorem own_kept {w w' : World} {base : Nat} {e : TypeId} {size n : Nat} {v : Value} {xs : List Value} (h : w.ownsRow base e size v n xs) (hb : Below w.heap.size w w') : w'.ownsRow base e size v n xs := by
  refine ⟨h.1, ?_⟩
  rcases h.2 with h | ⟨g, cap, cur, hv, h1, h2, h3⟩
  · exact .inl h
  · refine .inr ⟨g, cap, cur, hv, h1, ?_, h3⟩
    have hlt : g < w.heap.size := by
      rcases Nat.lt_or_ge g w.heap.size with h' | h'
      · exact h'
      · rw [Array.getElem?_eq_none h'] at h2; cases h2
    rw [hb.block g hlt]; exact h2

theorem kept_cell {w w' : World} {a : Addr} {v : Value} (h : w.cell? a = some v) (hb : Below w.heap.size w w') : w'.cell? a = some v := (hb.cell (World.block_lt_of_cell? w _ h)).trans h

end Go.Proofs.YtmjokddplikegaaDoor

namespace Go.Proofs.YtmjokddplikegaaDoor
open Go.RowKit

theorem shl8_3 (m : Nat) (c : UInt8) (hm : m < 256 ^ (4 - 1)) : bits .or .u32 ((m : Int) * 256 % 4294967296) (c.toNat : Int) = ((m * 256 + c.toNat : Nat) : Int) := by
  have hc := c.toNat_lt
  have h7 : (256 : Nat) ^ (4 - 1) * 256 = 4294967296 := by decide
  have hm' : m * 256 + c.toNat < 4294967296 := by
    have h8 : m + 1 ≤ 256 ^ (4 - 1) := hm
    have h9 := Nat.mul_le_mul_right 256 h8
    rw [h7] at h9
    omega
  clear hm h7
  have e2 : (m : Int) * 256 % 4294967296 = ((m * 256 : Nat) : Int) := by omega
  have g1 : m * 256 < 4294967296 := Nat.lt_of_le_of_lt (Nat.le_add_right _ _) hm'
  have g2 : c.toNat < 4294967296 := Nat.lt_of_le_of_lt (Nat.le_add_left _ _) hm'
  rw [e2, u32_or_nat _ _ g1 g2, or_byte _ _ hc]

set_option maxHeartbeats 1000000 in
theorem read32 (x : Addr) (cap : Nat) (l : List UInt8) (w : World) (hc : ∀ j (h : j < l.length), w.cell? (x.add j) = some (.int .u8 (l[j].toNat : Int))) (hl : l.length = 4) :
    Calls Tryd.prog 57 #[.slice (some x) 4 cap] w fun e w' => e = .returned (.int .u32 ((beN 0 l : Nat) : Int)) ∧ w = w' := by
  have HL := hid hl
  have HC := hid hc
  clear hc hl
  go_enter Tryd.func57, Tryd.ntmps57
  go_wp2
  go_loop [3, 8] (fun n i => ∃ k m : Nat, k ≤ 4 ∧ i = .int .i64 k ∧ n = .int .u32 m ∧ m < 256 ^ k ∧ beN m (l.drop k) = beN 0 l) (fun _ i => 4 - (intOf i).toNat)
  case atStart => exact ⟨0, 0, by omega, rfl, rfl, by decide, rfl⟩
  case round =>
    obtain ⟨k, m, hk, rfl, rfl, hm, hv⟩ := hrel
    have HV := hid hv
    clear hv
    by_cases hlt : k < 4
    · have hkl : k < l.length := by rw [HL.out]; exact hlt
      have hcell := HC.out k hkl
      have hm7 : m < 256 ^ (4 - 1) := Nat.lt_of_lt_of_le hm (Nat.pow_le_pow_right (by decide) (by omega))
      have hor := shl8_3 m l[k] hm7
      have HN := hid (show beN (m * 256 + l[k].toNat) (l.drop (k + 1)) = beN 0 l by rw [← HV.out, List.drop_eq_getElem_cons hkl, beN])
      have HM := hid (show m * 256 + l[k].toNat < 256 ^ (k + 1) by have := l[k].toNat_lt; rw [Nat.pow_succ]; omega)
      clear hm hm7
      obtain ⟨C, hC⟩ : ∃ C : Nat, C = l[k].toNat := ⟨_, rfl⟩
      have hC8 : C < 256 := by rw [hC]; exact l[k].toNat_lt
      rw [← hC] at hcell hor HN HM
      clear hC hkl
      go_wp2
      go_round
      case rel => exact ⟨k + 1, m * 256 + C, by omega, by go_num, by first | rw [hor] | (rw [IntKind.wrap_u64, hor]) | go_num, HM.out, HN.out⟩
      case measure => simp [intOf]; omega
    · have HN := hid (show m = beN 0 l by rw [← HV.out, List.drop_eq_nil_of_le (by rw [HL.out]; omega), beN])
      clear hm
      go_wp2
      go_ret
      exact ⟨ret3 (by rw [HN.out]), rfl⟩

end Go.Proofs.YtmjokddplikegaaDoor

namespace Go.Proofs.YtmjokddplikegaaDoor
open Go.RowKit

def cW (K : IntKind) (l : List Nat) : List Value := l.map fun (n : Nat) => .int K (n : Int)

theorem cW_len (K : IntKind) (l : List Nat) : (cW K l).length = l.length := by simp [cW]
theorem cW_one (K : IntKind) (l : List Nat) : ∀ v ∈ cW K l, v.oneCell' = true := by
  intro v hv
  obtain ⟨n, _, rfl⟩ := List.mem_map.1 hv
  rfl

/-- The block g holds these numbers. -/
def Rw (w : World) (g : Nat) (K : IntKind) (t : TypeId) (l : List Nat) : Prop := w.heap[g]? = some (.cells (cW K l).toArray t (0, 0))

theorem Rw.lt {w : World} {g : Nat} {K : IntKind} {t : TypeId} {l : List Nat} (h : Rw w g K t l) : g < w.heap.size := (Array.getElem?_eq_some_iff.1 h).1
theorem Rw.kept {w w' : World} {g : Nat} {K : IntKind} {t : TypeId} {l : List Nat} (h : Rw w g K t l) (hb : Below w.heap.size w w') : Rw w' g K t l := row_kept h hb
theorem Rw.drew {w : World} {g : Nat} {K : IntKind} {t : TypeId} {l : List Nat} (h : Rw w g K t l) : Rw w.drew g K t l := h
theorem Rw.cell {w : World} {g : Nat} {K : IntKind} {t : TypeId} {l : List Nat} (h : Rw w g K t l) (i : Nat) (hi : i < l.length) : w.cell? ⟨g, i, none⟩ = some (.int K (l.getD i 0 : Nat)) := by
  rw [cell_of_row w g i _ t _ h]
  simp [cW, hi]
theorem Rw.free {w : World} {g : Nat} {K : IntKind} {t : TypeId} {l : List Nat} (h : Rw w g K t l) (i : Nat) : w.frozen? ⟨g, i, none⟩ = false := by
  have h' : w.heap[g]? = some (.cells (cW K l).toArray t (0, 0)) := h
  simp [World.frozen?, h']
theorem Rw.set {w : World} {g : Nat} {K : IntKind} {t : TypeId} {l : List Nat} (h : Rw w g K t l) (i n : Nat) : Rw (w.setCell ⟨g, i, none⟩ (.int K (n : Int))) g K t (l.set i n) := by
  have := Lib.heap_setCell_same h (i := i) (.int K (n : Int))
  unfold Rw
  rw [this]
  congr 2
  simp [cW, List.map_set]
theorem Rw.far {w : World} {g b j : Nat} {K : IntKind} {t : TypeId} {l : List Nat} {x : Value} (h : Rw w g K t l) (hne : g ≠ b) : Rw (w.setCell ⟨b, j, none⟩ x) g K t l := by
  unfold Rw
  rw [Below.heap_setCell w ⟨b, j, none⟩ x g hne]
  exact h
theorem Rw.new (w : World) (K : IntKind) (t : TypeId) (l : List Nat) : Rw (w.alloc (.cells (cW K l).toArray t)) w.heap.size K t l := heap_alloc_new w _
theorem Rw.laid {w : World} {g : Nat} {K : IntKind} {t : TypeId} {l : List Nat} {A : Array Value} (hg : g = w.heap.size) (hA : A = (cW K l).toArray) : Rw (w.alloc (.cells A t)) g K t l := by
  subst hg hA; exact heap_alloc_new w _
theorem Rw.more {w : World} {g : Nat} {K : IntKind} {t : TypeId} {l : List Nat} (h : Rw w g K t l) (o : Obj) : Rw (w.alloc o) g K t l := h.kept ((Below.refl _ _).alloc (Nat.le_refl _) _)
theorem Rw.there {w : World} {g : Nat} {K : IntKind} {t : TypeId} {l : List Nat} (h : Rw w g K t l) (n : Nat) (hn : n = l.length) : w.there g 0 n := there_row h (by simp [cW_len, hn])
theorem Rw.range {w : World} {g : Nat} {K : IntKind} {t : TypeId} {l : List Nat} (h : Rw w g K t l) : w.rangeAt g 0 (cW K l) := range_row h

/-- Such a block is set as a whole. -/
theorem Rw.put {w : World} {g : Nat} {K : IntKind} {t : TypeId} {l : List Nat} (h : Rw w g K t l) (m : List Nat) (hm : m.length = l.length) : Rw (w.setCells g 0 (cW K m)) g K t m := by
  have key : ∀ (m a b : List Nat) (w : World), b.length = m.length → Rw w g K t (a ++ b) → Rw (w.setCells g a.length (cW K m)) g K t (a ++ m) := by
    intro m
    induction m with
    | nil => intro a b w hb h; obtain rfl := List.eq_nil_of_length_eq_zero hb; exact h
    | cons x r ih =>
      intro a b w hb h
      cases b with
      | nil => simp at hb
      | cons y b =>
        have e := h.set a.length x
        have e2 : (a ++ y :: b).set a.length x = (a ++ [x]) ++ b := by simp
        rw [e2] at e
        have := ih (a ++ [x]) b _ (by simpa using hb) e
        simpa [cW, World.setCells] using this
  simpa using key m [] l w hm.symm h

def fillV (l : List Nat) (k n : Nat) : List Nat := l.take k ++ List.replicate (n - k) 0
theorem fill_len (l : List Nat) (k n : Nat) (hk : k ≤ n) (hl : l.length = n) : (fillV l k n).length = n := by simp [fillV]; omega
theorem fill_zero (l : List Nat) (n : Nat) : fillV l 0 n = List.replicate n 0 := by simp [fillV]
theorem fill_all (l : List Nat) (n : Nat) (hl : l.length = n) : fillV l n n = l := by simp [fillV, ← hl]
theorem fill_step (l : List Nat) (k n : Nat) (hk : k < n) (hl : l.length = n) (x : Nat) (hx : l.getD k 0 = x) : (fillV l k n).set k x = fillV l (k + 1) n := by
  have hkl : k < l.length := by omega
  have e : n - k = (n - (k + 1)) + 1 := by omega
  unfold fillV
  rw [e, List.replicate_succ, List.set_append_right _ _ (by simp; omega), show k - (l.take k).length = 0 by simp; omega, List.set_cons_zero, List.take_add_one]
  have : l[k]?.toList = [x] := by rw [← hx]; simp [hkl]
  rw [this]; simp
theorem fill_get (l : List Nat) (k n i : Nat) (hi : i < k) (hkl : k ≤ l.length) : (fillV l k n).getD i 0 = l.getD i 0 := by
  unfold fillV
  have h1 : i < (l.take k).length := by simp; omega
  have h2 : i < l.length := by omega
  simp [List.getD, List.getElem?_append_left h1, hi]

def mixV (F S : List Nat) (j : Nat) : List Nat := F.take j ++ S.drop j
theorem mix_zero (F S : List Nat) : mixV F S 0 = S := by simp [mixV]
theorem mix_all (F S : List Nat) (n : Nat) (hF : F.length = n) (hS : S.length = n) : mixV F S n = F := by simp [mixV, ← hF]; omega
theorem mix_len (F S : List Nat) (j n : Nat) (hF : F.length = n) (hS : S.length = n) (hj : j ≤ n) : (mixV F S j).length = n := by simp [mixV]; omega
theorem mix_at (F S : List Nat) (j n : Nat) (hF : F.length = n) (hS : S.length = n) (hj : j < n) : (mixV F S j).getD j 0 = S.getD j 0 := by
  unfold mixV
  simp only [List.getD]
  rw [List.getElem?_append_right (by simp; omega)]
  simp
  rw [show j + (j - min j F.length) = j by omega]
theorem mix_step (F S : List Nat) (j n x : Nat) (hF : F.length = n) (hS : S.length = n) (hj : j < n) (hx : F.getD j 0 = x) : (mixV F S j).set j x = mixV F S (j + 1) := by
  unfold mixV
  rw [List.set_append_right _ _ (by simp; omega), show j - (F.take j).length = 0 by simp; omega, List.drop_eq_getElem_cons (by omega : j < S.length), List.set_cons_zero, List.take_add_one]
  have : F[j]?.toList = [x] := by rw [← hx]; simp [show j < F.length by omega]
  rw [this]; simp

/-- What is handed back out of such a block. -/
theorem Rw.result {P : Program} {fn : Func} {p : Tmp} {ty : TypeId} {d : TypeDesc} (h : fn.results = #[.cell p ty]) (tmps : Array Value) (w : World) (b : Nat) (K : IntKind) (t : TypeId) (l : List Nat) (hp : tmps.getD p undef = .pointer (some ⟨b, 0, none⟩)) (hc : Rw w b K t l)
    (hu : P.underlying ty = some d) (hd : d.isRow = true) (hi : (P.info? ty).map (·.size) = some (cW K l).length) : (results fn tmps).run P w = .ok (.agg (cW K l).toArray) w := by
  rw [Array.getD_eq_getD_getElem?] at hp
  simp only [results, h]
  simp [Sem.run_bind, Result.andThen, hp, asAddr, run_loadVar_mid w b 0 ty (cW K l) d hc.range hu hd hi]

theorem wrap_i64_id (x : Int) (h1 : -9223372036854775808 ≤ x) (h2 : x < 9223372036854775808) : IntKind.i64.wrap x = x := by
  simp [IntKind.wrap, IntKind.bits, IntKind.signed]; omega

theorem far_cell {w : World} {a : Addr} {b j : Nat} {x v : Value} (h : w.cell? a = some v) (hne : a.block ≠ b) : (w.setCell ⟨b, j, none⟩ x).cell? a = some v := by
  rw [← h]
  unfold World.cell?
  rw [Below.heap_setCell w ⟨b, j, none⟩ x a.block hne]

theorem Below.both {B : Nat} {X Y : World} (h : Below B X Y) (a : Addr) (u : Value) : Below B (X.setCell a u) (Y.setCell a u) :=
  ⟨h.os, h.tape, h.output, by simpa [World.setCell] using h.size, fun k hk => by simp only [World.setCell, Array.getElem?_modify, h.block k hk]⟩

/-- X is as wr was, but for the cell a, which holds what it held, or u. -/
def But1 (wr : World) (a : Addr) (u : Value) (X : World) : Prop := Below wr.heap.size (wr.setCell a u) (X.setCell a u)

theorem But1.start (wr : World) (a : Addr) (u : Value) : But1 wr a u wr.drew := ⟨rfl, rfl, rfl, Nat.le_refl _, fun k hk => rfl⟩
theorem size_setCell (w : World) (a : Addr) (u : Value) : (w.setCell a u).heap.size = w.heap.size := by simp [World.setCell]
theorem But1.size {wr X : World} {a : Addr} {u : Value} (h : But1 wr a u X) : wr.heap.size ≤ X.heap.size := by
  have := Below.size h
  rwa [size_setCell, size_setCell] at this
theorem But1.next {wr X Y : World} {a : Addr} {u : Value} (h : But1 wr a u X) (hb : Below X.heap.size X Y) : But1 wr a u Y :=
  Below.trans h ((Below.both hb a u).mono h.size)
theorem twice (w : World) (a : Addr) (u : Value) : (w.setCell a u).setCell a u = w.setCell a u := by
  unfold World.setCell
  congr 1
  apply Array.ext_getElem?
  intro i
  simp only [Array.getElem?_modify]
  split
  · cases w.heap[i]? with
    | none => rfl
    | some o =>
      cases o with
      | cells c e f => cases hs : a.spot <;> simp
      | _ => rfl
  · rfl
theorem But1.put {wr X : World} {a : Addr} {u : Value} (h : But1 wr a u X) : But1 wr a u (X.setCell a u) := by
  unfold But1
  rw [twice]
  exact h
theorem But1.fin {wr X : World} {a : Addr} {u : Value} (h : But1 wr a u (X.setCell a u)) : Below (wr.setCell a u).heap.size (wr.setCell a u) (X.setCell a u) := by
  unfold But1 at h
  rw [twice] at h
  rw [size_setCell]
  exact h
theorem But1.cell {wr X : World} {a : Addr} {u v : Value} (h : But1 wr a u X) {p : Addr} (hp : wr.cell? p = some v) (hne : a ≠ p) : X.cell? p = some v := by
  have h1 := Below.cell h (p := p) (World.block_lt_of_cell? wr p hp)
  rw [World.cell?_setCell_other _ _ _ _ hne, World.cell?_setCell_other _ _ _ _ hne] at h1
  rw [h1]; exact hp

theorem kept_both {X Y : World} {a : Addr} {v : Value} (h : X.cell? a = some v) (g : X.frozen? a = false) (hb : Below X.heap.size X Y) : Y.cell? a = some v ∧ Y.frozen? a = false :=
  ⟨kept_cell h hb, (hb.frozen (World.block_lt_of_cell? X a h)).trans g⟩

/-- An index of an array whose elements are one cell each. -/
theorem idx_arr {P : Program} (t : TypeId) (n g i : Nat) (I : Int) (w : World) (h : P.underlying t = some (.array (P.arrayLen t) (P.elem t))) (hn : P.arrayLen t = n) (hs : (sizeOf (P.elem t)).run P w = .ok 1 w) (hI : I = (i : Int)) (hi : i < n) :
    (Instr.indexAt t (.pointer (some ⟨g, 0, none⟩)) (.int .i64 I)).run P w = .ok (.pointer (some ⟨g, i, none⟩)) w := by
  subst hI
  rw [run_indexAt_array (h := h), if_pos ⟨by omega, by rw [hn]; omega⟩, hs]
  simp [Result.andThen, Addr.add_lit]

def sqr : List Nat := [7640891576956012808, 13503953896175478587, 4354685564936845355, 11912009170470909681, 5840696475078001361, 11170449401992604703, 2270897969802886507, 6620516959819538809, 14680500436340154072, 7105036623409894663, 10473403895298186519, 1526699215303891257, 7436329637833083697, 10282925794625328401, 15784041429090275239, 5167115440072839076]
def cbr : List Nat := [4794697086780616226, 8158064640168781261, 13096744586834688815, 16840607885511220156, 4131703408338449720, 6480981068601479193, 10538285296894168987, 12329834152419229976, 15566598209576043074, 1334009975649890238, 2608012711638119052, 6128411473006802146, 8268148722764581231, 9286055187155687089, 11230858885718282805, 13951009754708518548, 16472876342353939154, 17275323862435702243, 1135362057144423861, 2597628984639134821, 3308224258029322869, 5365058923640841347, 6679025012923562964, 8573033837759648693, 10970295158949994411, 12119686244451234320, 12683024718118986047, 13788192230050041572, 14330467153632333762, 15395433587784984357, 489312712824947311, 1452737877330783856, 2861767655752347644, 3322285676063803686, 5560940570517711597, 5996557281743188959, 7280758554555802590, 8532644243296465576, 9350256976987008742, 10552545826968843579, 11727347734174303076, 12113106623233404929, 14000437183269869457, 14369950271660146224, 15101387698204529176, 15463397548674623760, 17586052441742319658, 1182934255886127544, 1847814050463011016, 2177327727835720531, 2830643537854262169, 3796741975233480872, 4115178125766777443, 5681478168544905931, 6601373596472566643, 7507060721942968483, 8399075790359081724, 8693463985226723168, 9568029438360202098, 10144078919501101548, 10430055236837252648, 11840083180663258601, 13761210420658862357, 14299343276471374635, 14566680578165727644, 15097957966210449927, 16922976911328602910, 17689382322260857208, 500013540394364858, 748580250866718886, 1242879168328830382, 1977374033974150939, 2944078676154940804, 3659926193048069267, 4368137639120453308, 4836135668995329356, 5532061633213252278, 6448918945643986474, 6902733635092675308, 7801388544844847127]

/-- What the package's variables hold. -/
def Gt (w : World) : Prop :=
  (∀ i, i < 16 → w.cell? ⟨0, i, none⟩ = some (.int .u64 (sqr.getD i 0 : Nat))) ∧ ∀ i, i < 80 → w.cell? ⟨1, i, none⟩ = some (.int .u64 (cbr.getD i 0 : Nat))

theorem Gt.kept {w w' : World} (h : Gt w) (hb : Below w.heap.size w w') : Gt w' :=
  ⟨fun i hi => kept_cell (h.1 i hi) hb, fun i hi => kept_cell (h.2 i hi) hb⟩

theorem sqr_lt : ∀ i, sqr.getD i 0 < 18446744073709551616 := by
  have h : ∀ x ∈ sqr, x < 18446744073709551616 := by decide +kernel
  intro i
  rcases Nat.lt_or_ge i sqr.length with hi | hi
  · simp only [List.getD, List.getElem?_eq_getElem hi, Option.getD_some]; exact h _ (List.getElem_mem hi)
  · simp only [List.getD, List.getElem?_eq_none hi, Option.getD_none]; decide
theorem cbr_lt : ∀ i, cbr.getD i 0 < 18446744073709551616 := by
  have h : ∀ x ∈ cbr, x < 18446744073709551616 := by decide +kernel
  intro i
  rcases Nat.lt_or_ge i cbr.length with hi | hi
  · simp only [List.getD, List.getElem?_eq_getElem hi, Option.getD_some]; exact h _ (List.getElem_mem hi)
  · simp only [List.getD, List.getElem?_eq_none hi, Option.getD_none]; decide

end Go.Proofs.YtmjokddplikegaaDoor

namespace Go.Proofs.YtmjokddplikegaaDoor
open Go.RowKit

theorem nxt_agree (k : Kd) (w v : List Nat) (t : Nat) (ht : 16 ≤ t) (h : ∀ i, i < t → w.getD i 0 = v.getD i 0) : nxtV k w t = nxtV k v t := by
  unfold nxtV
  rw [h (t - 2) (by omega), h (t - 7) (by omega), h (t - 15) (by omega), h (t - 16) (by omega)]

theorem ext_len (k : Kd) : ∀ (n : Nat) (w : List Nat), (extV k n w).length = w.length + n
  | 0, w => rfl
  | n + 1, w => by rw [extV, force_eq, ext_len k n]; simp; omega

theorem getD_app (w v : List Nat) (i : Nat) (h : i < w.length) : (w ++ v).getD i 0 = w.getD i 0 := by
  simp [List.getD, List.getElem?_append_left h]

theorem ext_pre (k : Kd) : ∀ (n : Nat) (w : List Nat) (i : Nat), i < w.length → (extV k n w).getD i 0 = w.getD i 0
  | 0, w, i, h => rfl
  | n + 1, w, i, h => by
    rw [extV, force_eq, ext_pre k n _ i (by simp; omega)]
    exact getD_app w _ i h

theorem ext_at (k : Kd) : ∀ (n : Nat) (w : List Nat) (t : Nat), 16 ≤ w.length → w.length ≤ t → t < w.length + n → (extV k n w).getD t 0 = nxtV k (extV k n w) t
  | 0, w, t, h, h1, h2 => by omega
  | n + 1, w, t, h, h1, h2 => by
    rw [extV, force_eq]
    rcases Nat.eq_or_lt_of_le h1 with rfl | h3
    · rw [ext_pre k n _ _ (by simp)]
      have e : (w ++ [nxtV k w w.length]).getD w.length 0 = nxtV k w w.length := by simp [List.getD]
      rw [e]
      refine nxt_agree k _ _ _ h ?_
      intro i hi
      rw [ext_pre k n _ i (by simp; omega), getD_app w _ i hi]
    · exact ext_at k n _ t (by simp; omega) (by simp; omega) (by simp; omega)

/-- The words of all rounds, and noughts behind them: eighty. -/
def w80V (k : Kd) (l : List UInt8) : List Nat := schV k l ++ List.replicate (80 - k.R) 0

theorem words_len (B : Nat) (l : List UInt8) : (wordsV B l).length = 16 := by simp [wordsV]
theorem sch_len (k : Kd) (l : List UInt8) (hR : 16 ≤ k.R) : (schV k l).length = k.R := by rw [schV, ext_len, words_len]; omega
theorem w80_len (k : Kd) (l : List UInt8) (hR : 16 ≤ k.R) (hR2 : k.R ≤ 80) : (w80V k l).length = 80 := by rw [w80V, List.length_append, sch_len k l hR, List.length_replicate]; omega
theorem w80_low (k : Kd) (l : List UInt8) (t : Nat) (hR : 16 ≤ k.R) (ht : t < 16) : (w80V k l).getD t 0 = wordV (k.W / 8) l t := by
  rw [w80V, getD_app _ _ _ (by rw [sch_len k l hR]; omega), schV, ext_pre _ _ _ _ (by rw [words_len]; exact ht)]
  simp [wordsV, List.getD, ht]
theorem w80_nxt (k : Kd) (l : List UInt8) (t : Nat) (hR : 16 ≤ k.R) (h1 : 16 ≤ t) (h2 : t < k.R) : (w80V k l).getD t 0 = nxtV k (w80V k l) t := by
  rw [w80V, getD_app _ _ _ (by rw [sch_len k l hR]; omega)]
  have := ext_at k (k.R - 16) (wordsV (k.W / 8) l) t (by rw [words_len]; exact Nat.le_refl _) (by rw [words_len]; exact h1) (by rw [words_len]; omega)
  have e : (schV k l).getD t 0 = nxtV k (schV k l) t := this
  rw [e]
  refine nxt_agree k _ _ t h1 ?_
  intro i hi
  rw [getD_app _ _ _ (by rw [sch_len k l hR]; omega)]

theorem w80_fill (k : Kd) (l : List UInt8) (hR : 16 ≤ k.R) : (w80V k l).take k.R ++ List.replicate (80 - k.R) 0 = w80V k l := by
  unfold w80V
  rw [List.take_append_of_le_length (by rw [sch_len k l hR]; exact Nat.le_refl _), List.take_of_length_le (by rw [sch_len k l hR]; exact Nat.le_refl _)]

theorem word_lt (B : Nat) (l : List UInt8) (t : Nat) : wordV B l t < 2 ^ (8 * B) := by
  have h := beN_lt ((l.drop (t * B)).take B) 0 0 (by decide)
  have hl : ((l.drop (t * B)).take B).length ≤ B := by simp; omega
  refine Nat.lt_of_lt_of_le h ?_
  rw [Nat.zero_add, Nat.pow_mul, show (2 : Nat) ^ 8 = 256 by decide]
  exact Nat.pow_le_pow_right (by decide) hl

theorem w80_lt (k : Kd) (l : List UInt8) (t : Nat) (hR : 16 ≤ k.R) (hR2 : k.R ≤ 80) (hW : 8 * (k.W / 8) = k.W) : (w80V k l).getD t 0 < 2 ^ k.W := by
  rcases Nat.lt_or_ge t 16 with h | h
  · rw [w80_low k l t hR h]; have := word_lt (k.W / 8) l t; rwa [hW] at this
  · rcases Nat.lt_or_ge t k.R with h2 | h2
    · rw [w80_nxt k l t hR h h2]; exact Nat.mod_lt _ (Nat.two_pow_pos _)
    · rw [w80V]
      have : (schV k l ++ List.replicate (80 - k.R) 0).getD t 0 = 0 := by
        simp only [List.getD]
        rw [List.getElem?_append_right (by rw [sch_len k l hR]; exact h2)]
        simp [List.getElem?_replicate]
        split <;> rfl
      rw [this]; exact Nat.two_pow_pos _

theorem rds_stop (k : Kd) : ∀ (Ks ws z : List Nat) (s : St), Ks.length ≤ ws.length → rdsV k Ks (ws ++ z) s = rdsV k Ks ws s
  | [], _, _, _, _ => by simp [rdsV]
  | K :: Ks, [], _, _, h => by simp at h
  | K :: Ks, w :: ws, z, s, h => by
    rw [List.cons_append, rdsV, rdsV]
    exact rds_stop k Ks ws z _ (by simpa using h)

theorem rds_w80 (k : Kd) (Ks : List Nat) (l : List UInt8) (s : St) (hR : 16 ≤ k.R) : rdsV k (Ks.take k.R) (w80V k l) s = rdsV k (Ks.take k.R) (schV k l) s := by
  unfold w80V
  refine rds_stop k _ _ _ s ?_
  rw [sch_len k l hR]; simp; omega

theorem rnd_eq (k : Kd) (s : St) (K w : Nat) : rndV k s K w = ⟨(t1V k s K w + t2V k s) % 2 ^ k.W, s.a, s.b, s.c, (s.d + t1V k s K w) % 2 ^ k.W, s.e, s.f, s.g⟩ := by
  unfold rndV
  rw [force_eq, force_eq, force_eq]

theorem add_eq (k : Kd) (s v : St) : addV k s v = ⟨(s.a + v.a) % 2 ^ k.W, (s.b + v.b) % 2 ^ k.W, (s.c + v.c) % 2 ^ k.W, (s.d + v.d) % 2 ^ k.W, (s.e + v.e) % 2 ^ k.W, (s.f + v.f) % 2 ^ k.W, (s.g + v.g) % 2 ^ k.W, (s.h + v.h) % 2 ^ k.W⟩ := by
  unfold addV
  rw [force_eq, force_eq, force_eq, force_eq, force_eq, force_eq, force_eq, force_eq]

theorem rds_step (k : Kd) (Ks ws : List Nat) (i : Nat) (s : St) (hK : i < Ks.length) (hw : i < ws.length) : rdsV k (Ks.drop i) (ws.drop i) s = rdsV k (Ks.drop (i + 1)) (ws.drop (i + 1)) (rndV k s (Ks.getD i 0 / 2 ^ (64 - k.W)) (ws.getD i 0)) := by
  rw [List.drop_eq_getElem_cons hK, List.drop_eq_getElem_cons hw, rdsV]
  simp [List.getD, hK, hw]

/-- Each of a state's words fits. -/
def BdS (n : Nat) (s : St) : Prop := s.a < n ∧ s.b < n ∧ s.c < n ∧ s.d < n ∧ s.e < n ∧ s.f < n ∧ s.g < n ∧ s.h < n

theorem rnd_bd {k : Kd} {s : St} {K w : Nat} (h : BdS (2 ^ k.W) s) : BdS (2 ^ k.W) (rndV k s K w) := by
  obtain ⟨ha, hb, hc, hd, he, hf, hg, hh⟩ := h
  rw [rnd_eq]
  exact ⟨Nat.mod_lt _ (Nat.two_pow_pos _), ha, hb, hc, Nat.mod_lt _ (Nat.two_pow_pos _), he, hf, hg⟩

theorem add_bd (k : Kd) (s v : St) : BdS (2 ^ k.W) (addV k s v) := by
  rw [add_eq]
  have := Nat.two_pow_pos k.W
  exact ⟨Nat.mod_lt _ this, Nat.mod_lt _ this, Nat.mod_lt _ this, Nat.mod_lt _ this, Nat.mod_lt _ this, Nat.mod_lt _ this, Nat.mod_lt _ this, Nat.mod_lt _ this⟩

end Go.Proofs.YtmjokddplikegaaDoor

namespace Go.Proofs.YtmjokddplikegaaDoor
open Go.RowKit

theorem sizeByte (w : World) : (sizeOf (Tryd.prog.elem 22)).run Tryd.prog w = .ok 1 w := by kernel_rfl
theorem undB : Tryd.prog.underlying 22 = some (.slice (Tryd.prog.elem 22)) := by kernel_rfl

theorem slice_lh (x : Addr) (n cap a b : Nat) (w : World) (A B : Int) (hA : A = a) (hB : B = b) (hab : a ≤ b) (hb : b ≤ cap) (hne : a < cap) :
    (Instr.sliceAt 22 (.slice (some x) n cap) (some (.int .i64 A)) (some (.int .i64 B)) none).run Tryd.prog w = .ok (.slice (some (x.add a)) (b - a) (cap - a)) w := by
  subst hA hB
  rw [run_sliceAt_slice (h := undB), run_slice_lh (ht := undB) (h0 := by omega) (h1 := by omega) (h2 := by omega), sizeByte]
  simp only [Result.andThen, sliced, Int.toNat_natCast, Nat.mul_one, Option.map_some]
  rw [if_neg (by omega)]

end Go.Proofs.YtmjokddplikegaaDoor

namespace Go.Proofs.YtmjokddplikegaaDoor
open Go.RowKit

/-- The region of that number. -/
def regionOf (n : Nat) : Code → Option Code
  | .region id ops d => if id = n then some (.region id ops d) else none
  | .seq a b => match regionOf n a with
    | some c => some c
    | none => regionOf n b
  | .block _ c => regionOf n c
  | .loop c => regionOf n c
  | .scope c => regionOf n c
  | .cond _ a b => match regionOf n a with
    | some c => some c
    | none => regionOf n b
  | _ => none

/-- The bodies of all loops, in the text's order, those outside ahead of those inside them. -/
def loopsOf : Code → List Code
  | .seq a b => loopsOf a ++ loopsOf b
  | .block _ c => loopsOf c
  | .loop c => c :: loopsOf c
  | .scope c => loopsOf c
  | .cond _ a b => loopsOf a ++ loopsOf b
  | _ => []

/-- What leaves a loop by its own test. -/
def exit0 (K : Act → World → Prop) : Exit → Act → World → Prop
  | .exit 0, a, w => K a w
  | _, _, _ => False
def exit2 (K : Act → World → Prop) : Exit → Act → World → Prop
  | .exit 2, a, w => K a w
  | _, _, _ => False

theorem wp_cut0 {P : Program} {c : Code} {Q : Exit → Act → World → Prop} {a : Act} {w : World} (h : c.wp P (exit0 fun a w => Q (.exit 0) a w) a w) : c.wp P Q a w :=
  Code.wp_mono (fun e a w h => by unfold exit0 at h; split at h <;> first | exact h | exact h.elim) h
theorem wp_cut2 {P : Program} {c : Code} {Q : Exit → Act → World → Prop} {a : Act} {w : World} (h : c.wp P (exit2 fun a w => Q (.exit 2) a w) a w) : c.wp P Q a w :=
  Code.wp_mono (fun e a w h => by unfold exit2 at h; split at h <;> first | exact h | exact h.elim) h

theorem wp_cut {P : Program} {c : Code} {Q : Exit → Act → World → Prop} {a : Act} {w : World} (h : c.wp P (Exit.then (fun a w => Q .normal a w) fun _ _ _ => False) a w) : c.wp P Q a w :=
  Code.wp_mono (fun e a w h => by cases e <;> first | exact h | exact h.elim) h

end Go.Proofs.YtmjokddplikegaaDoor

namespace Go.Proofs.YtmjokddplikegaaDoor
open Go.RowKit

theorem infoByte8 : (Tryd.prog.info? 5).map (fun i => (i.zero, i.size, i.bytes)) = some (some (.int .u8 0), 1, 1) := by kernel_rfl

theorem bytes_len : ∀ (n x : Nat), (bytesV n x).length = n
  | 0, _ => rfl
  | n + 1, x => by rw [bytesV, List.length_append, bytes_len n]; rfl

theorem bytes_get : ∀ (n x j : Nat) (hj : j < n), (bytesV n x)[j]? = some (UInt8.ofNat (x / 2 ^ (8 * (n - 1 - j)) % 256))
  | n + 1, x, j, hj => by
    rw [bytesV]
    rcases Nat.lt_or_ge j n with h | h
    · rw [List.getElem?_append_left (by rw [bytes_len]; exact h), bytes_get n (x / 256) j h, Nat.div_div_eq_div_mul]
      congr 4
      rw [show (256 : Nat) = 2 ^ 8 by decide, ← Nat.pow_add]
      congr 1
      omega
    · obtain rfl : j = n := by omega
      rw [List.getElem?_append_right (by rw [bytes_len]; exact Nat.le_refl _), bytes_len]
      simp

theorem told_take (k : Kd) (s : St) (n : Nat) (hn : n ≤ 8) : (toldV k s).take (n * k.B) = (s.list.take n).flatMap (bytesV k.B) := by
  have key : ∀ (l : List Nat) (n : Nat), n ≤ l.length → (l.flatMap (bytesV k.B)).take (n * k.B) = (l.take n).flatMap (bytesV k.B) := by
    intro l
    induction l with
    | nil => intro n hn; obtain rfl : n = 0 := by simpa using hn
             simp
    | cons x r ih =>
      intro n hn
      cases n with
      | zero => simp
      | succ n =>
        rw [List.flatMap_cons, List.take_succ_cons, List.flatMap_cons, Nat.succ_mul, Nat.add_comm, List.take_append, bytes_len, List.take_of_length_le (by rw [bytes_len]; omega), Nat.add_sub_cancel_left, ih n (by simpa using hn)]
  exact key s.list n hn

theorem bd_get {n : Nat} {a b c d e f g h : Nat} (hb : BdS n ⟨a, b, c, d, e, f, g, h⟩) (i : Nat) : [a, b, c, d, e, f, g, h].getD i 0 < n := by
  obtain ⟨ha, hb, hc, hd, he, hf, hg, hh⟩ := hb
  rcases Nat.lt_or_ge i 8 with h' | h'
  · rcases (show i = 0 ∨ i = 1 ∨ i = 2 ∨ i = 3 ∨ i = 4 ∨ i = 5 ∨ i = 6 ∨ i = 7 by omega) with rfl | rfl | rfl | rfl | rfl | rfl | rfl | rfl <;> assumption
  · simp only [List.getD]
    rw [List.getElem?_eq_none (by simpa using h')]
    simp only [Option.getD_none]
    dsimp only at ha
    omega

/-- A new list of bytes with room for n, empty yet. -/
theorem own_made (w : World) (B n : Nat) (e : TypeId) (hB : B ≤ w.heap.size) (hn : n ≤ maxLen) : (w.alloc (.cells (Array.replicate n (.int .u8 0)) e)).ownsRow B e 1 (.slice (some ⟨w.heap.size, 0, none⟩) 0 n) 0 [] := by
  refine ⟨rfl, .inr ⟨w.heap.size, n, _, rfl, hB, heap_alloc_new w _, Nat.zero_le _, hn, by simp, by simp⟩⟩

theorem grown_row {X Y : World} {g k : Nat} {o : Obj} (hg : X.grownBy Y (some g)) (h : X.heap[k]? = some o) (hne : k ≠ g) : Y.heap[k]? = some o := by
  rw [hg.block k (Array.getElem?_eq_some_iff.1 h).1 (by simpa using hne)]
  exact h

theorem setCells_far {b k : Nat} (hne : k ≠ b) : ∀ (vs : List Value) (o : Nat) (w : World), (w.setCells b o vs).heap[k]? = w.heap[k]?
  | [], _, _ => rfl
  | v :: r, o, w => by rw [World.setCells, setCells_far hne r (o + 1) _, Below.heap_setCell w ⟨b, o, none⟩ v k hne]

end Go.Proofs.YtmjokddplikegaaDoor

namespace Go.Proofs.YtmjokddplikegaaDoor
open Go.RowKit

def zrs (n : Nat) : List Nat := List.replicate n 0
theorem zrs_len (n : Nat) : (zrs n).length = n := by simp [zrs]

def natsV (l : List UInt8) : List Nat := l.map fun c => c.toNat
theorem nats_len (l : List UInt8) : (natsV l).length = l.length := by simp [natsV]
theorem nats_cells (l : List UInt8) : cW .u8 (natsV l) = Lib.byteCells l := by simp [cW, natsV, Lib.byteCells]

/-- The last j of the eight bytes that a number is. -/
def lowV (x j : Nat) : List Nat := natsV ((bytesV 8 x).drop (8 - j))
theorem low_zero (x : Nat) : lowV x 0 = [] := by
  unfold lowV
  rw [List.drop_eq_nil_of_le (by rw [bytes_len]; omega)]; rfl
theorem low_len (x j : Nat) (hj : j ≤ 8) : (lowV x j).length = j := by
  unfold lowV
  rw [nats_len, List.length_drop, bytes_len]; omega
theorem low_step (x j : Nat) (hj : j < 8) : lowV x (j + 1) = (x / 256 ^ j % 256) :: lowV x j := by
  unfold lowV
  have h1 : 8 - (j + 1) < (bytesV 8 x).length := by rw [bytes_len]; omega
  rw [List.drop_eq_getElem_cons h1, show 8 - (j + 1) + 1 = 8 - j by omega]
  have h2 := bytes_get 8 x (8 - (j + 1)) (by omega)
  rw [List.getElem?_eq_getElem h1] at h2
  rw [Option.some.inj h2, show 8 * (8 - 1 - (8 - (j + 1))) = 8 * j by omega, Nat.pow_mul, show (2 : Nat) ^ 8 = 256 by decide]
  simp [natsV]
theorem low_all (x : Nat) : lowV x 8 = natsV (bytesV 8 x) := rfl

/-- Behind the number's last byte that is none there are noughts. -/
theorem low_rest (x j : Nat) (hj : j ≤ 8) (hx : x / 256 ^ j = 0) : lowV x 8 = List.replicate (8 - j) 0 ++ lowV x j := by
  have key : ∀ n, j + n ≤ 8 → lowV x (j + n) = List.replicate n 0 ++ lowV x j := by
    intro n
    induction n with
    | zero => intro _; simp
    | succ n ih =>
      intro h
      have e : x / 256 ^ (j + n) = 0 := by rw [Nat.pow_add, ← Nat.div_div_eq_div_mul, hx, Nat.zero_div]
      rw [← Nat.add_assoc, low_step x (j + n) (by omega), ih (by omega), e, List.replicate_succ]
      rfl
  have := key (8 - j) (by omega)
  rwa [show j + (8 - j) = 8 by omega] at this

/-- What stands there when j bytes of the length are written. -/
def fldE (R : List Nat) (N x j : Nat) : List Nat := R ++ 128 :: (List.replicate (N - R.length - 1 - j) 0 ++ lowV x j)

theorem fldE_len (R : List Nat) (N x j : Nat) (hj : j ≤ 8) (hN : R.length + 9 ≤ N) : (fldE R N x j).length = N := by
  simp [fldE, low_len x j hj]; omega

theorem fldE_step (R : List Nat) (N x j y : Nat) (hj : j < 8) (hN : R.length + 9 ≤ N) (hy : y = x / 256 ^ j % 256) : (fldE R N x j).set (N - 1 - j) y = fldE R N x (j + 1) := by
  unfold fldE
  rw [low_step x j hj, ← hy, List.set_append_right _ _ (by omega)]
  congr 1
  rw [show N - 1 - j - R.length = (N - R.length - 1 - (j + 1)) + 1 by omega, List.set_cons_succ]
  congr 1
  rw [show N - R.length - 1 - j = (N - R.length - 1 - (j + 1)) + 1 by omega, List.replicate_succ', List.append_assoc, List.set_append_right _ _ (by simp)]
  simp

theorem fldE_fin (R : List Nat) (N x j : Nat) (hj : j ≤ 8) (hN : R.length + 9 ≤ N) (hx : x / 256 ^ j = 0) : fldE R N x j = R ++ 128 :: (List.replicate (N - R.length - 9) 0 ++ natsV (bytesV 8 x)) := by
  unfold fldE
  rw [← low_all, low_rest x j hj hx, ← List.append_assoc, List.replicate_append_replicate, show N - R.length - 9 + (8 - j) = N - R.length - 1 - j by omega]

theorem fldE_zero (R : List Nat) (N x : Nat) (hN : R.length + 9 ≤ N) : (R ++ zrs (N - R.length)).set R.length 128 = fldE R N x 0 := by
  unfold fldE zrs
  rw [low_zero, List.set_append_right _ _ (Nat.le_refl _), Nat.sub_self, show N - R.length = (N - R.length - 1) + 1 by omega, List.replicate_succ, List.set_cons_zero]
  simp

theorem splice_zero (N : Nat) (l : List UInt8) (h : l.length ≤ N) : splice (cW .u8 (zrs N)) 0 (Lib.byteCells l) = cW .u8 (natsV l ++ zrs (N - l.length)) := by
  unfold splice zrs
  rw [List.take_zero, List.nil_append, Nat.zero_add, Lib.byteCells_length]
  simp [cW, natsV, Lib.byteCells]

theorem end_eq (k : Kd) (l : List UInt8) (N : Nat) (hN : endLen k l.length = N) (hq : l.length % k.size + 9 ≤ N) :
    natsV (endV k l) = natsV (l.drop (l.length - l.length % k.size)) ++ 128 :: (List.replicate (N - (natsV (l.drop (l.length - l.length % k.size))).length - 9) 0 ++ natsV (bytesV 8 (l.length * 8))) := by
  have hd : (l.drop (l.length - l.length % k.size)).length = l.length % k.size := by
    have := Nat.mod_le l.length k.size
    rw [List.length_drop]; omega
  rw [nats_len, hd]
  unfold endV natsV
  rw [hN]
  simp

theorem end_len (k : Kd) (l : List UInt8) (hq : l.length % k.size + 9 ≤ endLen k l.length) : (endV k l).length = endLen k l.length := by
  have := Nat.mod_le l.length k.size
  unfold endV
  simp [bytes_len]
  omega

theorem byte_one (l : List UInt8) : ∀ v ∈ Lib.byteCells l, v.oneCell' = true := by
  intro v hv
  simp only [Lib.byteCells, List.mem_map] at hv
  obtain ⟨b, _, rfl⟩ := hv
  rfl

theorem end_le (k : Kd) (l : List UInt8) (h9 : 9 ≤ 2 * k.B + 1) (hz : 2 * k.B + 1 ≤ k.size) (h0 : 0 < k.size) : (endV k l).length = endLen k l.length ∧ endLen k l.length ≤ 2 * k.size := by
  have hm := Nat.mod_lt l.length h0
  have h2 : endLen k l.length ≤ 2 * k.size := by unfold endLen; split <;> omega
  refine ⟨end_len k l ?_, h2⟩
  unfold endLen
  split <;> omega

theorem end_max (k : Kd) (l : List UInt8) (h9 : 9 ≤ 2 * k.B + 1) (hz : 2 * k.B + 1 ≤ k.size) (h0 : 0 < k.size ∧ k.size ≤ 1000) : (endV k l).length ≤ maxLen := by
  have := end_le k l h9 hz h0.1
  unfold maxLen
  omega

theorem end_div (k : Kd) (l : List UInt8) (h9 : 9 ≤ 2 * k.B + 1) (hz : 2 * k.B + 1 ≤ k.size) (h0 : 0 < k.size ∧ k.size ≤ 1000) : (endV k l).length / k.size ≤ 2 := by
  have := end_le k l h9 hz h0.1
  rw [this.1]
  calc endLen k l.length / k.size ≤ (2 * k.size) / k.size := Nat.div_le_div_right this.2
    _ = 2 := Nat.mul_div_cancel _ h0.1

end Go.Proofs.YtmjokddplikegaaDoor

namespace Go.Proofs.YtmjokddplikegaaDoor
open Go.RowKit

theorem xor8 (a b : UInt8) : bits .xor .u8 (a.toNat : Int) (b.toNat : Int) = ((a ^^^ b).toNat : Int) := by
  rw [u8_xor_nat _ _ a.toNat_lt b.toNat_lt, UInt8.toNat_xor]
theorem or8 (a b : UInt8) : bits .or .u8 (a.toNat : Int) (b.toNat : Int) = ((a ||| b).toNat : Int) := by
  rw [u8_or_nat _ _ a.toNat_lt b.toNat_lt, UInt8.toNat_or]

/-- What is unlike among the first bytes. -/
def unlV : UInt8 → List UInt8 → List UInt8 → UInt8
  | u, a :: l, b :: m => unlV (u ||| (a ^^^ b)) l m
  | u, _, _ => u

theorem or_zero8 (a b : UInt8) : a ||| b = 0 ↔ a = 0 ∧ b = 0 := by
  constructor
  · intro h
    have h' : a.toNat ||| b.toNat = 0 := by rw [← UInt8.toNat_or, h]; rfl
    have ha : a.toNat = 0 := Nat.le_antisymm (h' ▸ Nat.left_le_or) (Nat.zero_le _)
    have hb : b.toNat = 0 := Nat.le_antisymm (h' ▸ Nat.right_le_or) (Nat.zero_le _)
    exact ⟨UInt8.toNat_inj.1 ha, UInt8.toNat_inj.1 hb⟩
  · rintro ⟨rfl, rfl⟩; rfl
theorem xor_zero8 (a b : UInt8) : a ^^^ b = 0 ↔ a = b := by
  constructor
  · intro h
    have := congrArg (· ^^^ b) h
    simpa [UInt8.xor_assoc] using this
  · rintro rfl; simp

theorem unl_zero : ∀ (l m : List UInt8) (u : UInt8), l.length = m.length → (unlV u l m = 0 ↔ u = 0 ∧ l = m)
  | [], [], u, _ => by simp [unlV]
  | a :: l, b :: m, u, h => by
    rw [unlV, unl_zero l m _ (by simpa using h), or_zero8, xor_zero8]
    simp [and_assoc]
  | [], _ :: _, _, h => by simp at h
  | _ :: _, [], _, h => by simp at h

theorem SlB.ln {w : World} {a : Option Addr} {n c : Nat} {l : List UInt8} (h : SlB w (.slice a n c) l) : n = l.length := by
  rcases h with ⟨c, e, rfl⟩ | ⟨x, c, e, hc⟩
  · obtain ⟨_, rfl, _⟩ := Value.slice.inj e
    rfl
  · obtain ⟨_, rfl, _⟩ := Value.slice.inj e
    rfl

theorem SlB.at {w : World} {a : Option Addr} {n c : Nat} {l : List UInt8} (h : SlB w (.slice a n c) l) (k : Nat) (hk : k < l.length) : ∃ x, a = some x ∧ w.cell? (x.add k) = some (.int .u8 (l[k].toNat : Int)) := by
  rcases h with ⟨c, e, rfl⟩ | ⟨x, c, e, hc⟩
  · simp at hk
  · obtain ⟨rfl, _, _⟩ := Value.slice.inj e
    exact ⟨x, rfl, hc k hk⟩

theorem ret_b8 {a b : Bool} (h : a = b) : Ending.returned (.bool a) = .returned (.bool b) := by rw [h]

set_option maxHeartbeats 1000000 in
theorem same_d (a1 a2 : Option Addr) (n1 c1 n2 c2 : Nat) (l m : List UInt8) (w : World) (h1 : SlB w (.slice a1 n1 c1) l) (h2 : SlB w (.slice a2 n2 c2) m) (hn1 : n1 ≤ 1000000) :
    Calls Tryd.prog 9 #[.slice a1 n1 c1, .slice a2 n2 c2] w fun e w' => e = .returned (.bool (decide (l = m))) ∧ w = w' := by
  have e1 := h1.ln
  have e2 := h2.ln
  have H1 := hid h1
  have H2 := hid h2
  clear h1 h2
  by_cases hne : n1 = n2
  · subst hne
    have E1 := hid e1
    have E2 := hid e2
    clear e1 e2
    go_enter Tryd.func9, Tryd.ntmps9
    go_wp2
    go_loop [5, 15] (fun v5 v15 => ∃ (k : Nat) (u : UInt8), k ≤ n1 ∧ v15 = .int .i64 k ∧ v5 = .int .u8 (u.toNat : Int) ∧ Hid (unlV u (l.drop k) (m.drop k) = unlV 0 l m)) (fun _ v15 => n1 - (intOf v15).toNat)
    case atStart => exact ⟨0, 0, Nat.zero_le _, rfl, rfl, rfl⟩
    case round =>
      obtain ⟨k, u, hk, rfl, rfl, HU⟩ := hrel
      by_cases hlt : k < n1
      · have hkl : k < l.length := by have := E1.out; omega
        have hkm : k < m.length := by have := E2.out; omega
        obtain ⟨x, rfl, cx⟩ := H1.out.at k hkl
        obtain ⟨y, rfl, cy⟩ := H2.out.at k hkm
        obtain ⟨p, hp⟩ : ∃ p, p = l[k] := ⟨_, rfl⟩
        obtain ⟨q, hq⟩ : ∃ q, q = m[k] := ⟨_, rfl⟩
        rw [← hp] at cx
        rw [← hq] at cy
        obtain ⟨X, hX⟩ : ∃ X, X = p ^^^ q := ⟨_, rfl⟩
        obtain ⟨O, hO⟩ : ∃ O, O = u ||| X := ⟨_, rfl⟩
        have hx := xor8 p q
        rw [← hX] at hx
        have ho := or8 u X
        rw [← hO] at ho
        have HN := hid (show unlV O (l.drop (k + 1)) (m.drop (k + 1)) = unlV 0 l m by
          rw [← HU.out, List.drop_eq_getElem_cons hkl, List.drop_eq_getElem_cons hkm, unlV, hO, hX, hp, hq])
        clear hp hq hkl hkm hX hO
        go_wp2
        go_round
        case rel => exact ⟨k + 1, O, by omega, by go_num, by first | rfl | rw [ho] | (rw [hx, ho]), HN.out⟩
        case measure => simp [intOf]; omega
      · have HN := hid (show u = unlV 0 l m by
          have e1 := E1.out
          have e2 := E2.out
          rw [← HU.out, List.drop_eq_nil_of_le (by omega)]; cases m.drop k <;> rfl)
        go_wp2
        go_ret
        refine ⟨ret_b8 ?_, rfl⟩
        have e1 := E1.out
        have e2 := E2.out
        have hz := unl_zero l m 0 (by omega)
        rw [← HN.out] at hz
        by_cases hu : u = 0
        · subst hu
          have : l = m := (hz.1 rfl).2
          simp [this]
        · have : l ≠ m := fun h => hu (hz.2 ⟨rfl, h⟩)
          have h3 : u.toNat ≠ 0 := fun h => hu (UInt8.toNat_inj.1 h)
          simp [this]
          omega
  · have hd : ((n1 : Int) != (n2 : Int)) = true := by simp; omega
    have HLM := hid (show decide (l = m) = false by
      apply decide_eq_false
      rintro rfl
      omega)
    clear e1 e2
    go_enter Tryd.func9, Tryd.ntmps9
    go_wp2
    go_ret
    exact ⟨ret_b8 HLM.out.symm, rfl⟩

end Go.Proofs.YtmjokddplikegaaDoor

namespace Go.Proofs.YtmjokddplikegaaDoor
open Go.RowKit

theorem ret6 {a b : Int} (h : a = b) : Ending.returned (.int .u64 a) = .returned (.int .u64 b) := by rw [h]

theorem max6 : IntKind.max .u64 = ((2 ^ 64 - 1 : Nat) : Int) := by decide

theorem rot6 (x n : Nat) (hx : x < 18446744073709551616) : bits .or .u64 ((x : Int) / 2 ^ n) ((x : Int) * 2 ^ (64 - n) % 18446744073709551616) = ((rotV 64 x n : Nat) : Int) := by
  have e1 : (x : Int) / 2 ^ n = ((x / 2 ^ n : Nat) : Int) := by
    rw [Int.natCast_ediv, Int.natCast_pow]; rfl
  have e2 : (x : Int) * 2 ^ (64 - n) % 18446744073709551616 = ((x * 2 ^ (64 - n) % 18446744073709551616 : Nat) : Int) := by
    rw [Int.natCast_emod, Int.natCast_mul, Int.natCast_pow]; rfl
  rw [e1, e2, u64_or_nat _ _ (Nat.lt_of_le_of_lt (Nat.div_le_self _ _) hx) (Nat.mod_lt _ (by decide))]
  rfl

set_option maxHeartbeats 1000000 in
theorem turned64 (x n : Nat) (w : World) (hx : x < 18446744073709551616) (hn : n < 64) :
    Calls Tryd.prog 62 #[.int .u64 (x : Int), .int .u64 (n : Int), .int .u64 64] w fun e w' => e = .returned (.int .u64 ((rotV 64 x n : Nat) : Int)) ∧ w = w' := by
  go_enter Tryd.func62, Tryd.ntmps62
  go_wp2
  go_ret
  exact ⟨ret6 (rot6 x n hx), rfl⟩

theorem ch6 (a b c : Nat) (ha : a < 18446744073709551616) (hb : b < 18446744073709551616) (hc : c < 18446744073709551616) : bits .xor .u64 (bits .and .u64 (a : Int) (b : Int)) (bits .and .u64 (bits .xor .u64 (IntKind.max .u64) (a : Int)) (c : Int)) = ((chV 64 a b c : Nat) : Int) := by
  rw [max6, u64_xor_nat _ _ (by decide) ha, not_xor 64 a ha, u64_and_nat _ _ ha hb, u64_and_nat _ _ (by omega) hc, u64_xor_nat _ _ (and_lt_l (W := 64) ha) (and_lt_l (W := 64) (by omega))]
  rfl

theorem mj6 (a b c : Nat) (ha : a < 18446744073709551616) (hb : b < 18446744073709551616) (hc : c < 18446744073709551616) : bits .xor .u64 (bits .xor .u64 (bits .and .u64 (a : Int) (b : Int)) (bits .and .u64 (a : Int) (c : Int))) (bits .and .u64 (b : Int) (c : Int)) = ((mjV a b c : Nat) : Int) := by
  rw [u64_and_nat _ _ ha hb, u64_and_nat _ _ ha hc, u64_and_nat _ _ hb hc, u64_xor_nat _ _ (and_lt_l (W := 64) ha) (and_lt_l (W := 64) ha), u64_xor_nat _ _ (Nat.xor_lt_two_pow (n := 64) (and_lt_l (W := 64) ha) (and_lt_l (W := 64) ha)) (and_lt_l (W := 64) hb)]
  rfl

set_option maxHeartbeats 1000000 in
theorem choice64 (a b c : Nat) (w : World) (ha : a < 18446744073709551616) (hb : b < 18446744073709551616) (hc : c < 18446744073709551616) :
    Calls Tryd.prog 55 #[.int .u64 (a : Int), .int .u64 (b : Int), .int .u64 (c : Int)] w fun e w' => e = .returned (.int .u64 ((chV 64 a b c : Nat) : Int)) ∧ w = w' := by
  have hsg : ¬ IntKind.signed .u64 = true := by decide
  go_enter Tryd.func55, Tryd.ntmps55
  go_wp2
  go_ret
  exact ⟨ret6 (ch6 a b c ha hb hc), rfl⟩

set_option maxHeartbeats 1000000 in
theorem majority64 (a b c : Nat) (w : World) (ha : a < 18446744073709551616) (hb : b < 18446744073709551616) (hc : c < 18446744073709551616) :
    Calls Tryd.prog 56 #[.int .u64 (a : Int), .int .u64 (b : Int), .int .u64 (c : Int)] w fun e w' => e = .returned (.int .u64 ((mjV a b c : Nat) : Int)) ∧ w = w' := by
  go_enter Tryd.func56, Tryd.ntmps56
  go_wp2
  go_ret
  exact ⟨ret6 (mj6 a b c ha hb hc), rfl⟩

set_option maxHeartbeats 1000000 in
theorem upper64 (x : Nat) (w : World) (hx : x < 18446744073709551616) :
    Calls Tryd.prog 45 #[.int .u64 (x : Int), .int .u64 64] w fun e w' => e = .returned (.int .u64 ((x / 2 ^ (64 - 64) : Nat) : Int)) ∧ w = w' := by
  go_enter Tryd.func45, Tryd.ntmps45
  go_wp2
  go_ret
  refine ⟨ret6 ?_, rfl⟩
  simp

theorem upper_l64 (x Y : Nat) (w : World) (hx : x < 18446744073709551616) (hY : Y = x / 2 ^ (64 - 64)) :
    Calls Tryd.prog 45 #[.int .u64 (x : Int), .int .u64 64] w fun e w' => e = .returned (.int .u64 (Y : Int)) ∧ w = w' := by subst hY; exact upper64 x w hx

theorem sm6 (x a b c : Nat) (hx : x < 18446744073709551616) : bits .xor .u64 (bits .xor .u64 ((rotV 64 x a : Nat) : Int) ((rotV 64 x b : Nat) : Int)) ((x : Int) / 2 ^ c) = ((smV 64 a b c x : Nat) : Int) := by
  have e1 : (x : Int) / 2 ^ c = ((x / 2 ^ c : Nat) : Int) := by
    rw [Int.natCast_ediv, Int.natCast_pow]; rfl
  rw [e1, u64_xor_nat _ _ (rot_lt (W := 64) hx) (rot_lt (W := 64) hx), u64_xor_nat _ _ (Nat.xor_lt_two_pow (n := 64) (rot_lt (W := 64) hx) (rot_lt (W := 64) hx)) (Nat.lt_of_le_of_lt (Nat.div_le_self _ _) hx)]
  rfl

theorem gr6 (x a b c : Nat) (hx : x < 18446744073709551616) : bits .xor .u64 (bits .xor .u64 ((rotV 64 x a : Nat) : Int) ((rotV 64 x b : Nat) : Int)) ((rotV 64 x c : Nat) : Int) = ((grV 64 a b c x : Nat) : Int) := by
  rw [u64_xor_nat _ _ (rot_lt (W := 64) hx) (rot_lt (W := 64) hx), u64_xor_nat _ _ (Nat.xor_lt_two_pow (n := 64) (rot_lt (W := 64) hx) (rot_lt (W := 64) hx)) (rot_lt (W := 64) hx)]
  rfl

end Go.Proofs.YtmjokddplikegaaDoor

namespace Go.Proofs.YtmjokddplikegaaDoor
open Go.RowKit

theorem shl8_6 (m : Nat) (c : UInt8) (hm : m < 256 ^ (8 - 1)) : bits .or .u64 ((m : Int) * 256 % 18446744073709551616) (c.toNat : Int) = ((m * 256 + c.toNat : Nat) : Int) := by
  have hc := c.toNat_lt
  have h7 : (256 : Nat) ^ (8 - 1) * 256 = 18446744073709551616 := by decide
  have hm' : m * 256 + c.toNat < 18446744073709551616 := by
    have h8 : m + 1 ≤ 256 ^ (8 - 1) := hm
    have h9 := Nat.mul_le_mul_right 256 h8
    rw [h7] at h9
    omega
  clear hm h7
  have e2 : (m : Int) * 256 % 18446744073709551616 = ((m * 256 : Nat) : Int) := by omega
  have g1 : m * 256 < 18446744073709551616 := Nat.lt_of_le_of_lt (Nat.le_add_right _ _) hm'
  have g2 : c.toNat < 18446744073709551616 := Nat.lt_of_le_of_lt (Nat.le_add_left _ _) hm'
  rw [e2, u64_or_nat _ _ g1 g2, or_byte _ _ hc]

set_option maxHeartbeats 1000000 in
theorem read64 (x : Addr) (cap : Nat) (l : List UInt8) (w : World) (hc : ∀ j (h : j < l.length), w.cell? (x.add j) = some (.int .u8 (l[j].toNat : Int))) (hl : l.length = 8) :
    Calls Tryd.prog 60 #[.slice (some x) 8 cap] w fun e w' => e = .returned (.int .u64 ((beN 0 l : Nat) : Int)) ∧ w = w' := by
  have HL := hid hl
  have HC := hid hc
  clear hc hl
  go_enter Tryd.func60, Tryd.ntmps60
  go_wp2
  go_loop [3, 8] (fun n i => ∃ k m : Nat, k ≤ 8 ∧ i = .int .i64 k ∧ n = .int .u64 m ∧ m < 256 ^ k ∧ beN m (l.drop k) = beN 0 l) (fun _ i => 8 - (intOf i).toNat)
  case atStart => exact ⟨0, 0, by omega, rfl, rfl, by decide, rfl⟩
  case round =>
    obtain ⟨k, m, hk, rfl, rfl, hm, hv⟩ := hrel
    have HV := hid hv
    clear hv
    by_cases hlt : k < 8
    · have hkl : k < l.length := by rw [HL.out]; exact hlt
      have hcell := HC.out k hkl
      have hm7 : m < 256 ^ (8 - 1) := Nat.lt_of_lt_of_le hm (Nat.pow_le_pow_right (by decide) (by omega))
      have hor := shl8_6 m l[k] hm7
      have HN := hid (show beN (m * 256 + l[k].toNat) (l.drop (k + 1)) = beN 0 l by rw [← HV.out, List.drop_eq_getElem_cons hkl, beN])
      have HM := hid (show m * 256 + l[k].toNat < 256 ^ (k + 1) by have := l[k].toNat_lt; rw [Nat.pow_succ]; omega)
      clear hm hm7
      obtain ⟨C, hC⟩ : ∃ C : Nat, C = l[k].toNat := ⟨_, rfl⟩
      have hC8 : C < 256 := by rw [hC]; exact l[k].toNat_lt
      rw [← hC] at hcell hor HN HM
      clear hC hkl
      go_wp2
      go_round
      case rel => exact ⟨k + 1, m * 256 + C, by omega, by go_num, by first | rw [hor] | (rw [IntKind.wrap_u64, hor]) | go_num, HM.out, HN.out⟩
      case measure => simp [intOf]; omega
    · have HN := hid (show m = beN 0 l by rw [← HV.out, List.drop_eq_nil_of_le (by rw [HL.out]; omega), beN])
      clear hm
      go_wp2
      go_ret
      exact ⟨ret6 (by rw [HN.out]), rfl⟩

end Go.Proofs.YtmjokddplikegaaDoor

namespace Go.Proofs.YtmjokddplikegaaDoor
open Go.RowKit

def dgH : List UInt8 := [48, 49, 50, 51, 52, 53, 54, 55, 56, 57, 97, 98, 99, 100, 101, 102]
def dg1 (h : Nat) : UInt8 := dgH.getD h 48
def hexV (l : List UInt8) : List UInt8 := l.flatMap fun c => [dg1 (c.toNat / 16), dg1 (c.toNat % 16)]
def hexA (l : List UInt8) : ByteArray := ⟨(hexV l).toArray⟩
def one1 (h : Nat) : ByteArray := ⟨#[dg1 h]⟩

theorem dig_slice (h : Nat) (hh : h < 16) (w : World) : (Instr.sliceAt 9 (.string ⟨#[48, 49, 50, 51, 52, 53, 54, 55, 56, 57, 97, 98, 99, 100, 101, 102]⟩) (some (.int .u8 (h : Int))) (some (.int .u8 ((h + 1 : Nat) : Int))) none).run Tryd.prog w = .ok (.string (one1 h)) w := by
  rcases (show h = 0 ∨ h = 1 ∨ h = 2 ∨ h = 3 ∨ h = 4 ∨ h = 5 ∨ h = 6 ∨ h = 7 ∨ h = 8 ∨ h = 9 ∨ h = 10 ∨ h = 11 ∨ h = 12 ∨ h = 13 ∨ h = 14 ∨ h = 15 by omega) with rfl | rfl | rfl | rfl | rfl | rfl | rfl | rfl | rfl | rfl | rfl | rfl | rfl | rfl | rfl | rfl <;> kernel_rfl

theorem and15 (c : UInt8) : bits .and .u8 (c.toNat : Int) 15 = ((c.toNat % 16 : Nat) : Int) := by
  have := u8_and_nat c.toNat 15 c.toNat_lt (by decide)
  rw [show ((15 : Nat) : Int) = 15 from rfl] at this
  rw [this, show (15 : Nat) = 2 ^ 4 - 1 by decide, Nat.and_two_pow_sub_one_eq_mod]

theorem hexA_step (l : List UInt8) (k : Nat) (hk : k < l.length) : hexA (l.take k) ++ one1 (l[k].toNat / 16) ++ one1 (l[k].toNat % 16) = hexA (l.take (k + 1)) := by
  apply ByteArray.ext
  unfold hexA one1
  have e : l.take (k + 1) = l.take k ++ [l[k]] := by rw [List.take_add_one]; simp [hk]
  rw [ByteArray.data_append, ByteArray.data_append, e]
  unfold hexV
  rw [List.flatMap_append]
  simp

theorem hexA_size (l : List UInt8) : (hexA l).size = 2 * l.length := by
  show (hexV l).toArray.size = _
  simp only [List.size_toArray]
  induction l with
  | nil => rfl
  | cons c r ih =>
    rw [hexV, List.flatMap_cons, List.length_append]
    have : (r.flatMap fun c => [dg1 (c.toNat / 16), dg1 (c.toNat % 16)]).length = 2 * r.length := ih
    rw [this]
    simp
    omega

theorem ret_s8 {a b : ByteArray} (h : a = b) : Ending.returned (.string a) = .returned (.string b) := by rw [h]

set_option maxHeartbeats 2000000 in
set_option maxRecDepth 100000 in
theorem hex_any (a1 : Option Addr) (n1 c1 : Nat) (l : List UInt8) (w : World) (h1 : SlB w (.slice a1 n1 c1) l) (hn : n1 ≤ 1000) :
    Calls Tryd.prog 24 #[.slice a1 n1 c1] w fun e w' => e = .returned (.string (hexA l)) ∧ Below w.heap.size w w' := by
  have HLN := hid h1.ln
  have H1 := hid h1
  clear h1
  go_enter Tryd.func24, Tryd.ntmps24
  go_wp2
  go_loopw [3, 4] (fun v3 v4 wr => ∃ (k : Nat) (A : ByteArray), k ≤ n1 ∧ v4 = .int .i64 k ∧ v3 = .string A ∧ Hid (A = hexA (l.take k)) ∧ Hid (Below w.heap.size w wr)) (fun _ v4 _ => n1 - (intOf v4).toNat)
  case atStart => exact ⟨0, ⟨#[]⟩, Nat.zero_le _, rfl, rfl, rfl, Below.refl _ _⟩
  case round =>
    obtain ⟨k, A, hk, rfl, rfl, HA, HB⟩ := hrel
    by_cases hlt : k < n1
    · have hkl : k < l.length := by have := HLN.out; omega
      obtain ⟨x, rfl, cx⟩ := H1.out.at k hkl
      have cy : wr.cell? (x.add k) = some (.int .u8 (l[k].toNat : Int)) := kept_cell cx HB.out
      obtain ⟨p, hp⟩ : ∃ p, p = l[k] := ⟨_, rfl⟩
      rw [← hp] at cy
      have h8 := p.toNat_lt
      obtain ⟨H, hH⟩ : ∃ H, H = p.toNat / 16 := ⟨_, rfl⟩
      obtain ⟨M, hM⟩ : ∃ M, M = p.toNat % 16 := ⟨_, rfl⟩
      obtain ⟨H1', hH1⟩ : ∃ x, x = H + 1 := ⟨_, rfl⟩
      obtain ⟨M1, hM1⟩ : ∃ x, x = M + 1 := ⟨_, rfl⟩
      have e1 : (p.toNat : Int) / 16 = (H : Int) := by omega
      have e2 : IntKind.u8.wrap ((H : Int) + 1) = (H1' : Int) := by rw [IntKind.wrap_u8']; omega
      have e3 : bits .and .u8 (p.toNat : Int) 15 = (M : Int) := by rw [hM]; exact and15 p
      have e4 : IntKind.u8.wrap ((M : Int) + 1) = (M1 : Int) := by rw [IntKind.wrap_u8']; omega
      have e2' : ((H : Int) + 1) % 256 = (H1' : Int) := by omega
      have e4' : ((M : Int) + 1) % 256 = (M1 : Int) := by omega
      obtain ⟨D1, hD1⟩ : ∃ D, D = one1 H := ⟨_, rfl⟩
      obtain ⟨D2, hD2⟩ : ∃ D, D = one1 M := ⟨_, rfl⟩
      have s1 : ∀ wx : World, (Instr.sliceAt 9 (.string ⟨#[48, 49, 50, 51, 52, 53, 54, 55, 56, 57, 97, 98, 99, 100, 101, 102]⟩) (some (.int .u8 (H : Int))) (some (.int .u8 (H1' : Int))) none).run Tryd.prog wx = .ok (.string D1) wx := by intro wx; rw [hH1, hD1]; exact dig_slice H (by omega) wx
      have s2 : ∀ wx : World, (Instr.sliceAt 9 (.string ⟨#[48, 49, 50, 51, 52, 53, 54, 55, 56, 57, 97, 98, 99, 100, 101, 102]⟩) (some (.int .u8 (M : Int))) (some (.int .u8 (M1 : Int))) none).run Tryd.prog wx = .ok (.string D2) wx := by intro wx; rw [hM1, hD2]; exact dig_slice M (by omega) wx
      have z1 : A.size ≤ 2000 := by rw [HA.out, hexA_size]; simp; omega
      have z2 : D1.size = 1 := by rw [hD1]; rfl
      have z3 : D2.size = 1 := by rw [hD2]; rfl
      have HN := hid (show A ++ D1 ++ D2 = hexA (l.take (k + 1)) by rw [HA.out, hD1, hD2, hH, hM, hp]; exact hexA_step l k hkl)
      have HZ2 := hid z2
      have HZ3 := hid z3
      have y2 : D1.size ≤ 1 := by omega
      have y3 : D2.size ≤ 1 := by omega
      clear hp hH hM hH1 hM1 hD1 hD2 hkl cx z2 z3 h8
      have hkn : (k : Int) < (n1 : Int) := by omega
      go_wp2_with fail
      go_quiet (fail)
      go_wp2
      exact ⟨⟨k + 1, A ++ D1 ++ D2, by omega, by go_num, rfl, HN.out, below_drewN HB.out nq⟩, by simp [intOf]; omega⟩
    · have HN := hid (show A = hexA l by rw [HA.out, List.take_of_length_le (by have := HLN.out; omega)])
      go_wp2
      go_ret
      exact ⟨ret_s8 HN.out, HB.out⟩

end Go.Proofs.YtmjokddplikegaaDoor

namespace Go.Proofs.YtmjokddplikegaaDoor
open Go.RowKit

set_option maxHeartbeats 400000 in
theorem fewBytes_any (a : Option Addr) (len cap n : Nat) (l : List UInt8) (w : World) (hl : l.length = len) (hS : SlB w (.slice a len cap) l) (hc : len ≤ cap) (hm : cap ≤ maxLen) (hn : n ≤ 9223372036854775807) :
    Calls Tryd.prog 11 #[.slice a len cap, .int .i64 n] w fun e w' => ∃ len', len' = (l.take n).length ∧ len' ≤ cap ∧ e = .returned (.slice a len' cap) ∧ SlB w (.slice a len' cap) (l.take n) ∧ w = w' := by
  unfold maxLen at hm
  by_cases h : n < len
  · have h' : (n : Int) < (len : Int) := by omega
    go_enter Tryd.func11, Tryd.ntmps11
    go_wp2
    go_ret
    exact ⟨n, by simp; omega, by omega, rfl, hS.take n (by omega), rfl⟩
  · have h' : (len : Int) ≤ (n : Int) := by omega
    go_enter Tryd.func11, Tryd.ntmps11
    go_wp2
    go_ret
    have e : l.take n = l := List.take_of_length_le (by omega)
    rw [e]
    exact ⟨len, hl.symm, hc, rfl, hS, rfl⟩

theorem n_within_mod (n m : Int) (hm : 1 ≤ m) : 0 - m < n.tmod m ∧ n.tmod m < m := by
  have h1 := Int.tmod_lt_of_pos n (b := m) (by omega)
  have h2 := Int.tmod_lt_of_pos (-n) (b := m) (by omega)
  rw [Int.neg_tmod] at h2
  omega

/-- A number brought into lo .. hi. -/
def n_withinI (n lo hi : Int) : Int := if n.tmod (hi - lo + 1) < 0 then lo + (n.tmod (hi - lo + 1) + hi - lo + 1) else lo + n.tmod (hi - lo + 1)

theorem n_withinI_bounds (n lo hi : Int) (h : lo ≤ hi) : lo ≤ n_withinI n lo hi ∧ n_withinI n lo hi ≤ hi := by
  have := n_within_mod n (hi - lo + 1) (by omega)
  unfold n_withinI
  split <;> omega

set_option maxHeartbeats 400000 in
theorem n_within_any (n lo hi : Int) (w : World) (h0 : -9223372036854775808 ≤ n) (h1 : n ≤ 9223372036854775807) (hlo : 0 ≤ lo) (hlh : lo ≤ hi) (hhi : hi ≤ 1099511627776) :
    Calls Tryd.prog 16 #[.int .i64 n, .int .i64 lo, .int .i64 hi] w fun e w' => e = .returned (.int .i64 (n_withinI n lo hi)) ∧ w = w' := by
  have hb := n_within_mod n (hi - lo + 1) (by omega)
  have hm0 : (hi - lo + 1 == 0) = false := by simp; omega
  obtain ⟨b1, b2⟩ := hb
  by_cases hneg : n.tmod (hi - lo + 1) < 0
  · have HW := hid (show n_withinI n lo hi = lo + (n.tmod (hi - lo + 1) + hi - lo + 1) by unfold n_withinI; rw [if_pos hneg])
    go_enter Tryd.func16, Tryd.ntmps16
    go_wp2
    go_ret
    exact ⟨ret_int HW.out.symm, rfl⟩
  · have HW := hid (show n_withinI n lo hi = lo + n.tmod (hi - lo + 1) by unfold n_withinI; rw [if_neg hneg])
    go_enter Tryd.func16, Tryd.ntmps16
    go_wp2
    go_ret
    exact ⟨ret_int HW.out.symm, rfl⟩

end Go.Proofs.YtmjokddplikegaaDoor

namespace Go.Proofs.YtmjokddplikegaaDoor
open Go.RowKit

theorem infoByte : (Tryd.prog.info? 5).map (fun i => (i.zero, i.size, i.bytes)) = some (some (.int .u8 0), 1, 1) := by kernel_rfl

end Go.Proofs.YtmjokddplikegaaDoor

namespace Go.Proofs.YtmjokddplikegaaDoor
open Go.RowKit

theorem infoBytes : (Tryd.prog.info? 22).map (fun i => (i.zero, i.size, i.bytes)) = some (some (.slice none 0 0), 1, 24) := by kernel_rfl

theorem hid0 {p : Prop} (h : p) : RowKit.Hid p := h

/-- The mark of place j in list i. -/
def markI (i j : Nat) : Int := ((i : Int) + 1) / 2 ^ (8 * (j % 3)) % 256

set_option maxHeartbeats 400000 in
theorem mark_any (i j : Nat) (w : World) (hi : i ≤ 100000) (hj : j ≤ 140737488351232) :
    Calls Tryd.prog 19 #[.int .i64 i, .int .i64 j] w fun e w' => e = .returned (.int .u8 (markI i j)) ∧ w = w' := by
  obtain ⟨r, hr⟩ : ∃ r : Nat, r = j % 3 := ⟨_, rfl⟩
  have h3 : (j : Int) % 3 = (r : Int) := by omega
  have hr3 : r ≤ 2 := by omega
  have HR := hid0 hr
  clear hr
  go_enter Tryd.func19, Tryd.ntmps19
  go_wp2
  go_ret
  refine ⟨?_, rfl⟩
  unfold markI
  rw [← HR.out]
  rfl

/-- An owned row stays where its block stays. -/
theorem ownsRow_same {w w' : World} {B : Nat} {e : TypeId} {size : Nat} {v : Value} {n : Nat} {xs : List Value} (h : w.ownsRow B e size v n xs) (hk : ∀ g, v.ownBlock = some g → w'.heap[g]? = w.heap[g]?) : w'.ownsRow B e size v n xs := by
  refine ⟨h.1, ?_⟩
  rcases h.2 with hn | ⟨g, cap, cur, rfl, hb, hgg, rest⟩
  · exact .inl hn
  · exact .inr ⟨g, cap, cur, rfl, hb, (hk g rfl).trans hgg, rest⟩

theorem ownsRow_slice {w : World} {B : Nat} {e : TypeId} {size : Nat} {v : Value} {n : Nat} {xs : List Value} (h : w.ownsRow B e size v n xs) : ∃ a k c, v = .slice a k c := by
  rcases h.2 with ⟨rfl, _⟩ | ⟨g, cap, cur, rfl, _⟩
  · exact ⟨_, _, _, rfl⟩
  · exact ⟨_, _, _, rfl⟩

theorem cell_of_heapE {w : World} {b : Nat} {cs : Array Value} {T : TypeId} {fr : Nat × Nat} (hb : w.heap[b]? = some (.cells cs T fr)) (j : Nat) (v : Value) (h : cs[j]? = some v) : w.cell? ⟨b, j, none⟩ = some v := by rw [Lib.cell_of_heap hb]; exact h

/-- The kind of an owned row's block. -/
theorem ownsRow_kind {w : World} {B : Nat} {e : TypeId} {size : Nat} {v : Value} {n : Nat} {xs : List Value} (h : w.ownsRow B e size v n xs) (g : Nat) (hg : v.ownBlock = some g) : ∃ cur, w.heap[g]? = some (.cells cur e (0, 0)) := by
  rcases h.2 with ⟨rfl, _⟩ | ⟨g', cap, cur, rfl, hb, hgg, rest⟩
  · simp [Value.ownBlock] at hg
  · simp [Value.ownBlock] at hg
    subst hg
    exact ⟨cur, hgg⟩

/-- A block of another kind is no owned row's. -/
theorem ownsRow_other {w : World} {B : Nat} {e f : TypeId} {size : Nat} {v : Value} {n : Nat} {xs : List Value} {p : Nat} {cs : Array Value} {fr : Nat × Nat} (h : w.ownsRow B e size v n xs) (hp : w.heap[p]? = some (.cells cs f fr)) (hne : f ≠ e) : v.ownBlock ≠ some p := by
  intro hg
  obtain ⟨cur, hc⟩ := ownsRow_kind h p hg
  rw [hp] at hc
  injection hc with hc
  injection hc with _ hc _
  exact hne hc

theorem ownsRow_lower {w : World} {B B' : Nat} {e : TypeId} {size : Nat} {v : Value} {n : Nat} {xs : List Value} (h : w.ownsRow B e size v n xs) (hB : B' ≤ B) : w.ownsRow B' e size v n xs := by
  refine ⟨h.1, ?_⟩
  rcases h.2 with hn | ⟨g, cap, cur, rfl, hb, rest⟩
  · exact .inl hn
  · exact .inr ⟨g, cap, cur, rfl, Nat.le_trans hB hb, rest⟩

/-- What an append leaves: a slice at the head of the same block, or of a new one. -/
def AppAt (w : World) (v v' : Value) (n : Nat) : Prop := ∃ g cap, v' = .slice (some ⟨g, 0, none⟩) n cap ∧ (v.ownBlock = some g ∨ w.heap.size ≤ g)

/-- Where an append to an owned row puts what is there afterwards: into the same block, or into a new one. -/
theorem run_append_where {P : Program} (w : World) (base : Nat) (t ty e : TypeId) (i : TypeInfo) (z : Value) (size bytes : Nat) (ht : P.underlying t = some (.slice e)) (hi : P.info? e = some i) (hz : i.zero = some z)
    (hsize : i.size = size) (hby : i.bytes = bytes) (hzs : z.cells.size = size) (hsz : 0 < size)
    (v : Value) (n : Nat) (xs : List Value) (hown : w.ownsRow base e size v n xs)
    (a : Addr) (m c : Nat) (news : List Value) (hl : news.length = m * size) (hnews : ∀ j u, news[j]? = some u → w.cell? (a.add j) = some u) (h1 : ∀ u ∈ news, u.oneCell' = true)
    (h63 : n + m ≤ maxLen) (hbytes : (n + m) * bytes ≤ 140737488355328) (hbase : base ≤ w.heap.size) (hm : 0 < m) :
    ∃ v' w', (Builtin.append_ #[t, t] ty #[v, .slice (some a) m c]).run P w = .ok v' w' ∧ w'.ownsRow base e size v' (n + m) (xs ++ news) ∧ w.grownBy w' v.ownBlock ∧
      AppAt w v v' (n + m) := by
  obtain ⟨v', w', hr, ho, hg, _⟩ := run_append_own (P := P) w base t ty e i z size bytes ht hi hz hsize hby hzs hsz v n xs hown a m c news hl hnews h1 h63 hbytes hbase
  refine ⟨v', w', hr, ho, hg, ?_⟩
  subst hsize
  subst hby
  have hML : n + m ≤ 9223372036854775807 := by simp only [maxLen] at h63; omega
  rcases hown.2 with ⟨rfl, rfl⟩ | ⟨g, cap, cur, rfl, hbg, hgg, hnc, hcm, hcs, htake⟩
  · have hr2 := run_append_nil (P := P) w t ty e i z ht hi hz a m c news hl hnews hm (by omega) (by have hb := hbytes; simp only [Nat.zero_add] at hb; omega)
    rw [hr2] at hr
    injection hr with e1 e2
    exact ⟨w.heap.size, _, by rw [← e1]; simp; rfl, .inr (Nat.le_refl _)⟩
  · by_cases hroom : n + m ≤ cap
    · have hfit : n * i.size + news.length ≤ cur.size := by rw [hl, hcs, ← Nat.add_mul]; exact Nat.mul_le_mul_right _ hroom
      have hr2 := run_append_room (P := P) w t ty e i ht hi g n cap cur hgg a m c news hl hnews h1 hroom hfit
      rw [hr2] at hr
      injection hr with e1 e2
      exact ⟨g, cap, e1.symm, .inl rfl⟩
    · have hr2 := run_append_grow (P := P) w t ty e i z ht hi hz ⟨g, 0, none⟩ n cap xs hown.1 (hown.cells (g := g) rfl) a m c news hl hnews (by omega) (by omega) (growslice_fits (by omega) hbytes)
      rw [hr2] at hr
      injection hr with e1 e2
      exact ⟨w.heap.size, _, e1.symm, .inr (Nat.le_refl _)⟩

theorem wp_append_where {P : Program} (w : World) {o : Oper} {a : Act} {K : Act → World → Prop} {Q : Exit → Act → World → Prop} (s x : Operand) (t : TypeId)
    (ho : o.op = .call { callee := .builtin .append, args := #[s, x], argTypes := #[t, t] })
    (base : Nat) (e : TypeId) (i : TypeInfo) (z : Value) (size bytes : Nat) (ht : P.underlying t = some (.slice e)) (hi : P.info? e = some i) (hz : i.zero = some z)
    (hsize : i.size = size) (hby : i.bytes = bytes) (hzs : z.cells.size = size) (hsz : 0 < size)
    (v : Value) (n : Nat) (xs : List Value) (hs : a.eval s = v) (hown : w.ownsRow base e size v n xs)
    (ad : Addr) (m c : Nat) (news : List Value) (hx : a.eval x = .slice (some ad) m c) (hl : news.length = m * size) (hnews : ∀ j u, news[j]? = some u → w.cell? (ad.add j) = some u) (h1 : ∀ u ∈ news, u.oneCell' = true)
    (h63 : n + m ≤ maxLen) (hbytes : (n + m) * bytes ≤ 140737488355328) (hbase : base ≤ w.heap.size) (hm : 0 < m)
    (h : ∀ v' w', w'.ownsRow base e size v' (n + m) (xs ++ news) → w.grownBy w' v.ownBlock → AppAt w v v' (n + m) → K (a.put o.dst v') w') : o.wp P a w K Q := by
  obtain ⟨v', w', hr, h2, h3, h4⟩ := run_append_where (P := P) w base t o.type e i z size bytes ht hi hz hsize hby hzs hsz v n xs hown ad m c news hl hnews h1 h63 hbytes hbase hm
  unfold Oper.wp
  simp [execOp, ho, resolve, invoke, builtin, hs, hx, hr, Result.andThen]
  exact h v' w' h2 h3 h4

theorem wpList_append_where {P : Program} (w : World) {ops : Array Oper} {rest : List Oper} {o : Oper} {a : Act} {Q : Exit → Act → World → Prop} (hgd : o.guard = none) (s x : Operand) (t : TypeId)
    (ho : o.op = .call { callee := .builtin .append, args := #[s, x], argTypes := #[t, t] })
    (base : Nat) (e : TypeId) (i : TypeInfo) (z : Value) (size bytes : Nat) (ht : P.underlying t = some (.slice e)) (hi : P.info? e = some i) (hz : i.zero = some z)
    (hsize : i.size = size) (hby : i.bytes = bytes) (hzs : z.cells.size = size) (hsz : 0 < size)
    (v : Value) (n : Nat) (xs : List Value) (hs : a.eval s = v) (hown : w.ownsRow base e size v n xs)
    (ad : Addr) (m c : Nat) (news : List Value) (hx : a.eval x = .slice (some ad) m c) (hl : news.length = m * size) (hnews : ∀ j u, news[j]? = some u → w.cell? (ad.add j) = some u) (h1 : ∀ u ∈ news, u.oneCell' = true)
    (h63 : n + m ≤ maxLen) (hbytes : (n + m) * bytes ≤ 140737488355328) (hbase : base ≤ w.heap.size) (hm : 0 < m)
    (h : ∀ v' w', w'.ownsRow base e size v' (n + m) (xs ++ news) → w.grownBy w' v.ownBlock → AppAt w v v' (n + m) → wpList P ops Q rest (a.put o.dst v') w') : wpList P ops Q (o :: rest) a w :=
  wpList_plain hgd fun _ hK => wp_append_where w s x t ho base e i z size bytes ht hi hz hsize hby hzs hsz v n xs hs hown ad m c news hx hl hnews h1 h63 hbytes hbase hm fun v' w' h2 h3 h4 => hK _ _ (h v' w' h2 h3 h4)

theorem step_append_where {P : Program} {ops : Array Oper} {o : Oper} {a : Act} {w : World} {K : Act → World → Prop} {Q : Exit → Act → World → Prop} {E : Prop} (hgd : o.guard = none) (s x : Operand) (t : TypeId)
    (ho : o.op = .call { callee := .builtin .append, args := #[s, x], argTypes := #[t, t] })
    (base : Nat) (e : TypeId) (i : TypeInfo) (z : Value) (size bytes : Nat) (ht : P.underlying t = some (.slice e)) (hi : P.info? e = some i) (hz : i.zero = some z)
    (hsize : i.size = size) (hby : i.bytes = bytes) (hzs : z.cells.size = size) (hsz : 0 < size)
    (v : Value) (n : Nat) (xs : List Value) (hs : a.eval s = v) (hown : w.ownsRow base e size v n xs)
    (ad : Addr) (m c : Nat) (news : List Value) (hx : a.eval x = .slice (some ad) m c) (hl : news.length = m * size) (hnews : ∀ j u, news[j]? = some u → w.cell? (ad.add j) = some u) (h1 : ∀ u ∈ news, u.oneCell' = true)
    (h63 : n + m ≤ maxLen) (hbytes : (n + m) * bytes ≤ 140737488355328) (hbase : base ≤ w.heap.size) (hm : 0 < m)
    (h : ∀ v' w', w'.ownsRow base e size v' (n + m) (xs ++ news) → w.grownBy w' v.ownBlock → AppAt w v v' (n + m) → K (a.put o.dst v') w') :
    if Region.wanted o (yielded ops a.tmps) = true then Oper.wp P o a w K Q else E := by
  rw [if_pos (by simp [Region.wanted, hgd])]
  exact wp_append_where w s x t ho base e i z size bytes ht hi hz hsize hby hzs hsz v n xs hs hown ad m c news hx hl hnews h1 h63 hbytes hbase hm h

theorem bytes_oneC (l : List UInt8) : ∀ v ∈ Lib.byteCells l, v.oneCell' = true := by
  intro u hu
  simp only [Lib.byteCells, List.mem_map] at hu
  obtain ⟨_, _, rfl⟩ := hu
  rfl

theorem step_append_own0 {P : Program} {ops : Array Oper} {o : Oper} {a : Act} {w : World} {K : Act → World → Prop} {Q : Exit → Act → World → Prop} {E : Prop} (hgd : o.guard = none) (s x : Operand) (t : TypeId)
    (ho : o.op = .call { callee := .builtin .append, args := #[s, x], argTypes := #[t, t] })
    (base : Nat) (e : TypeId) (i : TypeInfo) (z : Value) (size bytes : Nat) (ht : P.underlying t = some (.slice e)) (hi : P.info? e = some i) (hz : i.zero = some z)
    (hsize : i.size = size) (hby : i.bytes = bytes) (hzs : z.cells.size = size) (hsz : 0 < size)
    (v : Value) (n : Nat) (xs : List Value) (hs : a.eval s = v) (hown : w.ownsRow base e size v n xs)
    (ad : Addr) (m c : Nat) (news : List Value) (hx : a.eval x = .slice (some ad) m c) (hl : news.length = m * size) (hnews : ∀ j u, news[j]? = some u → w.cell? (ad.add j) = some u) (h1 : ∀ u ∈ news, u.oneCell' = true)
    (h63 : n + m ≤ maxLen) (hbytes : (n + m) * bytes ≤ 140737488355328) (hbase : base ≤ w.heap.size)
    (h : ∀ v' w', w'.ownsRow base e size v' (n + m) (xs ++ news) → w.grownBy w' v.ownBlock → (v' = .slice none 0 0 ↔ v = .slice none 0 0 ∧ m = 0) → K (a.put o.dst v') w') :
    if Region.wanted o (yielded ops a.tmps) = true then Oper.wp P o a w K Q else E := by
  rw [if_pos (by simp [Region.wanted, hgd])]
  exact wp_append_own w s x t ho base e i z size bytes ht hi hz hsize hby hzs hsz v n xs hs hown ad m c news hx hl hnews h1 h63 hbytes hbase h

/-- A book: its block, its two rows of lists, the lists themselves (each reads as l), no two of those kept in one block. -/
def Bk (w : World) (B p h : Nat) (xs ys : List Value) (l : List UInt8) : Prop :=
  B ≤ p ∧ ys.length = xs.length ∧
  (∃ A Y, w.heap[p]? = some (.cells #[A, Y, .int .i64 h, .bool false] 42 (0, 0)) ∧ w.ownsRow B 22 1 A xs.length xs ∧ w.ownsRow B 22 1 Y xs.length ys ∧ (A.ownBlock = none ∨ A.ownBlock ≠ Y.ownBlock)) ∧
  (∀ x ∈ xs, w.ownsRow B 5 1 x l.length (Lib.byteCells l)) ∧ (∀ y ∈ ys, w.ownsRow B 5 1 y l.length (Lib.byteCells l)) ∧
  xs.Pairwise (fun a b => a.ownBlock ≠ b.ownBlock)

end Go.Proofs.YtmjokddplikegaaDoor

namespace Go.Proofs.YtmjokddplikegaaDoor
open Go.RowKit

theorem SlB.some {w : World} {a : Option Addr} {len cap : Nat} {l : List UInt8} (h : SlB w (.slice a len cap) l) (h0 : 0 < l.length) : ∃ x, a = some x ∧ len = l.length ∧ ∀ j (hj : j < l.length), w.cell? (x.add j) = some (.int .u8 (l[j].toNat : Int)) := by
  rcases h with ⟨c, e, rfl⟩ | ⟨x, c, e, hc⟩
  · simp at h0
  · obtain ⟨rfl, rfl, rfl⟩ := Value.slice.inj e
    exact ⟨x, rfl, rfl, hc⟩

theorem SlB.length {w : World} {a : Option Addr} {len cap : Nat} {l : List UInt8} (h : SlB w (.slice a len cap) l) : len = l.length := by
  rcases h with ⟨c, e, rfl⟩ | ⟨x, c, e, hc⟩
  · obtain ⟨_, rfl, _⟩ := Value.slice.inj e
    rfl
  · obtain ⟨_, rfl, _⟩ := Value.slice.inj e
    rfl

theorem byte_ne {a b : UInt8} (h : a ≠ b) : ((a.toNat : Int) != (b.toNat : Int)) = true := by
  rw [bne_iff_ne]
  intro e
  exact h (UInt8.toNat_inj.1 (by omega))

set_option maxHeartbeats 1000000 in
theorem same_any (a b : Option Addr) (la lb ca cb : Nat) (x y : List UInt8) (w : World) (hx : SlB w (.slice a la ca) x) (hy : SlB w (.slice b lb cb) y) (hxs : x.length ≤ 140737488351232) (hys : y.length ≤ 140737488351232) :
    Calls Tryd.prog 28 #[.slice a la ca, .slice b lb cb] w fun e w' => e = .returned (.bool (x == y)) ∧ Below w.heap.size w w' := by
  obtain rfl := hx.length
  obtain rfl := hy.length
  by_cases hlen : x.length = y.length
  · have hl' : ((x.length : Int) != (y.length : Int)) = false := by simp; omega
    have hle1 : x.length ≤ y.length := by omega
    have hle2 : y.length ≤ x.length := by omega
    clear hlen
    go_enter Tryd.func28, Tryd.ntmps28
    go_wp2
    go_loopw [5] (fun i wr => ∃ k : Nat, k ≤ x.length ∧ i = .int .i64 k ∧ x.take k = y.take k ∧ Below w.heap.size w wr) (fun i _ => x.length - (intOf i).toNat)
    case atStart => exact ⟨0, Nat.zero_le _, rfl, rfl, Below.refl _ _⟩
    case round =>
      obtain ⟨k, hk, rfl, heq, hbw⟩ := hrel
      have HQ := hid heq
      clear heq
      by_cases hlt : k < x.length
      · obtain ⟨p, rfl, _, hpc⟩ := (hx.kept hbw).some (by omega)
        obtain ⟨q, rfl, _, hqc⟩ := (hy.kept hbw).some (by omega)
        have hky : k < y.length := by omega
        have c1 := hpc k hlt
        have c2 := hqc k hky
        have HX := hid (List.take_succ_eq_append_getElem hlt)
        have HY := hid (List.take_succ_eq_append_getElem hky)
        generalize hgx : x[k] = cx at *
        generalize hgy : y[k] = cy at *
        have hki : (k : Int) < (x.length : Int) := by omega
        have hki2 : (k : Int) < (y.length : Int) := by omega
        clear hpc hqc
        by_cases hc : cx = cy
        · have hc' : ((cx.toNat : Int) != (cy.toNat : Int)) = false := by rw [hc]; simp
          have HC := hid hc
          clear hc
          go_wp2
          go_quiet (fail)
          go_wp2
          go_roundw
          case rel => exact ⟨k + 1, by omega, by go_num, by rw [HX.out, HY.out, HQ.out, HC.out], below_drewN hbw _⟩
          case measure => simp [intOf]; omega
        · have hc' := byte_ne hc
          have HC := hid hc
          clear hc
          go_wp2
          go_quiet (fail)
          go_wp2
          go_ret
          refine ⟨ret_bool ?_, below_drewN hbw _⟩
          symm
          rw [beq_eq_false_iff_ne]
          intro h
          subst h
          exact HC.out (hgx.symm.trans hgy)
      · go_wp2
        go_ret
        refine ⟨ret_bool ?_, hbw⟩
        have h1 := HQ.out
        rw [List.take_of_length_le (by omega), List.take_of_length_le (by omega)] at h1
        simp [h1]
  · have hl' : ((x.length : Int) != (y.length : Int)) = true := by simp; omega
    go_enter Tryd.func28, Tryd.ntmps28
    go_wp2
    go_ret
    refine ⟨ret_bool ?_, Below.refl _ _⟩
    symm
    rw [beq_eq_false_iff_ne]
    intro h
    exact hlen (congrArg List.length h)

theorem byteCells_get (l : List UInt8) (j : Nat) (h : j < l.length) : (Lib.byteCells l)[j]? = some (.int .u8 (l[j].toNat : Int)) := by simp [Lib.byteCells, h]

theorem byteCells_set (l : List UInt8) (j : Nat) (c : UInt8) : (Lib.byteCells l).set j (.int .u8 (c.toNat : Int)) = Lib.byteCells (l.set j c) := by simp [Lib.byteCells, List.map_set]

theorem byteCells_rep (n : Nat) : Lib.byteCells (List.replicate n 0) = List.replicate n (.int .u8 0) := by simp [Lib.byteCells]

theorem byteCells_one_cell (l : List UInt8) : ∀ v ∈ Lib.byteCells l, v.oneCell' = true := by
  intro v hv
  simp only [Lib.byteCells, List.mem_map] at hv
  obtain ⟨b, _, rfl⟩ := hv
  rfl

theorem roomy_step (x : List UInt8) (c : UInt8) (k : Nat) (h : k < 80) : (x ++ (List.replicate k c ++ List.replicate (80 - k) 0)).set (x.length + k) c = x ++ (List.replicate (k + 1) c ++ List.replicate (80 - (k + 1)) 0) := by
  rw [List.set_append_right _ _ (by omega), List.set_append_right _ _ (by simp)]
  have e1 : x.length + k - x.length - (List.replicate k c).length = 0 := by simp
  have e2 : List.replicate (80 - k) (0 : UInt8) = 0 :: List.replicate (80 - (k + 1)) 0 := by
    rw [← List.replicate_succ]; congr 1; omega
  rw [e1, e2, List.replicate_succ', List.append_assoc]
  rfl

set_option maxHeartbeats 1000000 in
theorem roomy_any (a : Option Addr) (la ca : Nat) (x : List UInt8) (c : UInt8) (w : World) (hx : SlB w (.slice a la ca) x) (hxs : x.length ≤ 1000000) :
    Calls Tryd.prog 13 #[.slice a la ca, .int .u8 c.toNat] w fun e w' => e = .returned (.slice (some ⟨w.heap.size, 0, none⟩) (x.length + 80) (x.length + 80)) ∧
      SlB w' (.slice (some ⟨w.heap.size, 0, none⟩) (x.length + 80) (x.length + 80)) (x ++ List.replicate 80 c) ∧ Below w.heap.size w w' := by
  obtain rfl := hx.length
  obtain ⟨i0, hi, hz0, hz1, hz2⟩ := info_parts infoByte
  go_enter Tryd.func13, Tryd.ntmps13
  go_wp2_with (at_make; refine wpList_make_full _ rfl _ _ 22 rfl w.heap.size 5 i0 (.int .u8 0) 1 Tryd.underlying22 hi hz0 hz1 .i64 .i64 _ _ (x.length + 80) rfl rfl (by omega) (by omega) (by rw [hz2]; omega) (by unfold maxLen; omega) (Nat.le_refl _) ?_)
  intro w0 hown0 hgrow0
  have hb0 : Below w.heap.size w w0 := (Below.refl _ w).grown hgrow0 (Nat.le_refl _) (fun k hk => by simp at hk)
  clear hgrow0
  have hx0 := hx.kept hb0
  obtain ⟨cur, hcur⟩ : ∃ cur : Array Value, w0.heap[w.heap.size]? = some (.cells cur 5 (0, 0)) ∧ cur.toList = List.replicate (x.length + 80) (.int .u8 0) := by
    rcases hown0.2 with ⟨h', _⟩ | ⟨g', cap', cur, h', _, hg, hnc, hcm, hcs, htake⟩
    · simp at h'
    · simp only [Value.slice.injEq, Option.some.injEq, Addr.mk.injEq, and_true, true_and] at h'
      obtain ⟨rfl, rfl⟩ := h'
      refine ⟨cur, hg, ?_⟩
      rw [List.take_of_length_le (by rw [Array.length_toList, hcs]; exact Nat.le_refl _)] at htake
      rw [htake, toList_madeCells_one]
  clear hown0
  have hg0 : w0.heap[w.heap.size]? = some (.cells (List.replicate (x.length + 80) (.int .u8 0)).toArray 5 (0, 0)) := by
    rw [hcur.1]; congr 2; rw [← hcur.2]
  clear hcur
  have hsz1 : (Tryd.prog.info? 5).map (·.size) = some 1 := by rw [hi]; simp [hz1]
  go_wp2_with (refine wpList_copy_splice rfl _ _ 22 22 rfl 5 Tryd.underlying22 hsz1 _ _ _ _ _ _ rfl rfl w.heap.size 0 _ 5 hg0 (Lib.byteCells x) ?k1 ?k2 ?k3 (byteCells_one_cell x) w.heap.size w hb0 (Nat.le_refl _) ?_)
  case k1 => rw [Lib.byteCells_length]; simp
  case k2 =>
    intro hpos
    rw [Lib.byteCells_length] at hpos
    obtain ⟨p, rfl, _, hpc⟩ := hx0.some hpos
    have key : ∀ j v, (Lib.byteCells x)[j]? = some v → w0.cell? (p.add j) = some v := by
      intro j v hj
      have hj' : j < x.length := by
        have := (List.getElem?_eq_some_iff.1 hj).1
        rwa [Lib.byteCells_length] at this
      rw [hpc j hj', ← byteCells_get x j hj']
      exact hj
    first | exact ⟨rfl, p, rfl, key⟩ | exact ⟨p, rfl, key⟩
  case k3 => rw [Lib.byteCells_length]; simp
  intro w1 hg1 hb1
  clear hx0 hg0 hb0
  have hg2 : w1.heap[w.heap.size]? = some (.cells (Lib.byteCells (x ++ List.replicate 80 0)).toArray 5 (0, 0)) := by
    rw [hg1.out]
    congr 3
    unfold splice
    rw [Lib.byteCells_append, byteCells_rep, Lib.byteCells_length]
    simp
  clear hg1
  go_wp2
  go_loopw [6] (fun i wr => ∃ k : Nat, k ≤ 80 ∧ i = .int .i64 ((x.length + k : Nat) : Int) ∧ wr.heap[w.heap.size]? = some (.cells (Lib.byteCells (x ++ (List.replicate k c ++ List.replicate (80 - k) 0))).toArray 5 (0, 0)) ∧ Below w.heap.size w wr) (fun i _ => x.length + 80 - (intOf i).toNat)
  case atStart => exact ⟨0, by omega, by go_num, by simpa using hg2, hb1⟩
  case round =>
    obtain ⟨k, hk, rfl, hg, hbw⟩ := hrel
    by_cases hlt : k < 80
    · have hf : wr.frozen? ⟨w.heap.size, x.length + k, none⟩ = false := Lib.frozen_of_heap hg _
      have hcell : ∃ v, wr.cell? ⟨w.heap.size, x.length + k, none⟩ = some v := by
        rw [Lib.cell_of_heap hg]
        refine ⟨_, Array.getElem?_eq_getElem ?_⟩
        simp [Lib.byteCells]; omega
      obtain ⟨v, hcell⟩ := hcell
      have HN := hid (Lib.heap_setCell_same (i := x.length + k) hg (.int .u8 (c.toNat : Int)))
      have HG := hid hg
      clear hg
      go_wp2
      go_roundw
      case rel =>
        refine ⟨k + 1, by omega, by go_num, ?_, hbw.setCell (p := ⟨w.heap.size, x.length + k, none⟩) (Nat.le_refl _) _⟩
        rw [HN.out]
        congr 2
        rw [List.setIfInBounds_toArray, byteCells_set, roomy_step x c k hlt]
      case measure => simp [intOf]; omega
    · obtain rfl : k = 80 := by omega
      go_wp2
      go_ret
      refine ⟨rfl, ?_, hbw⟩
      refine .inr ⟨⟨w.heap.size, 0, none⟩, x.length + 80, by simp, fun j hj => ?_⟩
      rw [Addr.add_lit, Nat.zero_add, Lib.cell_of_heap hg]
      simp at hj
      have := byteCells_get (x ++ List.replicate 80 c) j (by simpa using hj)
      simpa using this

set_option maxHeartbeats 1000000 in
theorem intact_any (g : Nat) (a : Option Addr) (la ca : Nat) (x : List UInt8) (c : UInt8) (w : World) (hg : SlB w (.slice (some ⟨g, 0, none⟩) (x.length + 80) (x.length + 80)) (x ++ List.replicate 80 c)) (hx : SlB w (.slice a la ca) x) (hxs : x.length ≤ 1000000) :
    Calls Tryd.prog 15 #[.slice (some ⟨g, 0, none⟩) (x.length + 80) (x.length + 80), .slice a la ca, .int .u8 c.toNat] w fun e w' => e = .returned (.bool true) ∧ Below w.heap.size w w' := by
  obtain rfl := hx.length
  have hne : ((x.length : Int) + 80 != (x.length : Int) + 80) = false := by simp
  have hfst := hg.take x.length (by simp)
  rw [List.take_left] at hfst
  go_enter Tryd.func15, Tryd.ntmps15
  go_wp2_with fail
  refine (same_any _ _ _ _ _ _ x x w hfst hx (by omega) (by omega)).mono ?_
  rintro e w1 ⟨rfl, hb1⟩
  have hg1 := hg.kept hb1
  have hxx : (x == x) = true := by simp
  rw [hxx]
  clear hfst hg hxx
  go_wp2
  clear hne
  go_loopw [7] (fun i wr => ∃ k : Nat, k ≤ 80 ∧ i = .int .i64 ((x.length + k : Nat) : Int) ∧ wr = w1) (fun i _ => x.length + 80 - (intOf i).toNat)
  case atStart => exact ⟨0, by omega, by go_num, rfl⟩
  case round =>
    obtain ⟨k, hk, rfl, rfl⟩ := hrel
    by_cases hlt : k < 80
    · obtain ⟨p, hp, hq, hpc⟩ := hg1.some (by simp)
      obtain rfl := Option.some.inj hp
      have hc := hpc (x.length + k) (by simp; omega)
      rw [Addr.add_lit, Nat.zero_add, List.getElem_append_right (by omega), List.getElem_replicate] at hc
      clear hpc hp hq hg1 hx
      go_wp2
      go_roundw
      case rel => exact ⟨k + 1, by omega, by go_num, by first | rfl | trivial⟩
      case measure => simp [intOf]; omega
    · obtain rfl : k = 80 := by omega
      clear hg1 hx
      go_wp2
      go_ret
      exact ⟨rfl, hb1⟩

end Go.Proofs.YtmjokddplikegaaDoor
