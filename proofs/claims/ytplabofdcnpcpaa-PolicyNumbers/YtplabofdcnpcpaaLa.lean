/-
  The plain functions of package digest: SHA-2 over natural numbers, for words of 32 and of 64 bits.
-/
import Derived.Test.YtplabofdcnpcpaaProg
import Derived.WalkKit
import Derived.WalkSpells
import Derived.WalkLawsBesides
set_option linter.unusedSimpArgs false
set_option linter.unusedVariables false
namespace Go.Proofs.Ytplabofdcnpcpaa
open Go.RowKit

/-- A number that is worked out ahead of what goes on with it. -/
def force {α : Type} (n : Nat) (f : Nat → α) : α := match n with
  | 0 => f 0
  | m + 1 => f (m + 1)
theorem force_eq {α : Type} (n : Nat) (f : Nat → α) : force n f = f n := by cases n <;> rfl

def rotV (W x n : Nat) : Nat := (x / 2 ^ n) ||| (x * 2 ^ (W - n) % 2 ^ W)
def smV (W a b c x : Nat) : Nat := (rotV W x a ^^^ rotV W x b) ^^^ (x / 2 ^ c)
def grV (W a b c x : Nat) : Nat := (rotV W x a ^^^ rotV W x b) ^^^ rotV W x c
def chV (W a b c : Nat) : Nat := (a &&& b) ^^^ ((2 ^ W - 1 - a) &&& c)
def mjV (a b c : Nat) : Nat := ((a &&& b) ^^^ (a &&& c)) ^^^ (b &&& c)

structure Three where
  (a b c : Nat)
/-- What sets words of one size apart from those of the other. -/
structure Kd where
  W : Nat
  R : Nat
  s0 : Three
  s1 : Three
  g0 : Three
  g1 : Three
def nar : Kd := ⟨32, 64, ⟨7, 18, 3⟩, ⟨17, 19, 10⟩, ⟨2, 13, 22⟩, ⟨6, 11, 25⟩⟩
def wid : Kd := ⟨64, 80, ⟨1, 8, 7⟩, ⟨19, 61, 6⟩, ⟨28, 34, 39⟩, ⟨14, 18, 41⟩⟩

def Kd.small0 (k : Kd) (x : Nat) : Nat := smV k.W k.s0.a k.s0.b k.s0.c x
def Kd.small1 (k : Kd) (x : Nat) : Nat := smV k.W k.s1.a k.s1.b k.s1.c x
def Kd.great0 (k : Kd) (x : Nat) : Nat := grV k.W k.g0.a k.g0.b k.g0.c x
def Kd.great1 (k : Kd) (x : Nat) : Nat := grV k.W k.g1.a k.g1.b k.g1.c x

/-- The word that those bytes are, the greatest one first. -/
def beN : Nat → List UInt8 → Nat
  | w, [] => w
  | w, c :: r => beN (w * 256 + c.toNat) r

def wordV (B : Nat) (l : List UInt8) (t : Nat) : Nat := beN 0 ((l.drop (t * B)).take B)
def wordsV (B : Nat) (l : List UInt8) : List Nat := (List.range 16).map (wordV B l)

def nxtV (k : Kd) (w : List Nat) (t : Nat) : Nat := (k.small1 (w.getD (t - 2) 0) + w.getD (t - 7) 0 + k.small0 (w.getD (t - 15) 0) + w.getD (t - 16) 0) % 2 ^ k.W
def extV (k : Kd) : Nat → List Nat → List Nat
  | 0, w => w
  | n + 1, w => force (nxtV k w w.length) fun x => extV k n (w ++ [x])
def schV (k : Kd) (l : List UInt8) : List Nat := extV k (k.R - 16) (wordsV (k.W / 8) l)

structure St where
  (a b c d e f g h : Nat)
def St.list (s : St) : List Nat := [s.a, s.b, s.c, s.d, s.e, s.f, s.g, s.h]

def t1V (k : Kd) (s : St) (K w : Nat) : Nat := (s.h + k.great1 s.e + chV k.W s.e s.f s.g + K + w) % 2 ^ k.W
def t2V (k : Kd) (s : St) : Nat := (k.great0 s.a + mjV s.a s.b s.c) % 2 ^ k.W
def rndV (k : Kd) (s : St) (K w : Nat) : St :=
  force (t1V k s K w) fun t1 => force ((t1 + t2V k s) % 2 ^ k.W) fun x => force ((s.d + t1) % 2 ^ k.W) fun y => ⟨x, s.a, s.b, s.c, y, s.e, s.f, s.g⟩

/-- The rounds, one for each root and word. -/
def rdsV (k : Kd) : List Nat → List Nat → St → St
  | K :: Ks, w :: ws, s => rdsV k Ks ws (rndV k s (K / 2 ^ (64 - k.W)) w)
  | _, _, s => s

def addV (k : Kd) (s v : St) : St :=
  force ((s.a + v.a) % 2 ^ k.W) fun a => force ((s.b + v.b) % 2 ^ k.W) fun b => force ((s.c + v.c) % 2 ^ k.W) fun c => force ((s.d + v.d) % 2 ^ k.W) fun d =>
  force ((s.e + v.e) % 2 ^ k.W) fun e => force ((s.f + v.f) % 2 ^ k.W) fun f => force ((s.g + v.g) % 2 ^ k.W) fun g => force ((s.h + v.h) % 2 ^ k.W) fun h => ⟨a, b, c, d, e, f, g, h⟩

/-- One block is worked into the state; Ks: the roots, 64 bits each. -/
def foldV (k : Kd) (Ks : List Nat) (s : St) (l : List UInt8) : St := addV k s (rdsV k (Ks.take k.R) (schV k l) s)

/-- The whole blocks of a text, of n bytes each. -/
def workV (k : Kd) (Ks : List Nat) (n : Nat) : Nat → St → List UInt8 → St
  | 0, s, _ => s
  | m + 1, s, l => if n ≤ l.length then workV k Ks n m (foldV k Ks s (l.take n)) (l.drop n) else s

/-- A number as n bytes, the greatest one first. -/
def bytesV : Nat → Nat → List UInt8
  | 0, _ => []
  | n + 1, x => bytesV n (x / 256) ++ [UInt8.ofNat (x % 256)]

def Kd.B (k : Kd) : Nat := k.W / 8
def Kd.size (k : Kd) : Nat := 16 * k.B

/-- What a text has behind its whole blocks, filled up to one block or two. -/
def endLen (k : Kd) (n : Nat) : Nat := if n % k.size + 1 + 2 * k.B > k.size then 2 * k.size else k.size
def endV (k : Kd) (l : List UInt8) : List UInt8 :=
  l.drop (l.length - l.length % k.size) ++ 128 :: (List.replicate (endLen k l.length - l.length % k.size - 9) 0 ++ bytesV 8 (l.length * 8))

def stV (k : Kd) (Hs : List Nat) (i : Nat) : Nat := Hs.getD i 0 / 2 ^ (64 - k.W)
def startV (k : Kd) (Hs : List Nat) (f : Nat) : St := ⟨stV k Hs f, stV k Hs (f + 1), stV k Hs (f + 2), stV k Hs (f + 3), stV k Hs (f + 4), stV k Hs (f + 5), stV k Hs (f + 6), stV k Hs (f + 7)⟩

def toldV (k : Kd) (s : St) : List UInt8 := s.list.flatMap (bytesV k.B)

def summedV (k : Kd) (Hs Ks : List Nat) (f size : Nat) (l : List UInt8) : List UInt8 :=
  (toldV k (workV k Ks k.size 2 (workV k Ks k.size (l.length / k.size) (startV k Hs f) l) (endV k l))).take size

def sumV (Hs Ks : List Nat) (bits : Int) (l : List UInt8) : Option (List UInt8) :=
  if bits = 256 then some (summedV nar Hs Ks 0 32 l) else if bits = 384 then some (summedV wid Hs Ks 8 48 l) else if bits = 512 then some (summedV wid Hs Ks 0 64 l) else none

end Go.Proofs.Ytplabofdcnpcpaa
