/-
  Plain functions on lists of bytes that the walks of package host speak of: digits and numbers, four bytes, eight pieces, names: nothing of the program stands here.
-/
import Derived.Test.YtdpihilikhbamaaGreatDoorPe
import Derived.Test.YtdpihilikhbamaaGreatDoorPf
import Derived.Lib.IndexMore
import Derived.Lib.Join
set_option linter.unusedSimpArgs false
set_option linter.unusedVariables false
namespace Go.Proofs.YtdpihilikhbamaaGreatDoor

/-- The bytes that stand in no host. -/
def forbL : List UInt8 := [0, 9, 10, 13, 32, 35, 47, 58, 60, 62, 63, 64, 91, 92, 93, 94, 124]
def forb (c : UInt8) : Bool := decide (0 ≤ Lib.indexByte forbL c)

/-- The value of a digit of sixteen; 16: it is none. -/
def dig16 (c : UInt8) : Nat :=
  if 48 ≤ c.toNat ∧ c.toNat ≤ 57 then c.toNat - 48 else if 97 ≤ c.toNat ∧ c.toNat ≤ 102 then c.toNat - 87 else if 65 ≤ c.toNat ∧ c.toNat ≤ 70 then c.toNat - 55 else 16

/-- The number that digits are, behind the number n; held at two to the power of 32. -/
def valN (base : Nat) : Nat → List UInt8 → Option Nat
  | n, [] => some n
  | n, c :: l => if dig16 c < base then valN base (min (n * base + dig16 c) 4294967296) l else none

def valV (base : Nat) (l : List UInt8) : Option Nat := valN base 0 l

/-- What stands behind the mark of sixteen. -/
def marked (l : List UInt8) : Bool := Lib.hasPrefix l [48, 120] || Lib.hasPrefix l [48, 88]

def numV (l : List UInt8) : Option Nat :=
  if marked l then valV 16 (l.drop 2)
  else match l with
    | [] => none
    | c :: r => if c = 48 then valV 8 r else valV 10 (c :: r)

/-- Four bytes of at most r labels, behind the ones that were read. -/
def fourN : Nat → Nat → List UInt8 → Option Nat
  | 0, _, _ => none
  | r + 1, high, rest =>
    match numV (Lib.cut rest [46]).1 with
    | none => none
    | some n =>
      if (Lib.cut rest [46]).2.2 then (if 255 < n then none else fourN r (high * 256 + n) (Lib.cut rest [46]).2.1)
      else if n < 2 ^ (8 * (r + 1)) then some (high * 2 ^ (8 * (r + 1)) + n) else none

def noDot (l : List UInt8) : List UInt8 := Lib.trimSuffix l [46]

def fourV (l : List UInt8) : Option Nat := fourN 4 0 (noDot l)

/-- The last label. -/
def lastLab (l : List UInt8) : List UInt8 := (l.reverse.takeWhile (· != 46)).reverse

def numberedV (l : List UInt8) : Bool :=
  if marked (lastLab (noDot l)) then (valV 16 ((lastLab (noDot l)).drop 2)).isSome
  else decide (lastLab (noDot l) ≠ []) && (valV 10 (lastLab (noDot l))).isSome

/-- A byte in tens. -/
def dec8 (n : Nat) : List UInt8 :=
  if n < 10 then [UInt8.ofNat (48 + n)] else if n < 100 then [UInt8.ofNat (48 + n / 10), UInt8.ofNat (48 + n % 10)] else [UInt8.ofNat (48 + n / 100), UInt8.ofNat (48 + n / 10 % 10), UInt8.ofNat (48 + n % 10)]

def text4 (n : Nat) : List UInt8 := dec8 (n / 16777216 % 256) ++ 46 :: (dec8 (n / 65536 % 256) ++ 46 :: (dec8 (n / 256 % 256) ++ 46 :: dec8 (n % 256)))

/-- A decimal number of 0 to 255 with no nought ahead. -/
def plainB (l : List UInt8) : Option Nat :=
  match valV 10 l with
  | none => none
  | some n => if 255 < n ∨ l = [] ∨ (l.head? = some 48 ∧ l ≠ [48]) then none else some n

def dotN : Nat → Nat → List UInt8 → Option Nat
  | 0, n, _ => some n
  | r + 1, n, rest =>
    match plainB (Lib.cut rest [46]).1 with
    | none => none
    | some b => if (Lib.cut rest [46]).2.2 = decide (r ≠ 0) then dotN r (n * 256 + b) (Lib.cut rest [46]).2.1 else none

def dottedV (l : List UInt8) : Option Nat := dotN 4 0 l

/-- A piece: i digits of it were read as n; 'whole': what four decimal numbers in its place are. -/
def scanP (whole : Option Nat) (last : Bool) : Nat → Nat → List UInt8 → Option (List Nat)
  | i, n, [] => if i = 0 then none else some [n]
  | i, n, c :: l =>
    if c = 46 ∧ last = true then whole.map fun m => [m / 65536, m % 65536]
    else if dig16 c < 16 ∧ i ≠ 4 then scanP whole last (i + 1) (n * 16 + dig16 c) l else none

def pieceV (last : Bool) (p : List UInt8) : Option (List Nat) := scanP (dottedV p) last 0 0 p

/-- Pieces parted by ':', at most f more. -/
def piecesN (atEnd : Bool) : Nat → List Nat → List UInt8 → Bool → Option (List Nat)
  | _, out, _, false => some out
  | 0, _, _, true => none
  | f + 1, out, rest, true =>
    match pieceV (atEnd && !(Lib.cut rest [58]).2.2) (Lib.cut rest [58]).1 with
    | none => none
    | some ns => piecesN atEnd f (out ++ ns) (Lib.cut rest [58]).2.1 (Lib.cut rest [58]).2.2

def piecesV (l : List UInt8) (atEnd : Bool) : Option (List Nat) := piecesN atEnd 8 [] l (decide (l ≠ []))

/-- Eight pieces. -/
def sixV (l : List UInt8) : Option (List Nat) :=
  match piecesV (Lib.cut l [58, 58]).1 (!(Lib.cut l [58, 58]).2.2), piecesV (Lib.cut l [58, 58]).2.1 true with
  | some a, some b =>
    if a.length + b.length ≤ 8 ∧ ((Lib.cut l [58, 58]).2.2 = true ↔ a.length + b.length < 8) then some (a ++ List.replicate (8 - a.length - b.length) 0 ++ b) else none
  | _, _ => none

/-- Digits of a base, small letters. -/
def digC (n : Nat) : UInt8 := if n < 10 then UInt8.ofNat (48 + n) else UInt8.ofNat (87 + n)

def digsN (base : Nat) : Nat → Nat → List UInt8 → List UInt8
  | 0, _, acc => acc
  | f + 1, n, acc => if n < base then digC n :: acc else digsN base f (n / base) (digC (n % base) :: acc)

def hex16 (n : Nat) : List UInt8 := digsN 16 4 n []

/-- How many noughts stand at the head. -/
def zeros : List Nat → Nat
  | [] => 0
  | n :: l => if n = 0 then zeros l + 1 else 0

/-- The first of the longest runs among the places from i on. -/
def lrunN : Nat → Nat → Nat → Nat → List Nat → Nat × Nat
  | _, _, fr, to, [] => (fr, to)
  | f, i, fr, to, n :: l =>
    if max (to - fr) 1 < zeros (n :: l) then lrunN f (i + 1) i (i + zeros (n :: l)) l else lrunN f (i + 1) fr to l

def lrun (x : List Nat) : Nat × Nat := lrunN 0 0 0 0 x

def joined (x : List Nat) : List UInt8 := Lib.join (x.map hex16) [58]

def text6 (x : List Nat) : List UInt8 :=
  if (lrun x).1 = (lrun x).2 then joined x else joined (x.take (lrun x).1) ++ ([58, 58] ++ joined (x.drop (lrun x).2))

def nameB (c : UInt8) : Bool := !(decide (c.toNat < 33) || (decide (126 < c.toNat) || (c == 37 || forb c)))

def coded (l : List UInt8) : Bool := Lib.hasPrefix l [120, 110, 45, 45] || Lib.contains l [46, 120, 110, 45, 45]

def allN (l : List UInt8) : Bool := l.all nameB

def nameV (l : List UInt8) : Option (List UInt8) :=
  if l = [] ∨ allN l = false ∨ coded l = true then none
  else if numberedV l then (fourV l).map text4 else some l

def otherV (l : List UInt8) : Option (List UInt8) := if l.any forb then none else some (pct 1 l)

def bracketV (l : List UInt8) : Option (List UInt8) :=
  if Lib.hasSuffix l [93] then (sixV (Lib.trimSuffix l [93])).map fun x => 91 :: (text6 x ++ [93]) else none

def parseV (l : List UInt8) (special : Bool) : Option (List UInt8) :=
  if Lib.hasPrefix l [91] then bracketV (l.drop 1) else if special then nameV (low (unpct l)) else otherV l

end Go.Proofs.YtdpihilikhbamaaGreatDoor
