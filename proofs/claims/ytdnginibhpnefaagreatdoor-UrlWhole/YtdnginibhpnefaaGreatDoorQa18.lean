/-
  Walks and plain facts that this claim leans on, put together out of 9 texts: Yk, Hj, Pg, Xa, Xb, Ym, Yn, Era, Uv.
-/
import Derived.Test.YtdnginibhpnefaaGreatDoorProg
import Derived.Test.YtdnginibhpnefaaGreatDoorQa1
import Derived.Test.YtdnginibhpnefaaGreatDoorQa2
import Derived.Test.YtdnginibhpnefaaGreatDoorQa3
import Derived.Test.YtdnginibhpnefaaGreatDoorQa4
import Derived.Test.YtdnginibhpnefaaGreatDoorQa5
import Derived.Test.YtdnginibhpnefaaGreatDoorQa6
import Derived.Test.YtdnginibhpnefaaGreatDoorQa7
import Derived.Test.YtdnginibhpnefaaGreatDoorQa8
import Derived.Test.YtdnginibhpnefaaGreatDoorQa9
import Derived.Test.YtdnginibhpnefaaGreatDoorQa10
import Derived.Test.YtdnginibhpnefaaGreatDoorQa11
import Derived.Test.YtdnginibhpnefaaGreatDoorQa12
import Derived.Test.YtdnginibhpnefaaGreatDoorQa13
import Derived.Test.YtdnginibhpnefaaGreatDoorQa14
import Derived.Test.YtdnginibhpnefaaGreatDoorQa17
import Derived.WalkKit
import Derived.Laws.BitsAllLaws
import Derived.Lib.LastIndexByte
import Derived.Lib.IndexMore
import Derived.Lib.Join
import Derived.Laws.CopyOwn
import Derived.Laws.ResultCell
import Derived.Deep.MidRow
import Derived.Deep.LoopGhost
import Derived.Lib.Strings
import Derived.Lib.UnsafeStr
import Derived.Laws.IdiomStrings
import Derived.Laws.AppendOwn
import Derived.Shelf.Strings.Builder1
import Derived.Shelf.Strings.Builder2
import Derived.Shelf.Strings.OnBuilder
import Derived.Shelf.Strings.Trim
import Derived.Shelf.Small.Utf8
import Derived.Shelf.Small.Strs
import Derived.Shelf.Small.Wraps
import Derived.Shelf.Strings.BuilderF
import Derived.Shelf.Strings.BuilderK
import Derived.Shelf.Strings.Builder2Cap
import Derived.Shelf.Strconv.Itoa0
import Derived.Shelf.Strconv.Itoa1
import Derived.Shelf.LaysM
import Derived.Shelf.Strconv.Itoa2
import Derived.Shelf.Strconv.Itoa3
import Derived.Shelf.Strings.Search1
import Derived.Shelf.Strings.Search2
import Derived.Shelf.Strings.Search3
import Derived.Shelf.Strings.Cut
import Derived.Shelf.Strings.Count
import Derived.Shelf.Strings.Shaped
import Derived.Shelf.Strings.LastIndex
import Derived.Shelf.Strings.Prefix
import Derived.Shelf.Strings.Split
import Derived.Shelf.Strings.Replace
import Derived.Shelf.Strings.Runes
import Derived.Shelf.Strings.IndexAny
import Derived.Shelf.Strings.AsciiSet
import Derived.Shelf.Strings.IndexAnyAll
import Derived.Shelf.Unicode.DecodeSlow
import Derived.Ground.Names2Prog
import Derived.Shelf.Slices.Clone
import Derived.Ground.SlgnProg
import Derived.Shelf.SlicesE.Clone
import Derived.WalkMore
import Derived.OwnWalk
import Derived.Deep.RegionWith
import Derived.Lib.AppendIntMem
import Derived.Lib.SmallJoins
import Derived.WalkSmall
import Derived.WalkSpells
import Derived.WalkLawsBesides
import Derived.Lib.IndexAny
import Derived.Lib.Replace
import Derived.Lib.TrimByte
import Derived.Lib.ItoaNum
import Derived.Lib.BufferMore
import Derived.Lib.Bytealg
import Derived.Lib.FrozenHead2
import Derived.Lib.OthersKept
import Derived.Lib.Builder
import Derived.Lib.SlTrimSet
import Derived.LoopN
import Derived.RegionTactic
import Derived.Deep.QuietTactic
import Derived.BigQuiet
import Derived.Laws.RangeAny
import Derived.Lib.DecodeN
import Derived.Deep.RegionLaw
import Derived.Laws.OwnMore
import Derived.Deep.WholeRow
import Derived.BigRegion
import Derived.Scope
import Derived.ScopeJumps
import Derived.Laws.BytesString
set_option linter.unusedSimpArgs false
set_option linter.unusedVariables false

namespace Go.Proofs.YtdnginibhpnefaaGreatDoor
theorem w_drop_no (p : UInt8 → Bool) (l : List UInt8) (h : ∀ c ∈ l, p c = false) : l.dropWhile p = l := by
  cases l with
  | nil => rfl
  | cons c l => rw [List.dropWhile_cons, h c (by simp)]; rfl

theorem w_clean_id (l : List UInt8) (h : ∀ c ∈ l, 33 ≤ c.toNat) : cleanV l = l := by
  have hw : ∀ c ∈ l, wsC c = false := fun c hc => by unfold wsC; rw [decide_eq_false]; have := h c hc; omega
  unfold cleanV trimV
  rw [w_drop_no wsC l hw, w_drop_no wsC l.reverse (fun c hc => hw c (by simpa using hc)), List.reverse_reverse, List.filter_eq_self]
  intro c hc
  have := h c hc
  unfold eyeC
  simp only [Bool.not_eq_true', Bool.or_eq_false_iff, beq_eq_false_iff_ne]
  refine ⟨?_, ?_, ?_⟩ <;> (intro e; subst e; revert this; decide)

theorem w_take_yes (p : UInt8 → Bool) (l : List UInt8) (h : ∀ c ∈ l, p c = true) : l.takeWhile p = l := by
  induction l with
  | nil => rfl
  | cons c l ih => rw [List.takeWhile_cons, h c (by simp), if_pos rfl, ih fun d hd => h d (by simp [hd])]

theorem w_drop_yes (p : UInt8 → Bool) (l : List UInt8) (h : ∀ c ∈ l, p c = true) : l.dropWhile p = [] := by
  induction l with
  | nil => rfl
  | cons c l ih => rw [List.dropWhile_cons, h c (by simp), if_pos rfl, ih fun d hd => h d (by simp [hd])]

theorem ahead_all (ends l : List UInt8) (h : ∀ c ∈ l, c ∉ ends) : aheadV ends l = (l, []) := by
  have key : ∀ c ∈ l, (!ends.contains c) = true := fun c hc => by simp [h c hc]
  unfold aheadV
  rw [w_take_yes _ l key, w_drop_yes _ l key]

theorem ahead_at (ends a : List UInt8) (c : UInt8) (r : List UInt8) (h : ∀ c ∈ a, c ∉ ends) (hc : c ∈ ends) : aheadV ends (a ++ c :: r) = (a, c :: r) := by
  have hk : (!ends.contains c) = false := by simp [hc]
  have key : ∀ x ∈ a, (!ends.contains x) = true := fun x hx => by simp [h x hx]
  unfold aheadV
  congr 1
  · rw [takeWhile_stop _ c hk, w_take_yes _ a key]
  · induction a with
    | nil => rw [List.nil_append, List.dropWhile_cons, hk]; rfl
    | cons x a ih => rw [List.cons_append, List.dropWhile_cons, key x (by simp), if_pos rfl]; exact ih (fun d hd => h d (by simp [hd])) (fun d hd => key d (by simp [hd]))

theorem colN_plain : ∀ (l : List UInt8) (i k : Nat), (∀ c ∈ l, c ≠ 58 ∧ c ≠ 91) → colN false i k l = k
  | [], i, k, h => rfl
  | c :: l, i, k, h => by
    rw [colN, if_neg (h c (by simp)).1, if_neg (h c (by simp)).2]
    exact colN_plain l (i + 1) k fun d hd => h d (by simp [hd])

theorem colN_at11 : ∀ (a t : List UInt8) (i k : Nat), (∀ c ∈ a, c ≠ 58 ∧ c ≠ 91) → (∀ c ∈ t, c ≠ 58 ∧ c ≠ 91) → colN false i k (a ++ 58 :: t) = i + a.length
  | [], t, i, k, _, h => by
    rw [List.nil_append, colN, if_pos rfl, colN_plain t _ _ h]; rfl
  | c :: a, t, i, k, h1, h2 => by
    rw [List.cons_append, colN, if_neg (h1 c (by simp)).1, if_neg (h1 c (by simp)).2, colN_at11 a t (i + 1) k (fun d hd => h1 d (by simp [hd])) h2]
    simp; omega

/-- A byte that may stand in a plain authority. -/
def auC (c : UInt8) : Bool := decide (33 ≤ c.toNat) && (c != 35 && (c != 47 && (c != 63 && (c != 64 && (c != 92 && c != 91)))))

/-- A byte that may stand in a plain path. -/
def paC (c : UInt8) : Bool := decide (33 ≤ c.toNat) && (c != 35 && (c != 63 && c != 92))

theorem auC_facts {c : UInt8} (h : auC c = true) : 33 ≤ c.toNat ∧ c ≠ 35 ∧ c ≠ 47 ∧ c ≠ 63 ∧ c ≠ 64 ∧ c ≠ 92 ∧ c ≠ 91 := by
  unfold auC at h
  simpa [Bool.and_eq_true] using h

theorem paC_facts {c : UInt8} (h : paC c = true) : 33 ≤ c.toNat ∧ c ≠ 35 ∧ c ≠ 63 ∧ c ≠ 92 := by
  unfold paC at h
  simpa [Bool.and_eq_true] using h

/-- An address of a host, a port and a path. -/
def wAdr (sc h : List UInt8) (port : Int) (path : List (List UInt8)) : Adr := ⟨sc, [], [], h, true, port, false, path, [], [], false, false⟩

theorem web_auth (sc h pt H : List UInt8) (port : Int) (hsc : specV sc = true) (hau : ∀ c ∈ h ++ pt, auC c = true) (h0 : H ≠ []) (h58 : 58 ∉ h)
    (hpt : (pt = [] ∧ port = -1) ∨ ∃ t, pt = 58 :: t ∧ 58 ∉ t ∧ portV (ownV sc) t = some port) (hpv : parseV h true = some H) :
    authV sc (h ++ pt) = .ok ([], [], H, port) := by
  have hat : atV (h ++ pt) = ([], h ++ pt) := at_none _ fun e => (auC_facts (hau 64 e)).2.2.2.2.1 rfl
  have hh : ∀ c ∈ h, c ≠ 58 ∧ c ≠ 91 := fun c hc => ⟨fun e => h58 (e ▸ hc), (auC_facts (hau c (by simp [hc]))).2.2.2.2.2.2⟩
  have hcol : colV (h ++ pt) = h.length ∧ portV (ownV sc) (((h ++ pt).drop h.length).drop 1) = some port := by
    rcases hpt with ⟨rfl, rfl⟩ | ⟨t, rfl, ht, hp⟩
    · rw [List.append_nil, colV, colN_plain h _ _ hh]
      simp [portV]
    · have h2 : ∀ c ∈ t, c ≠ 58 ∧ c ≠ 91 := fun c hc => ⟨fun e => ht (e ▸ hc), (auC_facts (hau c (by simp [hc]))).2.2.2.2.2.2⟩
      rw [colV, colN_at11 h t 0 _ hh h2]
      simp [hp]
  unfold authV
  rw [hat]
  simp only
  rw [hcol.1, hcol.2]
  simp only
  rw [List.take_left, hsc, hpv]
  simp only
  rw [if_neg (fun e => h0 e.1)]
  rfl

/-- Letters of either size, digits and the point. -/
def hnC (c : UInt8) : Bool := (decide (97 ≤ c.toNat) && decide (c.toNat ≤ 122)) || ((decide (65 ≤ c.toNat) && decide (c.toNat ≤ 90)) || ((decide (48 ≤ c.toNat) && decide (c.toNat ≤ 57)) || c == 46))

end Go.Proofs.YtdnginibhpnefaaGreatDoor

namespace Go.Proofs.YtdnginibhpnefaaGreatDoor
theorem forb_hexD : ∀ n < 16, forb (hexD n) = false := by decide +kernel

theorem pct_forb (l : List UInt8) (h : l.any forb = false) : (pct 1 l).any forb = false := by
  rw [List.any_eq_false] at h ⊢
  intro d hd
  unfold pct at hd
  rw [List.mem_flatMap] at hd
  obtain ⟨c, hc, hd⟩ := hd
  unfold pct1 at hd
  split at hd
  · unfold esc at hd
    have h1 := forb_hexD (c.toNat / 16) (by have := c.toNat_lt; omega)
    have h2 := forb_hexD (c.toNat % 16) (by omega)
    simp only [List.mem_cons, List.not_mem_nil, or_false] at hd
    rcases hd with rfl | rfl | rfl
    · decide
    · rw [h1]; decide
    · rw [h2]; decide
  · simp only [List.mem_cons, List.not_mem_nil, or_false] at hd
    subst hd
    exact h d hc

end Go.Proofs.YtdnginibhpnefaaGreatDoor

namespace Go.Proofs.YtdnginibhpnefaaGreatDoor
def blC (c : UInt8) : Bool := blankI c.toNat

theorem all_reverse (A : List UInt8) (h : A.all blC = true) : A.reverse.all blC = true := by simpa using h

end Go.Proofs.YtdnginibhpnefaaGreatDoor

namespace Go.Proofs.YtdnginibhpnefaaGreatDoor
/-- A header. -/
structure Hd where
  name : List UInt8
  value : List UInt8
deriving DecidableEq

def bndV (l : List UInt8) : Int := if l = [] then -1 else intV l

def bndOk (l : List UInt8) : Bool := l == [] || intOk l

end Go.Proofs.YtdnginibhpnefaaGreatDoor

namespace Go.Proofs.YtdnginibhpnefaaGreatDoor
/-- T is the number n in tens. -/
def Dec (n : Nat) (T : List UInt8) : Prop := T ≠ [] ∧ T.all digP = true ∧ numI T = (n : Int) ∧ T.length ≤ 40

/-- On the way there: T stands behind the digits of u. -/
def DecI (n f u : Nat) (T : List UInt8) : Prop :=
  u < 10 ^ f ∧ T.length + f = 20 ∧ T.all digP = true ∧ (∀ X : List UInt8, X.all digP = true → numI X = (u : Int) → numI (X ++ T) = (n : Int)) ∧ (u = 0 → T = [] ∨ numI T = (n : Int)) ∧ (T = [] → u = n)

theorem foldl_ten (T : List UInt8) : ∀ X : List UInt8, numI (X ++ T) = T.foldl (fun n c => ten n ((c.toNat : Int) - 48)) (numI X) := by
  intro X; simp [numI, List.foldl_append]

def decC (d : Nat) : UInt8 := UInt8.ofNat (48 + d)

theorem decC_val (d : Nat) (h : d < 10) : ((decC d).toNat : Int) - 48 = (d : Int) ∧ digP (decC d) = true := by
  rcases (show d = 0 ∨ d = 1 ∨ d = 2 ∨ d = 3 ∨ d = 4 ∨ d = 5 ∨ d = 6 ∨ d = 7 ∨ d = 8 ∨ d = 9 from by omega) with
    rfl | rfl | rfl | rfl | rfl | rfl | rfl | rfl | rfl | rfl <;> decide

theorem decI_start (n : Nat) (h : n < 10 ^ 20) : DecI n 20 n [] :=
  ⟨h, rfl, rfl, fun X _ hx => by simpa using hx, fun _ => .inl rfl, fun _ => rfl⟩

theorem decI_step (n f u : Nat) (T : List UInt8) (hn : n ≤ 4294967296) (hu : u ≤ 4294967296) (h : DecI n f u T) (hp : 0 < u ∨ T = []) : ∃ g, f = g + 1 ∧ DecI n g (u / 10) (decC (u % 10) :: T) := by
  obtain ⟨h1, h2, h3, h4, h5, h6⟩ := h
  have hd := decC_val (u % 10) (by omega)
  cases f with
  | zero =>
    simp at h1
    rcases hp with hp | hp
    · omega
    · subst hp; simp at h2
  | succ g =>
    have hone : ∀ X : List UInt8, X.all digP = true → numI X = ((u / 10 : Nat) : Int) → numI (X ++ [decC (u % 10)]) = (u : Int) := by
      intro X hX hx
      rw [numI_snoc, hx, hd.1]
      unfold ten
      rw [if_neg (by omega)]
      omega
    refine ⟨g, rfl, ?_, by simp; omega, by simp [hd.2]; simpa using h3, ?_, ?_, by simp⟩
    · rw [Nat.div_lt_iff_lt_mul (by omega)]; rw [Nat.pow_succ] at h1; exact h1
    · intro X hX hx
      rw [show X ++ decC (u % 10) :: T = (X ++ [decC (u % 10)]) ++ T by simp]
      refine h4 _ ?_ (hone X hX hx)
      rw [List.all_append, hX]; simp [hd.2]
    · intro h0
      right
      have := h4 [decC (u % 10)] (by simp [hd.2]) (by have := hone [] rfl (by rw [h0]; rfl); simpa using this)
      simpa using this

theorem decI_done (n f u : Nat) (T : List UInt8) (h : DecI n f u T) (h0 : u = 0) (hT : T ≠ []) : Dec n T := by
  obtain ⟨h1, h2, h3, h4, h5, h6⟩ := h
  refine ⟨hT, h3, ?_, by omega⟩
  rcases h5 h0 with h | h
  · exact absurd h hT
  · exact h

theorem Dec.no {n : Nat} {T : List UInt8} (h : Dec n T) (c : UInt8) (hc : digP c = false) : c ∉ T := by
  intro hm
  have := List.all_eq_true.1 h.2.1 c hm
  rw [hc] at this
  cases this

theorem Dec.int {n : Nat} {T : List UInt8} (h : Dec n T) : bndV T = n ∧ bndOk T = true := by
  have e : (T.all digP && !T.isEmpty) = true := by
    rw [h.2.1]
    have := h.1
    cases T with
    | nil => exact absurd rfl this
    | cons a b => rfl
  constructor
  · unfold bndV intV
    rw [if_neg h.1, if_pos e, h.2.2.1]
  · unfold bndOk intOk
    rw [e]; simp

end Go.Proofs.YtdnginibhpnefaaGreatDoor

namespace Go.Proofs.YtdnginibhpnefaaGreatDoor
/-- A word: q, and small letters behind it. -/
def WrQ (T : List UInt8) : Prop := ∃ r : List UInt8, T = 113 :: r ∧ ∀ c ∈ r, 97 ≤ c.toNat ∧ c.toNat ≤ 122

theorem WrQ.mem {T : List UInt8} (h : WrQ T) : ∀ c ∈ T, 97 ≤ c.toNat ∧ c.toNat ≤ 122 := fun c hc => by
  obtain ⟨r, rfl, hr⟩ := h
  rcases List.mem_cons.1 hc with rfl | hc
  · decide
  · exact hr c hc

theorem WrQ.ne {T : List UInt8} (h : WrQ T) : T ≠ [] := by
  obtain ⟨r, rfl, hr⟩ := h
  simp

theorem WrQ.start : WrQ [113] := ⟨[], rfl, fun c hc => by simp at hc⟩

theorem WrQ.snoc {T : List UInt8} {c : UInt8} (h : WrQ T) (h1 : 97 ≤ c.toNat) (h2 : c.toNat ≤ 122) : WrQ (T ++ [c]) := by
  obtain ⟨r, rfl, hr⟩ := h
  refine ⟨r ++ [c], rfl, fun d hd => ?_⟩
  rcases List.mem_append.1 hd with hd | hd
  · exact hr d hd
  · obtain rfl := List.mem_singleton.1 hd
    exact ⟨h1, h2⟩

/-- What is known of a small letter. -/
theorem small_facts (c : UInt8) (h : 97 ≤ c.toNat ∧ c.toNat ≤ 122) : lowC c = c ∧ hnC c = true ∧ c ≠ 46 ∧ c ≠ 47 ∧ c ≠ 58 ∧ c ≠ 37 ∧ paC c = true ∧ inSetI c.toNat 5 = false ∧ c ≠ 42 ∧ c ≠ 39 := by
  have key : ∀ n < 256, (97 ≤ n ∧ n ≤ 122) → lowC (UInt8.ofNat n) = UInt8.ofNat n ∧ hnC (UInt8.ofNat n) = true ∧ UInt8.ofNat n ≠ 46 ∧ UInt8.ofNat n ≠ 47 ∧ UInt8.ofNat n ≠ 58 ∧ UInt8.ofNat n ≠ 37 ∧ paC (UInt8.ofNat n) = true ∧ inSetI n 5 = false ∧ UInt8.ofNat n ≠ 42 ∧ UInt8.ofNat n ≠ 39 := by decide +kernel
  have e : UInt8.ofNat c.toNat = c := by simp
  have := key c.toNat c.toNat_lt h
  rw [e] at this
  exact this

theorem WrQ.low {T : List UInt8} (h : WrQ T) : low T = T := low_plain _ fun c hc => (small_facts c (h.mem c hc)).1

theorem dec_int {n : Nat} {T : List UInt8} (h : Dec n T) : intV T = n ∧ intOk T = true := by
  obtain ⟨h1, h2, h3, h4⟩ := h
  have he : T.isEmpty = false := by
    cases T with
    | nil => exact absurd rfl h1
    | cons c r => rfl
  unfold intV intOk
  rw [h2, he]
  exact ⟨h3, rfl⟩

end Go.Proofs.YtdnginibhpnefaaGreatDoor

namespace Go.Proofs.YtdnginibhpnefaaGreatDoor
/-- Small letters, one at least. -/
def Lets (T : List UInt8) : Prop := T ≠ [] ∧ ∀ c ∈ T, 97 ≤ c.toNat ∧ c.toNat ≤ 122

theorem WrQ.lets {T : List UInt8} (h : WrQ T) : Lets T := ⟨h.ne, h.mem⟩

theorem Lets.no {T : List UInt8} (h : Lets T) : 47 ∉ T ∧ 58 ∉ T ∧ 37 ∉ T := ⟨fun e => (small_facts 47 (h.2 47 e)).2.2.2.1 rfl, fun e => (small_facts 58 (h.2 58 e)).2.2.2.2.1 rfl, fun e => (small_facts 37 (h.2 37 e)).2.2.2.2.2.1 rfl⟩

theorem Lets.unpct {T : List UInt8} (h : Lets T) : unpct T = T := unpct_plain T h.no.2.2

theorem Lets.pct {T : List UInt8} (h : Lets T) : pct 5 T = T := by
  have key : ∀ l : List UInt8, (∀ c ∈ l, 97 ≤ c.toNat ∧ c.toNat ≤ 122) → Go.Proofs.YtdnginibhpnefaaGreatDoor.pct 5 l = l := by
    intro l
    induction l with
    | nil => intro _; rfl
    | cons c l ih =>
      intro hl
      unfold Go.Proofs.YtdnginibhpnefaaGreatDoor.pct at ih ⊢
      rw [List.flatMap_cons, ih fun d hd => hl d (by simp [hd])]
      unfold pct1
      rw [(small_facts c (hl c (by simp))).2.2.2.2.2.2.2.1]
      rfl
  exact key T h.2

theorem Lets.dots {T : List UInt8} (h : Lets T) : dotsV T = 0 := by
  unfold dotsV
  rw [h.unpct]
  have h46 : 46 ∉ T := fun e => (small_facts 46 (h.2 46 e)).2.2.1 rfl
  rw [if_neg (fun e => h46 (by rw [e]; simp)), if_neg (fun e => h46 (by rw [e]; simp))]

end Go.Proofs.YtdnginibhpnefaaGreatDoor

namespace Go.Proofs.YtdnginibhpnefaaGreatDoor
/-- The special schemes. -/
def Spc (sc : List UInt8) : Prop := sc = sHttp ∨ sc = sHttps ∨ sc = sWs ∨ sc = sWss ∨ sc = sFtp

/-- A byte that may stand in a plain path, of either slash. -/
def pbC (c : UInt8) : Bool := decide (33 ≤ c.toNat) && (c != 35 && c != 63)

theorem pbC_facts {c : UInt8} (h : pbC c = true) : 33 ≤ c.toNat ∧ c ≠ 35 ∧ c ≠ 63 := by
  unfold pbC at h
  simpa [Bool.and_eq_true] using h

theorem paC_pb {c : UInt8} (h : paC c = true) : pbC c = true := by
  have := paC_facts h
  unfold pbC
  simp [this.1, this.2.1, this.2.2.1]

theorem auC_pb {c : UInt8} (h : auC c = true) : pbC c = true := by
  have := auC_facts h
  unfold pbC
  simp [this.1, this.2.1, this.2.2.2.1]

theorem slC_pb {c : UInt8} (h : pbC c = true) : pbC (slC c) = true := by
  unfold slC
  split
  · decide
  · exact h

theorem skip_all : ∀ (a b : List UInt8), (∀ c ∈ a, c = 47) → skip47 (a ++ b) = skip47 b
  | [], b, _ => rfl
  | c :: a, b, h => by
    have := h c (by simp)
    subst this
    have ih := skip_all a b fun d hd => h d (by simp [hd])
    unfold skip47 at ih ⊢
    rw [List.cons_append, List.dropWhile_cons, if_pos (by decide)]
    exact ih

theorem web5_gen (sc sl h pt p : List UInt8) (hsc : Spc sc) (hsl : ∀ c ∈ sl, c = 47 ∨ c = 92) (hau : ∀ c ∈ h ++ pt, auC c = true) (hpa : ∀ c ∈ p, pbC c = true) (hh0 : h ≠ []) (hp : p = [] ∨ ∃ c p', p = c :: p' ∧ (c = 47 ∨ c = 92))
    (hl : sl.length + h.length + pt.length + p.length ≤ 280) :
    readV (sc ++ 58 :: (sl ++ (h ++ (pt ++ p)))) none = (match authV sc (h ++ pt) with
      | .error e => .error e
      | .ok (a, b, H, po) => .ok ⟨sc, a, b, H, true, po, false, pathV true [] (p.map slC), [], [], false, false⟩) ∧ (sc ++ 58 :: (sl ++ (h ++ (pt ++ p)))).length ≤ 300 := by
  have hspec : specV sc = true := by rcases hsc with rfl | rfl | rfl | rfl | rfl <;> decide
  have hs58 : 58 ∉ sc := by rcases hsc with rfl | rfl | rfl | rfl | rfl <;> decide
  have hs33 : ∀ c ∈ sc, pbC c = true := by rcases hsc with rfl | rfl | rfl | rfl | rfl <;> decide
  have hslen : sc.length ≤ 5 := by rcases hsc with rfl | rfl | rfl | rfl | rfl <;> decide
  have hr2 : ∀ c ∈ sl ++ (h ++ (pt ++ p)), pbC c = true := fun c hc => by
    rcases List.mem_append.1 hc with hc | hc
    · rcases hsl c hc with rfl | rfl <;> decide
    · rcases List.mem_append.1 hc with hc | hc
      · exact auC_pb (hau c (by simp [hc]))
      · rcases List.mem_append.1 hc with hc | hc
        · exact auC_pb (hau c (by simp [hc]))
        · exact hpa c hc
  have hall : ∀ c ∈ sc ++ 58 :: (sl ++ (h ++ (pt ++ p))), pbC c = true := fun c hc => by
    rcases List.mem_append.1 hc with hc | hc
    · exact hs33 c hc
    · rcases List.mem_cons.1 hc with rfl | hc
      · decide
      · exact hr2 c hc
  have hlen : (sc ++ 58 :: (sl ++ (h ++ (pt ++ p)))).length ≤ 300 := by simp; omega
  refine ⟨?_, hlen⟩
  have hcl := w_clean_id _ (fun c hc => (pbC_facts (hall c hc)).1)
  have hp35 : part 35 (sc ++ 58 :: (sl ++ (h ++ (pt ++ p)))) = (sc ++ 58 :: (sl ++ (h ++ (pt ++ p))), [], false) := part_none 35 _ (fun hm => (pbC_facts (hall 35 hm)).2.1 rfl)
  have hp58 : part 58 (sc ++ 58 :: (sl ++ (h ++ (pt ++ p)))) = (sc, sl ++ (h ++ (pt ++ p)), true) := part_some 58 sc _ hs58
  have hsch : schemeV (sc ++ 58 :: (sl ++ (h ++ (pt ++ p)))) = some (sc, sl ++ (h ++ (pt ++ p))) := by
    unfold schemeV
    rw [hp58]
    simp only
    have e1 : schOk sc = true := by rcases hsc with rfl | rfl | rfl | rfl | rfl <;> decide
    have e2 : low sc = sc := by rcases hsc with rfl | rfl | rfl | rfl | rfl <;> decide
    rw [e1, e2]; rfl
  have hbe : beginU (sc ++ 58 :: (sl ++ (h ++ (pt ++ p)))) = (⟨sc, [], [], [], false, -1, false, [], [], [], false, false⟩, sl ++ (h ++ (pt ++ p))) := by
    unfold beginU
    simp only [hcl, hp35, hsch, Option.getD_some]
    rfl
  have hno92 : ∀ l : List UInt8, (∀ c ∈ l, auC c = true) → l.map slC = l := fun l hl => slC_none l fun e => (auC_facts (hl 92 e)).2.2.2.2.2.1 rfl
  have hslv : slashV (sl ++ (h ++ (pt ++ p))) = sl.map slC ++ (h ++ (pt ++ p.map slC)) := by
    unfold slashV
    rw [ahead_all [63] _ (fun c hc => by simp; exact (pbC_facts (hr2 c hc)).2.2)]
    simp only [List.map_append, List.append_nil]
    rw [hno92 h (fun c hc => hau c (by simp [hc])), hno92 pt (fun c hc => hau c (by simp [hc]))]
  have hsk : skip47 (sl.map slC ++ (h ++ (pt ++ p.map slC))) = h ++ (pt ++ p.map slC) := by
    rw [skip_all _ _ (fun c hc => by
      obtain ⟨d, hd, rfl⟩ := List.mem_map.1 hc
      rcases hsl d hd with rfl | rfl <;> decide)]
    unfold skip47
    cases h with
    | nil => exact absurd rfl hh0
    | cons c h =>
      rw [List.cons_append, List.dropWhile_cons, if_neg]
      have := (auC_facts (hau c (by simp))).2.2.1
      simpa using this
  have hah : aheadV [47, 63] (h ++ (pt ++ p.map slC)) = (h ++ pt, p.map slC) := by
    have hno : ∀ c ∈ h ++ pt, c ∉ ([47, 63] : List UInt8) := fun c hc => by
      have := auC_facts (hau c hc)
      simp [this.2.2.1, this.2.2.2.1]
    rw [← List.append_assoc]
    rcases hp with rfl | ⟨c, p', rfl, hc⟩
    · rw [List.map_nil, List.append_nil]; exact ahead_all _ _ hno
    · rw [List.map_cons]
      have : slC c = 47 := by rcases hc with rfl | rfl <;> decide
      rw [this]
      exact ahead_at _ _ _ _ hno (by simp)
  have hq : aheadV [63] (p.map slC) = (p.map slC, []) := ahead_all [63] _ (fun c hc => by
    obtain ⟨d, hd, rfl⟩ := List.mem_map.1 hc
    simp
    exact (pbC_facts (slC_pb (hpa d hd))).2.2)
  unfold readV
  rw [if_neg (by omega), hbe]
  simp only
  have hne : sc ≠ [] := by rcases hsc with rfl | rfl | rfl | rfl | rfl <;> decide
  rw [if_neg hne]
  unfold startV
  simp only
  rw [hspec, if_pos rfl, hslv, hsk]
  unfold withAuth
  simp only
  rw [hah]
  simp only
  cases authV sc (h ++ pt) with
  | error e => rfl
  | ok x =>
    obtain ⟨a, b, H, po⟩ := x
    simp only
    unfold withPath withQuery
    simp only
    rw [hq, hspec]
    rfl

theorem web5_read (sc sl h pt p H : List UInt8) (port : Int) (hsc : Spc sc) (hsl : ∀ c ∈ sl, c = 47 ∨ c = 92) (hau : ∀ c ∈ h ++ pt, auC c = true) (hpa : ∀ c ∈ p, pbC c = true) (hh0 : h ≠ []) (h0 : H ≠ []) (h58 : 58 ∉ h)
    (hpt : (pt = [] ∧ port = -1) ∨ ∃ t, pt = 58 :: t ∧ 58 ∉ t ∧ portV (ownV sc) t = some port) (hp : p = [] ∨ ∃ c p', p = c :: p' ∧ (c = 47 ∨ c = 92)) (hpv : parseV h true = some H)
    (hl : sl.length + h.length + pt.length + p.length ≤ 280) :
    readV (sc ++ 58 :: (sl ++ (h ++ (pt ++ p)))) none = .ok (wAdr sc H port (pathV true [] (p.map slC))) ∧ (sc ++ 58 :: (sl ++ (h ++ (pt ++ p)))).length ≤ 300 := by
  obtain ⟨h1, h2⟩ := web5_gen sc sl h pt p hsc hsl hau hpa hh0 hp hl
  have hspec : specV sc = true := by rcases hsc with rfl | rfl | rfl | rfl | rfl <;> decide
  rw [web_auth sc h pt H port hspec hau h0 h58 hpt hpv] at h1
  exact ⟨h1, h2⟩

theorem text_w (sc H : List UInt8) (port : Int) (path : List (List UInt8)) : textV (wAdr sc H port path) = sc ++ 58 :: 47 :: 47 :: (H ++ ((if port = -1 then [] else 58 :: portT port) ++ path.flatMap (fun p => 47 :: p))) := by
  unfold textV bareV authT pathT wAdr
  simp

/-- What the laws' text answers. -/
def textL (s : List UInt8) : List UInt8 := match readV s none with
  | .ok u => textV u
  | .error _ => []

def joinedL (s base : List UInt8) : List UInt8 := match readV s (some (adrOf (readV base none))) with
  | .ok u => textV u
  | .error _ => []

theorem textL_ok {s : List UInt8} {u : Adr} (h : readV s none = .ok u) : textL s = textV u := by unfold textL; rw [h]

/-- The address of a host h, without a port, of a path. -/
theorem h_text (sc sl p : List UInt8) (hsc : Spc sc) (hsl : ∀ c ∈ sl, c = 47 ∨ c = 92) (hpa : ∀ c ∈ p, pbC c = true) (hp : p = [] ∨ ∃ c p', p = c :: p' ∧ (c = 47 ∨ c = 92)) (hl : sl.length + p.length ≤ 270) :
    textL (sc ++ 58 :: (sl ++ (104 :: p))) = sc ++ 58 :: 47 :: 47 :: 104 :: (pathV true [] (p.map slC)).flatMap (fun p => 47 :: p) := by
  have := (web5_read sc sl [104] [] p [104] (-1) hsc hsl (by decide) hpa (by simp) (by simp) (by decide) (.inl ⟨rfl, rfl⟩) hp (by decide +kernel) (by simp; omega)).1
  have e : textL (sc ++ 58 :: (sl ++ (104 :: p))) = textV (wAdr sc [104] (-1) (pathV true [] (p.map slC))) := textL_ok this
  rw [e, text_w]
  rfl

theorem lets_pb {T : List UInt8} (h : Lets T) : ∀ c ∈ T, pbC c = true := fun c hc => paC_pb (small_facts c (h.2 c hc)).2.2.2.2.2.2.1

theorem lets_sl {T : List UInt8} (h : Lets T) : T.map slC = T := slC_none T fun e => (paC_facts (small_facts 92 (h.2 92 e)).2.2.2.2.2.2.1).2.2.2 rfl

theorem pathV_47 (r : List UInt8) : pathV true [] (47 :: r) = pathL [] (cutL 47 r) := by
  unfold pathV
  rw [if_neg (by simp)]
  simp [over1]

theorem path_one {b : List UInt8} (hb : Lets b) : pathV true [] (47 :: b) = [b] := by
  rw [pathV_47, cutL_none 47 b hb.no.1, pathL, hb.dots, if_neg (by decide), if_neg (by decide), hb.pct]; rfl

theorem h_text_one (sc sl b : List UInt8) (c : UInt8) (hc : c = 47 ∨ c = 92) (hsc : Spc sc) (hsl : ∀ c ∈ sl, c = 47 ∨ c = 92) (hb : Lets b) (hl : sl.length + b.length ≤ 260) :
    textL (sc ++ 58 :: (sl ++ (104 :: c :: b))) = sc ++ 58 :: 47 :: 47 :: 104 :: 47 :: b := by
  rw [h_text sc sl (c :: b) hsc hsl (fun d hd => by
    rcases List.mem_cons.1 hd with rfl | hd
    · rcases hc with rfl | rfl <;> decide
    · exact lets_pb hb d hd) (.inr ⟨c, b, rfl, hc⟩) (by simp; omega)]
  have : slC c = 47 := by rcases hc with rfl | rfl <;> decide
  rw [List.map_cons, this, lets_sl hb, path_one hb]
  simp

theorem dots_pb {l : List UInt8} (h : ∀ c ∈ l, c = 47 ∨ c = 46 ∨ c = 37 ∨ c = 50 ∨ c = 69 ∨ c = 101 ∨ pbC c = true) : ∀ c ∈ l, pbC c = true := fun c hc => by
  rcases h c hc with rfl | rfl | rfl | rfl | rfl | rfl | h
  · decide
  · decide
  · decide
  · decide
  · decide
  · decide
  · exact h

theorem d_1 : dotsV [46] = 1 ∧ dotsV [46, 46] = 2 ∧ dotsV [37, 50, 69, 37, 50, 101] = 2 ∧ dotsV [37, 50, 101] = 1 := by decide +kernel

/-- The address http://h and a path that is written so. -/
theorem dots_text (p : List UInt8) (hpa : ∀ c ∈ p, pbC c = true ∧ c ≠ 92) (hl : p.length ≤ 200) : textL (sHttp ++ 58 :: 47 :: 47 :: 104 :: 47 :: p) = sHttp ++ 58 :: 47 :: 47 :: 104 :: (pathL [] (cutL 47 p)).flatMap (fun p => 47 :: p) := by
  have := h_text sHttp [47, 47] (47 :: p) (.inl rfl) (by decide) (fun d hd => by
    rcases List.mem_cons.1 hd with rfl | hd
    · decide
    · exact (hpa d hd).1) (.inr ⟨47, p, rfl, .inl rfl⟩) (by simp; omega)
  rw [slC_none _ (fun e => by
    rcases List.mem_cons.1 e with e | e
    · cases e
    · exact (hpa 92 e).2 rfl), pathV_47] at this
  exact this

def OkP (l : List UInt8) : Prop := ∀ c ∈ l, pbC c = true ∧ c ≠ 92

theorem OkP.app {a b : List UInt8} (ha : OkP a) (hb : OkP b) : OkP (a ++ b) := fun c hc => (List.mem_append.1 hc).elim (ha c) (hb c)

theorem OkP.lets {T : List UInt8} (h : Lets T) : OkP T := fun c hc => ⟨lets_pb h c hc, fun e => by subst e; exact absurd (h.2 _ hc) (by decide)⟩

theorem okP_slash {b : List UInt8} (h : OkP b) : OkP (47 :: b) := OkP.app (a := [47]) (by unfold OkP; decide) h

theorem dots0 : dotsV [] = 0 ∧ pct 5 [] = [] := by decide +kernel

def htb (b : List UInt8) : List UInt8 := sHttp ++ 58 :: 47 :: 47 :: 104 :: 47 :: b

theorem dt_0 (b : List UInt8) (hb : Lets b) (hl : b.length ≤ 20) : textL (htb b) = htb b := by
  unfold htb
  rw [dots_text b (OkP.lets hb) (by omega), cutL_none 47 b hb.no.1, pathL, hb.dots, if_neg (by decide), if_neg (by decide), hb.pct]
  simp

theorem dt_1 (b : List UInt8) (hb : Lets b) (hl : b.length ≤ 20) : textL (htb ([46] ++ 47 :: b)) = htb b := by
  unfold htb
  rw [dots_text _ (OkP.app (by unfold OkP; decide) (okP_slash (OkP.lets hb))) (by simp; omega), cutL_some 47 [46] b (by decide), cutL_none 47 b hb.no.1]
  rw [pathL, d_1.1, if_neg (by decide), if_pos rfl, pathL, hb.dots, if_neg (by decide), if_neg (by decide), hb.pct]
  simp

theorem dt_5 (b : List UInt8) (hb : Lets b) (hl : b.length ≤ 20) : textL (htb ([37, 50, 101] ++ 47 :: b)) = htb b := by
  unfold htb
  rw [dots_text _ (OkP.app (by unfold OkP; decide) (okP_slash (OkP.lets hb))) (by simp; omega), cutL_some 47 [37, 50, 101] b (by decide), cutL_none 47 b hb.no.1]
  rw [pathL, d_1.2.2.2, if_neg (by decide), if_pos rfl, pathL, hb.dots, if_neg (by decide), if_neg (by decide), hb.pct]
  simp

theorem dt_2 (a b : List UInt8) (ha : Lets a) (hb : Lets b) (hla : a.length ≤ 20) (hl : b.length ≤ 20) : textL (htb (a ++ 47 :: ([46, 46] ++ 47 :: b))) = htb b := by
  unfold htb
  rw [dots_text _ (OkP.app (OkP.lets ha) (okP_slash (OkP.app (by unfold OkP; decide) (okP_slash (OkP.lets hb))))) (by simp; omega), cutL_some 47 a _ ha.no.1, cutL_some 47 [46, 46] b (by decide), cutL_none 47 b hb.no.1]
  rw [pathL, ha.dots, if_neg (by decide), if_neg (by decide), pathL, d_1.2.1, if_pos rfl, pathL, hb.dots, if_neg (by decide), if_neg (by decide), hb.pct]
  simp

theorem dt_3 (a b : List UInt8) (ha : Lets a) (hb : Lets b) (hla : a.length ≤ 20) (hl : b.length ≤ 20) : textL (htb (a ++ 47 :: ([37, 50, 69, 37, 50, 101] ++ 47 :: b))) = htb b := by
  unfold htb
  rw [dots_text _ (OkP.app (OkP.lets ha) (okP_slash (OkP.app (by unfold OkP; decide) (okP_slash (OkP.lets hb))))) (by simp; omega), cutL_some 47 a _ ha.no.1, cutL_some 47 [37, 50, 69, 37, 50, 101] b (by decide), cutL_none 47 b hb.no.1]
  rw [pathL, ha.dots, if_neg (by decide), if_neg (by decide), pathL, d_1.2.2.1, if_pos rfl, pathL, hb.dots, if_neg (by decide), if_neg (by decide), hb.pct]
  simp

theorem dt_4 (b : List UInt8) (hb : Lets b) (hl : b.length ≤ 20) : textL (htb ([46, 46] ++ 47 :: ([46, 46] ++ 47 :: b))) = htb b := by
  unfold htb
  rw [dots_text _ (OkP.app (by unfold OkP; decide) (okP_slash (OkP.app (by unfold OkP; decide) (okP_slash (OkP.lets hb))))) (by simp; omega), cutL_some 47 [46, 46] _ (by decide), cutL_some 47 [46, 46] b (by decide), cutL_none 47 b hb.no.1]
  rw [pathL, d_1.2.1, if_pos rfl, pathL, d_1.2.1, if_pos rfl, pathL, hb.dots, if_neg (by decide), if_neg (by decide), hb.pct]
  simp

theorem dt_6 (a b : List UInt8) (ha : Lets a) (hb : Lets b) (hla : a.length ≤ 20) (hl : b.length ≤ 20) : textL (htb (a ++ 47 :: (b ++ 47 :: [46, 46]))) = htb (a ++ [47]) := by
  unfold htb
  rw [dots_text _ (OkP.app (OkP.lets ha) (okP_slash (OkP.app (OkP.lets hb) (okP_slash (by unfold OkP; decide))))) (by simp; omega), cutL_some 47 a _ ha.no.1, cutL_some 47 b _ hb.no.1, cutL_none 47 [46, 46] (by decide)]
  rw [pathL, ha.dots, if_neg (by decide), if_neg (by decide), pathL, hb.dots, if_neg (by decide), if_neg (by decide), pathL, d_1.2.1, if_pos rfl, ha.pct, hb.pct]
  simp

theorem dt_7 (a : List UInt8) (ha : Lets a) (hla : a.length ≤ 20) : textL (htb (a ++ 47 :: [])) = htb (a ++ [47]) := by
  unfold htb
  rw [dots_text _ (OkP.app (OkP.lets ha) (okP_slash (by unfold OkP; decide))) (by simp; omega), cutL_some 47 a _ ha.no.1, cutL_none 47 [] (by simp)]
  rw [pathL, ha.dots, if_neg (by decide), if_neg (by decide), pathL, dots0.1, if_neg (by decide), if_neg (by decide), ha.pct, dots0.2]
  simp

/-! ### Ports -/

theorem h_port (sc pt : List UInt8) (port : Int) (hsc : Spc sc) (hau : ∀ c ∈ pt, auC c = true)
    (hpt : (pt = [] ∧ port = -1) ∨ ∃ t, pt = 58 :: t ∧ 58 ∉ t ∧ portV (ownV sc) t = some port) (hl : pt.length ≤ 200) :
    readV (sc ++ 58 :: 47 :: 47 :: 104 :: (pt ++ [47])) none = .ok (wAdr sc [104] port [[]]) := by
  have := (web5_read sc [47, 47] [104] pt [47] [104] port hsc (by decide) (fun c hc => by
    rcases List.mem_append.1 hc with hc | hc
    · obtain rfl := List.mem_singleton.1 hc; decide
    · exact hau c hc) (by decide) (by simp) (by simp) (by decide) hpt (.inr ⟨47, [], rfl, .inl rfl⟩) (by decide +kernel) (by simp; omega)).1
  exact this

/-- A port that is too great is refused. -/
theorem h_noport (sc t : List UInt8) (hsc : Spc sc) (hau : ∀ c ∈ t, auC c = true) (h58 : 58 ∉ t) (hp : portV (ownV sc) t = none) (hl : t.length ≤ 200) :
    readV (sc ++ 58 :: 47 :: 47 :: 104 :: (58 :: t ++ [47])) none = .error 11 := by
  have hau2 : ∀ c ∈ [104] ++ 58 :: t, auC c = true := fun c hc => by
    rcases List.mem_append.1 hc with hc | hc
    · obtain rfl := List.mem_singleton.1 hc; decide
    · rcases List.mem_cons.1 hc with rfl | hc
      · decide
      · exact hau c hc
  have := (web5_gen sc [47, 47] [104] (58 :: t) [47] hsc (by decide) hau2 (by decide) (by simp) (.inr ⟨47, [], rfl, .inl rfl⟩) (by simp; omega)).1
  have hat : atV ([104] ++ 58 :: t) = ([], [104] ++ 58 :: t) := at_none _ fun e => (auC_facts (hau2 64 e)).2.2.2.2.1 rfl
  have hcol : colV ([104] ++ 58 :: t) = 1 := by
    rw [colV, colN_at11 [104] t 0 _ (by decide) (fun c hc => ⟨fun e => h58 (e ▸ hc), (auC_facts (hau c hc)).2.2.2.2.2.2⟩)]
    rfl
  have hau3 : authV sc ([104] ++ 58 :: t) = .error 11 := by
    apply auth_port
    rw [hat]
    simp only
    rw [hcol]
    exact hp
  rw [hau3] at this
  exact this

theorem digP_au {c : UInt8} (h : digP c = true) : auC c = true ∧ c ≠ 58 := by
  have hd : ∀ n < 256, digP (UInt8.ofNat n) = true → auC (UInt8.ofNat n) = true ∧ UInt8.ofNat n ≠ 58 := by decide +kernel
  have := hd c.toNat c.toNat_lt
  rw [show UInt8.ofNat c.toNat = c by simp] at this
  exact this h

/-- The port that a number is read as. -/
def prtO (own : Int) (n : Nat) : Int := if (n : Int) = own then -1 else n

theorem dec_portO {n : Nat} {T : List UInt8} (own : Int) (h : Dec n T) (hn : n ≤ 65535) : portV own T = some (prtO own n) := by
  obtain ⟨h1, h2⟩ := dec_int h
  unfold portV
  rw [if_neg h.1, h2, h1, decide_eq_true (by omega)]
  rfl

theorem dec_zero {n : Nat} {T : List UInt8} (own : Int) (h : Dec n T) : portV own (48 :: T) = portV own T := by
  obtain ⟨h1, h2, h3, h4⟩ := h
  have e1 : intOk (48 :: T) = intOk T := by
    unfold intOk
    cases T with
    | nil => exact absurd rfl h1
    | cons c r => simp [show digP 48 = true from by decide]
  have e2 : intV (48 :: T) = intV T := by
    have : numI (48 :: T) = numI T := by
      have := foldl_ten T [48]
      rw [show [48] ++ T = 48 :: T from rfl, show numI [48] = 0 from by decide] at this
      rw [this]; rfl
    show (if intOk (48 :: T) then numI (48 :: T) else 0) = (if intOk T then numI T else 0)
    rw [e1, this]
  unfold portV
  rw [if_neg (by simp), if_neg h1, e1, e2]

theorem dec_noport {n : Nat} {T : List UInt8} (own : Int) (h : Dec n T) (hn : 65535 < n) : portV own T = none := by
  obtain ⟨h1, h2⟩ := dec_int h
  unfold portV
  rw [if_neg h.1, h2, h1, decide_eq_false (by omega)]
  rfl

end Go.Proofs.YtdnginibhpnefaaGreatDoor

namespace Go.Proofs.YtdnginibhpnefaaGreatDoor
open Go.RowKit

theorem itoaP_any (p : Int) (w : World) (hg : Gd w) (h0 : 0 ≤ p) (h1 : p ≤ 65535) :
    Calls Tryz.prog 67 #[.int .i64 p] w fun e w' => e = .returned (.string ⟨(portT p).toArray⟩) ∧ Below w.heap.size w w' := by
  refine (Tryz.strconv_Itoa p (by omega) (by omega) w hg.2.1).mono ?_
  rintro e w' ⟨rfl, k, os, rfl⟩
  exact ⟨by rw [portT_itoa p h0 h1], Lib.below_grow _ _ (Nat.le_refl _) _ _⟩

theorem deciN_le : ∀ (f n : Nat) (acc : List UInt8), (deciN f n acc).length ≤ f + acc.length
  | 0, n, acc => by rw [deciN]; omega
  | f + 1, n, acc => by
    rw [deciN]
    split
    · simp; omega
    · have := deciN_le f (n / 10) (UInt8.ofNat (48 + n % 10) :: acc)
      rw [List.length_cons] at this
      omega

theorem portT_le (p : Int) : (⟨(portT p).toArray⟩ : ByteArray).size ≤ 100 := by
  rw [Lib.size_eq]
  have := deciN_le 6 p.toNat []
  simp at this
  show (portT p).length ≤ 100
  unfold portT
  omega

set_option maxHeartbeats 2000000 in
set_option maxRecDepth 100000 in
theorem authorityText_any (u : Adr) (pv : Value) (w : World) (hg : Gd w) (hp : u.port = -1 ∨ (0 ≤ u.port ∧ u.port ≤ 65535)) (hl : u.user.length ≤ 1000000 ∧ u.pass.length ≤ 1000000 ∧ u.host.length ≤ 1000000) (hsl : IsSl pv) :
    Calls Tryz.prog 40 #[adrVal u pv] w fun e w' => e = .returned (.string ⟨(authT u).toArray⟩) ∧ Below w.heap.size w w' := by
  have HG := hid hg
  clear hg
  obtain ⟨sc, us, ps, ho, hh, po, op, pa, qu, fr, hq, hf⟩ := u
  obtain ⟨a0, n0, c0, rfl⟩ := hsl
  obtain ⟨l1, l2, l3⟩ := hl
  simp only at hp l1 l2 l3
  obtain ⟨US, rfl⟩ : ∃ X : ByteArray, us = X.data.toList := ⟨⟨us.toArray⟩, rfl⟩
  obtain ⟨PS, rfl⟩ : ∃ X : ByteArray, ps = X.data.toList := ⟨⟨ps.toArray⟩, rfl⟩
  obtain ⟨HO, rfl⟩ : ∃ X : ByteArray, ho = X.data.toList := ⟨⟨ho.toArray⟩, rfl⟩
  have s1 : US.size ≤ 1000000 := by rw [Lib.size_eq]; exact l1
  have s2 : PS.size ≤ 1000000 := by rw [Lib.size_eq]; exact l2
  have s3 : HO.size ≤ 1000000 := by rw [Lib.size_eq]; exact l3
  clear l1 l2 l3
  have hbx : Below w.heap.size w (w.alloc (.cells (adrCells ⟨sc, US.data.toList, PS.data.toList, HO.data.toList, hh, po, op, pa, qu, fr, hq, hf⟩ (.slice a0 n0 c0)).toArray 24)) := (Below.refl _ w).alloc (Nat.le_refl _) _
  have HBx := hid hbx
  clear hbx
  unfold adrVal adrCells
  cases hh with
  | false =>
    go_enter Tryz.func40, Tryz.ntmps40
    go_wp2
    go_ret
    exact ⟨rfl, HBx.out⟩
  | true =>
    by_cases h1 : US.data.toList = []
    · have q1 : (ByteArray.mk US.data).toList.isEmpty = true := empty_yes US h1
      by_cases h2 : PS.data.toList = []
      · have q2 : (ByteArray.mk PS.data).toList.isEmpty = true := empty_yes PS h2
        have H1 := hid h1
        have H2 := hid h2
        clear h1 h2
        rcases hp with rfl | ⟨hp0, hp1⟩
        · go_enter Tryz.func40, Tryz.ntmps40
          go_wp2
          go_ret
          refine ⟨ret_str' ?_, HBx.out⟩
          refine ba_ext ?_
          simp [authT, H1.out, H2.out]
        · have hpn : (po == -1) = false := by rw [beq_eq_false_iff_ne]; omega
          have hpn' : (po != -1) = true := by simp; omega
          have HPn := hid (show po ≠ -1 by omega)
          obtain ⟨PT, hPT⟩ : ∃ X : ByteArray, X = ⟨(portT po).toArray⟩ := ⟨_, rfl⟩
          have hPs : PT.size ≤ 100 := by rw [hPT]; exact portT_le po
          have HIt : Hid (∀ (w : World), Gd w → Calls Tryz.prog 67 #[.int .i64 po] w fun e w' => e = .returned (.string PT) ∧ Below w.heap.size w w') := fun w hg => by rw [hPT]; exact itoaP_any po w hg hp0 hp1
          have HPT := hid (show PT.data.toList = portT po by rw [hPT])
          clear hp0 hp1 hPT
          go_enter Tryz.func40, Tryz.ntmps40
          go_wp2_with fail
          refine (HIt.out _ (HG.out.kept ((Below.refl _ w).alloc (Nat.le_refl _) _))).mono ?_
          rintro e w2 ⟨rfl, hb2⟩
          have hb1 := (Below.refl w.heap.size w).alloc (Nat.le_refl _) (.cells (adrCells ⟨sc, US.data.toList, PS.data.toList, HO.data.toList, true, po, op, pa, qu, fr, hq, hf⟩ (.slice a0 n0 c0)).toArray 24)
          have HB2 := hid (show Below w.heap.size w w2 from hb1.trans (hb2.mono hb1.size))
          clear hb1
          clear hb2
          go_wp2
          go_ret
          refine ⟨ret_str' ?_, HB2.out⟩
          refine ba_ext ?_
          simp [authT, H1.out, H2.out, HPn.out, HPT.out]
      · have q2 : (ByteArray.mk PS.data).toList.isEmpty = false := empty_no PS h2
        have H1 := hid h1
        have H2 := hid h2
        clear h1 h2
        rcases hp with rfl | ⟨hp0, hp1⟩
        · go_enter Tryz.func40, Tryz.ntmps40
          go_wp2
          go_ret
          refine ⟨ret_str' ?_, HBx.out⟩
          refine ba_ext ?_
          simp [authT, H1.out, H2.out]
        · have hpn : (po == -1) = false := by rw [beq_eq_false_iff_ne]; omega
          have hpn' : (po != -1) = true := by simp; omega
          have HPn := hid (show po ≠ -1 by omega)
          obtain ⟨PT, hPT⟩ : ∃ X : ByteArray, X = ⟨(portT po).toArray⟩ := ⟨_, rfl⟩
          have hPs : PT.size ≤ 100 := by rw [hPT]; exact portT_le po
          have HIt : Hid (∀ (w : World), Gd w → Calls Tryz.prog 67 #[.int .i64 po] w fun e w' => e = .returned (.string PT) ∧ Below w.heap.size w w') := fun w hg => by rw [hPT]; exact itoaP_any po w hg hp0 hp1
          have HPT := hid (show PT.data.toList = portT po by rw [hPT])
          clear hp0 hp1 hPT
          go_enter Tryz.func40, Tryz.ntmps40
          go_wp2_with fail
          refine (HIt.out _ (HG.out.kept ((Below.refl _ w).alloc (Nat.le_refl _) _))).mono ?_
          rintro e w2 ⟨rfl, hb2⟩
          have hb1 := (Below.refl w.heap.size w).alloc (Nat.le_refl _) (.cells (adrCells ⟨sc, US.data.toList, PS.data.toList, HO.data.toList, true, po, op, pa, qu, fr, hq, hf⟩ (.slice a0 n0 c0)).toArray 24)
          have HB2 := hid (show Below w.heap.size w w2 from hb1.trans (hb2.mono hb1.size))
          clear hb1
          clear hb2
          go_wp2
          go_ret
          refine ⟨ret_str' ?_, HB2.out⟩
          refine ba_ext ?_
          simp [authT, H1.out, H2.out, HPn.out, HPT.out]
    · have q1 : (ByteArray.mk US.data).toList.isEmpty = false := empty_no US h1
      by_cases h2 : PS.data.toList = []
      · have q2 : (ByteArray.mk PS.data).toList.isEmpty = true := empty_yes PS h2
        have H1 := hid h1
        have H2 := hid h2
        clear h1 h2
        rcases hp with rfl | ⟨hp0, hp1⟩
        · go_enter Tryz.func40, Tryz.ntmps40
          go_wp2
          go_ret
          refine ⟨ret_str' ?_, HBx.out⟩
          refine ba_ext ?_
          simp [authT, H1.out, H2.out]
        · have hpn : (po == -1) = false := by rw [beq_eq_false_iff_ne]; omega
          have hpn' : (po != -1) = true := by simp; omega
          have HPn := hid (show po ≠ -1 by omega)
          obtain ⟨PT, hPT⟩ : ∃ X : ByteArray, X = ⟨(portT po).toArray⟩ := ⟨_, rfl⟩
          have hPs : PT.size ≤ 100 := by rw [hPT]; exact portT_le po
          have HIt : Hid (∀ (w : World), Gd w → Calls Tryz.prog 67 #[.int .i64 po] w fun e w' => e = .returned (.string PT) ∧ Below w.heap.size w w') := fun w hg => by rw [hPT]; exact itoaP_any po w hg hp0 hp1
          have HPT := hid (show PT.data.toList = portT po by rw [hPT])
          clear hp0 hp1 hPT
          go_enter Tryz.func40, Tryz.ntmps40
          go_wp2_with fail
          refine (HIt.out _ (HG.out.kept ((Below.refl _ w).alloc (Nat.le_refl _) _))).mono ?_
          rintro e w2 ⟨rfl, hb2⟩
          have hb1 := (Below.refl w.heap.size w).alloc (Nat.le_refl _) (.cells (adrCells ⟨sc, US.data.toList, PS.data.toList, HO.data.toList, true, po, op, pa, qu, fr, hq, hf⟩ (.slice a0 n0 c0)).toArray 24)
          have HB2 := hid (show Below w.heap.size w w2 from hb1.trans (hb2.mono hb1.size))
          clear hb1
          clear hb2
          go_wp2
          go_ret
          refine ⟨ret_str' ?_, HB2.out⟩
          refine ba_ext ?_
          simp [authT, H1.out, H2.out, HPn.out, HPT.out]
      · have q2 : (ByteArray.mk PS.data).toList.isEmpty = false := empty_no PS h2
        have H1 := hid h1
        have H2 := hid h2
        clear h1 h2
        rcases hp with rfl | ⟨hp0, hp1⟩
        · go_enter Tryz.func40, Tryz.ntmps40
          go_wp2
          go_ret
          refine ⟨ret_str' ?_, HBx.out⟩
          refine ba_ext ?_
          simp [authT, H1.out, H2.out]
        · have hpn : (po == -1) = false := by rw [beq_eq_false_iff_ne]; omega
          have hpn' : (po != -1) = true := by simp; omega
          have HPn := hid (show po ≠ -1 by omega)
          obtain ⟨PT, hPT⟩ : ∃ X : ByteArray, X = ⟨(portT po).toArray⟩ := ⟨_, rfl⟩
          have hPs : PT.size ≤ 100 := by rw [hPT]; exact portT_le po
          have HIt : Hid (∀ (w : World), Gd w → Calls Tryz.prog 67 #[.int .i64 po] w fun e w' => e = .returned (.string PT) ∧ Below w.heap.size w w') := fun w hg => by rw [hPT]; exact itoaP_any po w hg hp0 hp1
          have HPT := hid (show PT.data.toList = portT po by rw [hPT])
          clear hp0 hp1 hPT
          go_enter Tryz.func40, Tryz.ntmps40
          go_wp2_with fail
          refine (HIt.out _ (HG.out.kept ((Below.refl _ w).alloc (Nat.le_refl _) _))).mono ?_
          rintro e w2 ⟨rfl, hb2⟩
          have hb1 := (Below.refl w.heap.size w).alloc (Nat.le_refl _) (.cells (adrCells ⟨sc, US.data.toList, PS.data.toList, HO.data.toList, true, po, op, pa, qu, fr, hq, hf⟩ (.slice a0 n0 c0)).toArray 24)
          have HB2 := hid (show Below w.heap.size w w2 from hb1.trans (hb2.mono hb1.size))
          clear hb1
          clear hb2
          go_wp2
          go_ret
          refine ⟨ret_str' ?_, HB2.out⟩
          refine ba_ext ?_
          simp [authT, H1.out, H2.out, HPn.out, HPT.out]

end Go.Proofs.YtdnginibhpnefaaGreatDoor
