/-
  Walks and plain facts that this claim leans on, put together out of 4 texts: Eha, Ehn, Eho, Ehr.
-/
import Derived.Test.YtfcmonjfcnfjoaaGreatDoorProg
import Derived.Test.YtfcmonjfcnfjoaaGreatDoorQc1
import Derived.Test.YtfcmonjfcnfjoaaGreatDoorQc2
import Derived.Test.YtfcmonjfcnfjoaaGreatDoorQc3
import Derived.Test.YtfcmonjfcnfjoaaGreatDoorQc4
import Derived.Test.YtfcmonjfcnfjoaaGreatDoorQc5
import Derived.Test.YtfcmonjfcnfjoaaGreatDoorQc6
import Derived.Test.YtfcmonjfcnfjoaaGreatDoorQc7
import Derived.Test.YtfcmonjfcnfjoaaGreatDoorQc8
import Derived.Test.YtfcmonjfcnfjoaaGreatDoorQc9
import Derived.Test.YtfcmonjfcnfjoaaGreatDoorQc10
import Derived.Test.YtfcmonjfcnfjoaaGreatDoorQc11
import Derived.Test.YtfcmonjfcnfjoaaGreatDoorQc12
import Derived.Test.YtfcmonjfcnfjoaaGreatDoorQc13
import Derived.Test.YtfcmonjfcnfjoaaGreatDoorQc14
import Derived.Test.YtfcmonjfcnfjoaaGreatDoorQc15
import Derived.Test.YtfcmonjfcnfjoaaGreatDoorQc16
import Derived.Test.YtfcmonjfcnfjoaaGreatDoorQc17
import Derived.Test.YtfcmonjfcnfjoaaGreatDoorQc18
import Derived.BigRegion
import Derived.Deep.RegionHeld
import Derived.Deep.RegionHeldLaw
import Derived.Lib.IndexAny
import Derived.WalkKit
import Derived.Lib.UnsafeStr
import Derived.Lib.BufferRead
import Derived.Lib.RuneBytes
import Derived.Laws.RangeAny
import Derived.Deep.LoopGhost
import Derived.Maps.OwnSet
import Derived.Maps.OwnOps
import Derived.Maps.AppendAt
import Derived.StringKeys
import Derived.BigQuiet
import Derived.Deep.QuietTactic
import Derived.LoopN
import Derived.RegionTactic
import Derived.Deep.RegionLaw
import Derived.Deep.RegionWith
import Derived.WalkSpells
import Derived.WalkLawsBesides
import Derived.Lib.FieldsP
import Derived.Lib.DecodeN
import Derived.Lib.IndexMore
import Derived.Lib.Join
import Derived.Lib.SmallJoins
import Derived.Laws.CopyOwn
import Derived.Laws.ResultCell
import Derived.Deep.MidRow
import Derived.Laws.OwnMore
import Derived.Below
import Derived.WalkSmall
import Derived.Lib.LaidTab
import Derived.Lib.AppendIntMem
import Derived.Laws.AppendOwn
import Derived.Laws.Runes
import Derived.Lib.OthersKept
import Derived.Lib.FrozenHead2
import Derived.Lib.Builder
import Derived.Lib.AppendStr
import Derived.Lib.Replace
import Derived.Shelf.GgClosure.GivesRunes
import Derived.Laws.BitsAll
import Derived.Laws.Shifts
import Derived.Deep.DeepAppendRoom
import Derived.Laws.IdiomStrings
import Derived.Laws.BytesString
import Derived.Laws.CopyRow
import Derived.Sort.OwnSorted
import Derived.Lib.SlicesCompact
import Derived.Shelf.Slices.In.SortNone
import Derived.Shelf.Slices.CompactS
import Derived.Lib.Strings
import Derived.Laws.BitsAllLaws
import Derived.Lib.Bytealg
import Derived.Lib.BufferMore
import Derived.Shelf.Strings.Builder1
import Derived.Shelf.Strings.Builder2
import Derived.Shelf.Strings.OnBuilder
import Derived.Shelf.Strings.Trim
import Derived.Shelf.Small.Utf8
import Derived.Shelf.Small.Bits
import Derived.Shelf.Small.Strs
import Derived.Shelf.Small.Wraps
import Derived.Shelf.Strings.BuilderF
import Derived.Shelf.Strings.BuilderK
import Derived.Shelf.Strings.Builder2Cap
import Derived.Shelf.Strconv.Itoa0
import Derived.Shelf.Strconv.Itoa1
import Derived.Shelf.LaysM
import Derived.Shelf.Strconv.Itoa2
import Derived.Shelf.Strconv.Itoa3
import Derived.Shelf.Strings.Search1
import Derived.Shelf.Strings.Search2
import Derived.Shelf.Strings.Cut
import Derived.Shelf.Strings.Shaped
import Derived.Shelf.Sort.Plain
import Derived.Shelf.Strings.Prefix
import Derived.Shelf.Strings.Runes
import Derived.Shelf.Strings.IndexAny
import Derived.Shelf.Strings.AsciiSet
import Derived.Shelf.Strings.IndexAnyAll
import Derived.Shelf.Unicode.DecodeSlow
import Derived.Shelf.Unicode.DecodeAny
import Derived.Shelf.Unicode.DecodeLast
import Derived.Lib.SlTrimSet
import Derived.Shelf.Strings.SlTrimAscii
import Derived.Deep.CutRange
import Derived.Laws.Rows
import Derived.Laws.MakeOwn
import Derived.Deep.WholeRow
import Derived.Laws.AppendOwnNone
import Derived.Lib.SliceRun
import Derived.Lib.ItoaLen
set_option linter.unusedSimpArgs false
set_option linter.unusedVariables false

namespace Go.Proofs.YtfcmonjfcnfjoaaGreatDoor
open Go.RowKit

theorem bestV_step (q : RowC → Bool) (R : List RowC) (k : Nat) (hk : k < R.length) : bestV q R (k + 1) = match bestV q R k with
  | none => if q R[k] then some k else none
  | some a => if q R[k] && decide ((R.getD a R[k]).tn < R[k].tn) then some k else some a := by
 rw [bestV, List.getElem?_eq_getElem hk] <;> rfl

end Go.Proofs.YtfcmonjfcnfjoaaGreatDoor

namespace Go.Proofs.YtfcmonjfcnfjoaaGreatDoor
open Go.RowKit

set_option maxHeartbeats 1000000 in
theorem len17_any (p M : Nat) (C : CaS) (w : World) (hI : CaI w p M C) :
  Calls Tryz.prog 15 #[.pointer (some ⟨p, 0, none⟩)] w fun e w' => e = .returned (.int .i64 (C.rows.length : Int)) ∧ w' = w := by
 obtain ⟨_, a, c, Z, hrow, _⟩ := hI
 obtain ⟨n, hn⟩ : ∃ n, n = C.rows.length := ⟨_, rfl⟩
 rw [← hn] at hrow ⊢
 have d0 : w.cell? ⟨p, 0, none⟩ = some (.slice a n c) := by rw [Lib.cell_of_heap hrow]; rfl
 clear hn hrow
 go_enter Tryz.func15, Tryz.ntmps15
 go_wp2
 go_ret
 exact ⟨rfl, rfl⟩

end Go.Proofs.YtfcmonjfcnfjoaaGreatDoor

namespace Go.Proofs.YtfcmonjfcnfjoaaGreatDoor
open Go.RowKit

theorem CaG.use {C : CaS} (h : CaG C) (u : List UInt8) (A : List Hd) : CaG (useV C u A) := by
 unfold useV
 cases ht : takeV C u A with
 | none => exact h
 | some x =>
  obtain ⟨r, R⟩ := x
  obtain ⟨_, a, _, ha, hr, hR⟩ := takeV_mem ht
  refine ⟨?_, h.2.1, fun x hx => ?_⟩
  ·show (R ++ [r]).length ≤ 1000
   rw [hR, List.length_append, List.length_eraseIdx, if_pos ha]
   have := h.1
   simp
   omega
  ·rcases List.mem_append.1 hx with hx | hx
   ·rw [hR] at hx; exact h.2.2 x (List.mem_of_mem_eraseIdx hx)
   ·rw [List.mem_singleton.1 hx]; exact h.2.2 r (List.mem_of_getElem? hr)

end Go.Proofs.YtfcmonjfcnfjoaaGreatDoor

namespace Go.Proofs.YtfcmonjfcnfjoaaGreatDoor
open Go.RowKit

def dgs : Nat → Nat → List UInt8 → List UInt8
 | 0, _, T => T
 | f + 1, u, T => if 0 < u ∨ T = [] then dgs f (u / 10) (decC (u % 10) :: T) else T

theorem dgs_step (g u : Nat) (T : List UInt8) (h : 0 < u ∨ T = []) : dgs (g + 1) u T = dgs g (u / 10) (decC (u % 10) :: T) := by
 rw [dgs, if_pos h]

theorem dgs_done (f u : Nat) (T : List UInt8) (h1 : u = 0) (h2 : T ≠ []) : dgs f u T = T := by
 cases f with
 | zero => rfl
 | succ f => rw [dgs, if_neg (by rintro (h | h); omega; exact h2 h)]

set_option maxHeartbeats 2000000 in
theorem digits17s_any (n : Nat) (w : World) (hn : n ≤ 4294967296) :
  Calls Tryz.prog 34 #[.int .i64 n] w fun e w' => ∃ T, e = .returned (.string ⟨T.toArray⟩) ∧ Dec n T ∧ T = dgs 20 n [] ∧ w = w' := by
 have H0 := hid (decI_start n (by omega))
 go_enter Tryz.func34, Tryz.ntmps34
 go_wp2
 go_loopg [0, 3, 4] 20 (fun f nv sv _ wr => ∃ (u : Nat) (T : List UInt8), nv = .int .i64 u ∧ sv = .string ⟨T.toArray⟩ ∧ u ≤ 4294967296 ∧ DecI n f u T ∧ dgs f u T = dgs 20 n [] ∧ wr = w)
 case atStart => exact ⟨n, [], rfl, rfl, hn, H0.out, rfl, rfl⟩
 case round =>
  obtain ⟨u, T, rfl, rfl, hu, hinv, hdg, rfl⟩ := hrel
  have hTl : T.length ≤ 20 := by have := hinv.2.1; omega
  have HI := hid hinv
  clear hinv
  have hm : u % 10 < 10 := by omega
  by_cases hp : 0 < u ∨ T = []
  ·obtain ⟨g, rfl, hnext⟩ := decI_step n _ u T hn hu HI.out hp
   rw [dgs_step g u T hp] at hdg
   have HDg := hid hdg
   clear hdg
   have HN := hid hnext
   have HX := hid (xtens_app (u % 10) hm T)
   have hul : u / 10 ≤ 4294967296 := by omega
   clear hnext
   by_cases h0 : 0 < u
   ·have h0' : (0 : Int) < (u : Int) := by omega
    clear hp
    go_wp2
    go_roundg g
    case measure => omega
    case rel => exact ⟨_, _, by go_num, by rw [HX.out], hul, HN.out, HDg.out, rfl⟩
   ·have hT0 : T = [] := hp.resolve_left h0
    have hu0 : u = 0 := by omega
    subst hT0
    subst hu0
    clear hp h0
    go_wp2
    go_roundg g
    case measure => omega
    case rel => exact ⟨_, _, by go_num, by rw [HX.out], hul, HN.out, HDg.out, rfl⟩
  ·have hu0 : u = 0 := by omega
   have hT : T ≠ [] := fun h => hp (.inr h)
   rw [dgs_done _ u T hu0 hT] at hdg
   have HDg := hid hdg
   clear hdg
   have HD := hid (decI_done n _ u T HI.out hu0 hT)
   have he : T.isEmpty = false := by simpa using hT
   subst hu0
   clear hp hT
   go_wp2
   go_ret
   exact ⟨T, rfl, HD.out, HDg.out, rfl⟩

theorem bestV_only (q : RowC → Bool) (R : List RowC) (i : Nat) (hi : i < R.length) (hq : q R[i] = true) (ho : ∀ j (h : j < R.length), j ≠ i → q R[j] = false) : ∀ k, k ≤ R.length → bestV q R k = if i < k then some i else none
 | 0, _ => by simp [bestV]
 | k + 1, hk => by
  rw [bestV_step q R k (by omega), bestV_only q R i hi hq ho k (by omega)]
  by_cases h1 : i < k
  ·have hn := ho k (by omega) (by omega)
   rw [if_pos h1, if_pos (show i < k + 1 by omega)]
   dsimp only
   rw [hn]
   rfl
  ·rw [if_neg h1]
   dsimp only
   by_cases h2 : i = k
   ·subst h2
    rw [hq, if_pos (Nat.lt_succ_self _)]
    rfl
   ·rw [ho k (by omega) (fun e => h2 e.symm), if_neg (show ¬ i < k + 1 by omega)]
    rfl

theorem take_mid17 (A B : List RowC) (r : RowC) (t : Int) (u : List UInt8) (hr : meantV u [] r = true) (ho : ∀ x ∈ A ++ B, meantV u [] x = false) : takeV ⟨A ++ r :: B, t⟩ u [] = some (r, A ++ B) := by
 have hb := bestV_only (meantV u []) (A ++ r :: B) A.length (by simp) (by simp [hr]) (fun j h hj => by
  refine ho _ ?_
  by_cases h1 : j < A.length
  ·rw [List.getElem_append_left h1]
   exact List.mem_append_left _ (List.getElem_mem h1)
  ·rw [List.getElem_append_right (by omega)]
   obtain ⟨m, hm⟩ : ∃ m, j - A.length = m + 1 := ⟨j - A.length - 1, by omega⟩
   simp only [hm, List.getElem_cons_succ]
   exact List.mem_append_right _ (List.getElem_mem _)) _ (Nat.le_refl _)
 rw [if_pos (by simp)] at hb
 unfold takeV
 rw [show (ctlV []).ns = false by decide]
 dsimp only
 rw [hb]
 dsimp only
 rw [show (A ++ r :: B)[A.length]? = some r by simp, List.eraseIdx_append_of_length_le (Nat.le_refl _), Nat.sub_self]
 rfl

theorem use_mid17 (A B : List RowC) (r : RowC) (t : Int) (u : List UInt8) (hr : meantV u [] r = true) (ho : ∀ x ∈ A ++ B, meantV u [] x = false) : useV ⟨A ++ r :: B, t⟩ u [] = ⟨A ++ B ++ [r], t⟩ := by
 unfold useV
 rw [take_mid17 A B r t u hr ho]

theorem find_mid17 (A B : List RowC) (r : RowC) (t : Int) (u : List UInt8) (now : Int) (hr : meantV u [] r = true) (ho : ∀ x ∈ A ++ B, meantV u [] x = false) : findV Lib.itoa ⟨A ++ r :: B, t⟩ u [] now = foundV Lib.itoa r [] now := by
 unfold findV
 rw [take_mid17 A B r t u hr ho]

def tKeep : List UInt8 := [107, 101, 101, 112]

def kR : RowC := ⟨tKeep, [], ⟨200, [⟨CC17, [109, 97, 120, 45, 97, 103, 101, 61, 57]⟩], []⟩, 0, 1⟩

def uR (u : List UInt8) (t : Int) : RowC := ⟨u, [], ⟨200, [], []⟩, 0, t⟩

def kFd : FoR := ⟨2, ⟨200, [⟨CC17, [109, 97, 120, 45, 97, 103, 101, 61, 57]⟩, ⟨tAge, [48]⟩], []⟩, []⟩

def uFd : FoR := ⟨1, ⟨200, [⟨tAge, [48]⟩], []⟩, []⟩

theorem use_kfd : foundV Lib.itoa kR [] 0 = kFd := by decide +kernel

theorem use_ufd0 : foundV Lib.itoa (uR [] 0) [] 0 = uFd := by decide +kernel

theorem use_ufd (u : List UInt8) (t : Int) : foundV Lib.itoa (uR u t) [] 0 = uFd :=
 (show foundV Lib.itoa (uR u t) [] 0 = foundV Lib.itoa (uR [] 0) [] 0 from rfl).trans use_ufd0

theorem use_mk : meantV tKeep [] kR = true := by decide

theorem use_mu (u : List UInt8) (t : Int) : meantV u [] (uR u t) = true := by unfold meantV uR; simp

theorem use_no (u : List UInt8) (r : RowC) (h : r.url ≠ u) : meantV u [] r = false := by unfold meantV; simp [h]

def Inv17 (d : Nat) (C : CaS) : Prop := ∃ P S t, C = ⟨P ++ kR :: S, t⟩ ∧ P.length + S.length + 1 ≤ 16 ∧ S.length ≤ d ∧ ∀ x ∈ P ++ S, x.url ≠ tKeep

theorem use_put17 {d : Nat} {C : CaS} (u : List UInt8) (hI : Inv17 d C) (hd : d ≤ 14) (hu : u ≠ tKeep) : ∃ P S, putV C u [] ⟨200, [], []⟩ 0 = ⟨P ++ kR :: (S ++ [uR u (C.tn + 1)]), C.tn + 1⟩ ∧ P.length + S.length + 2 ≤ 16 ∧ S.length ≤ d ∧ (∀ x ∈ P ++ S, x.url ≠ tKeep) ∧ ∀ x ∈ P ++ S, meantV u [] x = false := by
 obtain ⟨P, S, t, rfl, hl, hs, hk⟩ := hI
 have hkr : meantV u [] kR = false := use_no u kR (fun e => hu e.symm)
 have h1 := List.length_filter_le (fun x => !meantV u [] x) P
 have h2 := List.length_filter_le (fun x => !meantV u [] x) S
 have hf : (P ++ kR :: S).filter (fun x => !meantV u [] x) = P.filter (fun x => !meantV u [] x) ++ kR :: S.filter (fun x => !meantV u [] x) := by
  rw [List.filter_append, List.filter_cons, hkr]
  rfl
 have hm : ∀ x ∈ P.filter (fun x => !meantV u [] x) ++ S.filter (fun x => !meantV u [] x), x.url ≠ tKeep ∧ meantV u [] x = false := by
  intro x hx
  rw [← List.filter_append] at hx
  obtain ⟨h3, h4⟩ := List.mem_filter.1 hx
  exact ⟨hk x h3, by simpa using h4⟩
 unfold putV
 rw [if_pos (show putOk [] ⟨200, [], []⟩ = true by decide +kernel)]
 dsimp only
 rw [hf, show (varV (pcsV [] nVy)).map (choV []) = [] by decide +kernel]
 generalize P.filter (fun x => !meantV u [] x) = P1 at h1 hm ⊢
 generalize S.filter (fun x => !meantV u [] x) = S1 at h2 hm ⊢
 unfold roomV
 by_cases h16 : 16 ≤ (P1 ++ kR :: S1).length
 ·rw [if_pos h16]
  cases P1 with
  | nil => simp at h16; omega
  | cons a P2 =>
   refine ⟨P2, S1, ?_, ?_, by omega, fun x hx => (hm x ?_).1, fun x hx => (hm x ?_).2⟩
   ·simp [uR]
   ·simp at h1; omega
   ·exact List.mem_cons_of_mem _ hx
   ·exact List.mem_cons_of_mem _ hx
 ·rw [if_neg h16]
  refine ⟨P1, S1, ?_, ?_, by omega, fun x hx => (hm x hx).1, fun x hx => (hm x hx).2⟩
  ·simp [uR]
  ·simp at h16; omega

theorem use_round17 {d : Nat} {C : CaS} (u : List UInt8) (hI : Inv17 d C) (hd : d ≤ 14) (hu : u ≠ tKeep) : ∃ C1 C2 C3, putV C u [] ⟨200, [], []⟩ 0 = C1 ∧ C1.tn = C.tn + 1 ∧ C1.rows.length ≤ 16 ∧
  findV Lib.itoa C1 tKeep [] 0 = kFd ∧ useV C1 tKeep [] = C2 ∧ C2.rows.length ≤ 16 ∧ C2.tn = C.tn + 1 ∧
  findV Lib.itoa C2 u [] 0 = uFd ∧ useV C2 u [] = C3 ∧ C3.tn = C.tn + 1 ∧ Inv17 1 C3 ∧
  findV Lib.itoa C1 u [] 0 = uFd ∧ useV C1 u [] = C1 ∧ Inv17 (d + 1) C1 := by
 obtain ⟨P, S, hp, hl, hs, hk, hm⟩ := use_put17 u hI hd hu
 obtain ⟨t, ht⟩ : ∃ t, t = C.tn + 1 := ⟨_, rfl⟩
 rw [← ht] at hp ⊢
 have hk2 : ∀ x ∈ P ++ (S ++ [uR u t]), meantV tKeep [] x = false := by
  intro x hx
  refine use_no _ _ ?_
  rcases List.mem_append.1 hx with hx | hx
  ·exact hk x (List.mem_append_left _ hx)
  ·rcases List.mem_append.1 hx with hx | hx
   ·exact hk x (List.mem_append_right _ hx)
   ·rw [List.mem_singleton.1 hx]; exact hu
 have hkr : meantV u [] kR = false := use_no u kR (fun e => hu e.symm)
 have hm2 : ∀ x ∈ (P ++ S) ++ [kR], meantV u [] x = false := by
  intro x hx
  rcases List.mem_append.1 hx with hx | hx
  ·exact hm x hx
  ·rw [List.mem_singleton.1 hx]; exact hkr
 have hm1 : ∀ x ∈ (P ++ kR :: S) ++ [], meantV u [] x = false := by
  intro x hx
  rw [List.append_nil] at hx
  rcases List.mem_append.1 hx with hx | hx
  ·exact hm x (List.mem_append_left _ hx)
  ·rcases List.mem_cons.1 hx with rfl | hx
   ·exact hkr
   ·exact hm x (List.mem_append_right _ hx)
 have e2 : P ++ (S ++ [uR u t]) ++ [kR] = (P ++ S) ++ uR u t :: [kR] := by simp
 have e1 : P ++ kR :: (S ++ [uR u t]) = (P ++ kR :: S) ++ uR u t :: [] := by simp
 refine ⟨⟨P ++ kR :: (S ++ [uR u t]), t⟩, ⟨P ++ (S ++ [uR u t]) ++ [kR], t⟩, ⟨(P ++ S) ++ [kR] ++ [uR u t], t⟩, hp, rfl, ?_, ?_, ?_, ?_, rfl, ?_, ?_, rfl, ?_, ?_, ?_, ?_⟩
 ·simp; omega
 ·rw [find_mid17 _ _ _ _ _ _ use_mk hk2, use_kfd]
 ·exact use_mid17 _ _ _ _ _ use_mk hk2
 ·simp; omega
 ·rw [e2, find_mid17 _ _ _ _ _ _ (use_mu u t) hm2, use_ufd]
 ·rw [e2, use_mid17 _ _ _ _ _ (use_mu u t) hm2]
 ·refine ⟨P ++ S, [uR u t], t, by simp, by simp; omega, by simp, fun x hx => ?_⟩
  rcases List.mem_append.1 hx with hx | hx
  ·exact hk x hx
  ·rw [List.mem_singleton.1 hx]; exact hu
 ·rw [e1, find_mid17 _ _ _ _ _ _ (use_mu u t) hm1, use_ufd]
 ·rw [e1, use_mid17 _ _ _ _ _ (use_mu u t) hm1, List.append_nil]
 ·refine ⟨P, S ++ [uR u t], t, rfl, by simp; omega, by simp; omega, fun x hx => ?_⟩
  rcases List.mem_append.1 hx with hx | hx
  ·exact hk x (List.mem_append_left _ hx)
  ·rcases List.mem_append.1 hx with hx | hx
   ·exact hk x (List.mem_append_right _ hx)
   ·rw [List.mem_singleton.1 hx]; exact hu

theorem use_last17 {d : Nat} {C : CaS} (hI : Inv17 d C) : findV Lib.itoa C tKeep [] 0 = kFd ∧ ∃ C', useV C tKeep [] = C' := by
 obtain ⟨P, S, t, rfl, hl, hs, hk⟩ := hI
 exact ⟨by rw [find_mid17 _ _ _ _ _ _ use_mk (fun x hx => use_no _ _ (hk x hx)), use_kfd], _, rfl⟩

def kC9 : CaS := putV ⟨[], 0⟩ tKeep [] ⟨200, [⟨CC17, [109, 97, 120, 45, 97, 103, 101, 61, 57]⟩], []⟩ 0

theorem use_kc : kC9 = ⟨[] ++ kR :: [], 1⟩ := by decide +kernel

theorem use_inv0 : Inv17 0 kC9 := ⟨[], [], 1, use_kc, by decide, by decide, fun x hx => by simp at hx⟩

theorem use_ok : putOk [] ⟨200, [⟨CC17, [109, 97, 120, 45, 97, 103, 101, 61, 57]⟩], []⟩ = true := by decide +kernel

theorem use_ok0 : putOk [] ⟨200, [], []⟩ = true := by decide +kernel

theorem wit17_i (hi : Nat) (hh : hi ≤ 1000) (x : Int) (h0 : (Lit.int .i64 x).wf = true) : ∃ n : Nat, n ≤ hi ∧ ∀ w : World, Calls Tryz.prog 31 #[.int .i64 x, .int .i64 0, .int .i64 hi] w fun e w' => e = .returned (.int .i64 (n : Int)) ∧ w = w' := by
 have hx : -9223372036854775808 ≤ x ∧ x ≤ 9223372036854775807 := by simpa [Lit.wf, IntKind.min, IntKind.max, IntKind.bits, IntKind.signed] using h0
 have hb := n_withinI_bounds x 0 hi (by omega)
 refine ⟨(n_withinI x 0 hi).toNat, by omega, fun w => ?_⟩
 have := n_within_any x 0 hi w (by omega) (by omega) (by omega) (by omega) (by omega)
 rw [show (((n_withinI x 0 hi).toNat : Nat) : Int) = n_withinI x 0 hi by omega]
 exact this

theorem field_fo17 (s st : Int) (a b c : Option Addr) (x1 x2 x3 y1 y2 y3 : Nat) (w : World) : (Instr.field 33 (.agg #[.int .i64 s, .int .i64 st, .slice a x1 y1, .slice b x2 y2, .slice c x3 y3]) 0).run Tryz.prog w = .ok (.int .i64 s) w := by kernel_rfl

def lagV (k e : Nat) : Nat := if k % e = 0 then e else k % e

theorem lag_zero (k e : Nat) (he : 1 ≤ e) : 1 ≤ lagV (k + 1) e := by
 unfold lagV
 split <;> omega

theorem lag_next (k e : Nat) (he : 1 ≤ e) (h : ¬ k % e = 0) : lagV k e + 1 ≤ lagV (k + 1) e := by
 have h1 : k % e < e := Nat.mod_lt _ (by omega)
 unfold lagV
 rw [if_neg h]
 by_cases h2 : k % e + 1 = e
 ·have : (k + 1) % e = 0 := by
   have := Nat.div_add_mod k e
   rw [show k + 1 = e * (k / e + 1) by rw [Nat.mul_add, Nat.mul_one]; omega]
   exact Nat.mul_mod_right _ _
  rw [if_pos this]
  omega
 ·have : (k + 1) % e = k % e + 1 := by
   have h3 := Nat.div_add_mod k e
   rw [show k + 1 = (k % e + 1) + e * (k / e) by omega, Nat.add_mul_mod_self_left]
   exact Nat.mod_eq_of_lt (by omega)
  rw [this, if_neg (by omega)]
  omega

theorem lag_le (k e : Nat) (he : 1 ≤ e) : lagV k e ≤ e := by
 have h1 : k % e < e := Nat.mod_lt _ (by omega)
 unfold lagV
 split <;> omega

set_option maxHeartbeats 8000000 in
set_option maxRecDepth 100000 in
theorem cacheUse_walk (puts every : Int) (w : World) (h1 : (Lit.int .i64 puts).wf = true) (h2 : (Lit.int .i64 every).wf = true) (h5 : G5 w) (hgp : Gp17 w) (hg : gMax < w.heap.size) :
  Calls Tryz.prog 7 #[.int .i64 puts, .int .i64 every] w fun e w' => e = .returned (.bool true) ∧ Below w.heap.size w w' := by
 obtain ⟨n, hn, hWn⟩ := wit17_i 80 (by decide) puts h1
 obtain ⟨v, hv, hWv⟩ := wit17_i 13 (by decide) every h2
 have HWn := hid hWn
 have HWv := hid hWv
 have HN := hid (new17_any w h5 hg)
 have HGp := hid hgp
 have HGx := hid hg
 clear hWn hWv h1 h2 h5 hgp hg
 go_enter Tryz.func7, Tryz.ntmps7
 go_wp2_with fail
 refine HN.out.mono ?_
 rintro e w1 ⟨rfl, hc1, hb1⟩
 have HSw1 := hid (show StC w w1 ⟨[], 0⟩ from ⟨hc1, hb1, HGp.out.low HGx.out hb1⟩)
 clear hc1 hb1
 go_wp2_with fail
 refine (cc17_any ⟨#[109, 97, 120, 45, 97, 103, 101, 61, 57]⟩ _).mono ?_
 rintro e w2 ⟨rfl, ho2, hb2⟩
 have HSw2 := hid (HSw1.out.below hb2)
 have HP := hid (put_at17 w.heap.size w2.heap.size ⟨[], 0⟩ kC9 ⟨#[107, 101, 101, 112]⟩ (.slice none 0 0) [] 200 (.slice (some ⟨w1.heap.size, 0, none⟩) 1 1) (.slice none 0 0) [⟨CC17, [109, 97, 120, 45, 97, 103, 101, 61, 57]⟩] [] 0 true w2 HSw2.out.1 (cagB_ok (by decide +kernel)) (hdt_nil _) szo_nil (own_hdt ho2) (hkB_ok (by decide +kernel)) (bdt_nil _ _) (by decide) use_ok rfl)
 clear ho2 hb2
 go_wp2_with fail
 refine HP.out.mono ?_
 rintro e w3 ⟨rfl, hc3, ht3⟩
 have HSw3 := hid (HSw2.out.turn hc3 ht3)
 clear hc3 ht3
 go_wp2_with fail
 refine (HWn.out _).mono ?_
 rintro e w4 ⟨rfl, hw4⟩
 rw [← hw4]
 clear hw4
 go_wp2_with fail
 refine (HWv.out _).mono ?_
 rintro e w4 ⟨rfl, hw4⟩
 rw [← hw4]
 clear hw4
 go_wp2_with fail
 go_loopw [4, 6] (fun _ s6 wr => ∃ (k d : Nat) (C : CaS), s6 = .int .i64 k ∧ k ≤ n ∧ d ≤ lagV k (v + 1) ∧ C.tn = (k : Int) + 1 ∧ Hid (StC w wr C ∧ Inv17 d C ∧ CaG C)) (fun _ s6 _ => n - (intOf s6).toNat)
 case atStart => exact ⟨0, 0, kC9, rfl, Nat.zero_le _, Nat.zero_le _, by rw [use_kc]; rfl, HSw3.out, use_inv0, cagB_ok (by decide +kernel)⟩
 case round =>
  obtain ⟨k, d, C, rfl, hk, hd, htn, HR⟩ := hrel
  have HSwr := hid HR.out.1
  have HGC := hid HR.out.2.2
  have HIv := hid HR.out.2.1
  clear HR
  by_cases hlt : k < n
  ·have hin : (k : Int) < (n : Int) := by omega
   have hd14 : d ≤ 14 := by have := lag_le k (v + 1) (by omega); omega
   have hmod : (k : Int).tmod (1 + (v : Int)) = ((k % (v + 1) : Nat) : Int) := by
    rw [Int.tmod_eq_emod_of_nonneg (by omega), show (1 : Int) + (v : Int) = ((v + 1 : Nat) : Int) by omega]
    exact (Int.natCast_emod k (v + 1)).symm
   have hv0 : (1 + (v : Int) == 0) = false := by rw [beq_eq_false_iff_ne]; omega
   go_wp2_with fail
   refine (digits17s_any k _ (by omega)).mono ?_
   rintro e wd ⟨T, rfl, hDT, hET, hwd⟩
   rw [← hwd]
   clear hwd
   have HET := hid hET
   clear hET
   have lT : T.length ≤ 40 := hDT.2.2.2
   have HApp := hid (show (⟨#[117]⟩ : ByteArray) ++ ⟨T.toArray⟩ = ⟨(uU ++ T).toArray⟩ from app17b uU T)
   have hne : uU ++ T ≠ tKeep := by
    intro h
    injection h with h _
    revert h
    decide
   obtain ⟨C1, C2, C3, p1, p2, p3, p4, p5, p6, p7, p8, p9, p10, p11, p12, p13, p14⟩ := use_round17 (uU ++ T) HIv.out hd14 hne
   have g1 : CaG C1 := by rw [← p1]; exact HGC.out.put (by omega) _ _ _ _ hk_nil (by decide) (by decide)
   have g2 : CaG C2 := by rw [← p5]; exact g1.use _ _
   have g3 : CaG C3 := by rw [← p9]; exact g2.use _ _
   have P4 := hid p4
   have P5 := hid p5
   have P8 := hid p8
   have P9 := hid p9
   have P11 := hid p11
   have P12 := hid p12
   have P13 := hid p13
   have P14 := hid p14
   have G1 := hid g1
   have G2 := hid g2
   have G3 := hid g3
   have P1 := hid p1
   have hl1 : (C1.rows.length : Int) ≤ 16 := by omega
   have hl2 : (C2.rows.length : Int) ≤ 16 := by omega
   clear p1 p4 p5 p8 p9 p11 p12 p13 p14 g1 g2 g3 hne hDT
   go_wp2_with fail
   rw [HApp.out]
   refine (put_at17 w.heap.size _ C C1 ⟨(uU ++ T).toArray⟩ (.slice none 0 0) [] 200 (.slice none 0 0) (.slice none 0 0) [] [] 0 true _ HSwr.out.1 HGC.out (hdt_nil _) szo_nil (hdt_nil _) hk_nil (bdt_nil _ _) (by decide) use_ok0 P1.out).mono ?_
   rintro e wp ⟨rfl, hcp, htp⟩
   have HSwp := hid (HSwr.out.turn hcp htp)
   clear hcp htp
   by_cases hm : k % (v + 1) = 0
   ·have hm0 : (k : Int).tmod (1 + (v : Int)) = 0 := by rw [hmod, hm]; rfl
    have hm1 : ((k : Int).tmod (1 + (v : Int)) == 0) = true := by rw [hm0]; rfl
    clear hmod
    go_wp2_with fail
    refine (find_at17 w.heap.size wp.heap.size C1 C2 ⟨#[107, 101, 101, 112]⟩ (.slice none 0 0) [] 0 2 200 [⟨CC17, [109, 97, 120, 45, 97, 103, 101, 61, 57]⟩, ⟨tAge, [48]⟩] [] [] wp HSwp.out.1 G1.out (hdt_nil _) szo_nil HSwp.out.2.2 (by decide) P4.out P5.out).mono ?_
    rintro e wq ⟨x1, x2, x3, x4, x5, x6, Mwq, rfl, hcwq, _, _, _, htwq⟩
    have HSwq := hid (HSwp.out.turn hcwq htwq)
    clear hcwq htwq
    have hfwq : ∀ w, (Instr.field 33 (.agg #[.int .i64 2, .int .i64 200, .slice x1 2 x2, .slice x3 0 x4, .slice x5 0 x6]) 0).run Tryz.prog w = .ok (.int .i64 2) w := fun w => field_fo17 2 200 x1 x3 x5 2 0 0 x2 x4 x6 w
    go_wp2_with fail
    refine (len17_any w.heap.size wq.heap.size C2 wq HSwq.out.1).mono ?_
    rintro e wl ⟨rfl, rfl⟩
    have HSwl := hid HSwq.out
    go_wp2_with fail
    refine (digits17s_any k _ (by omega)).mono ?_
    rintro e wd ⟨T2, rfl, hDT2, hET2, hwd⟩
    rw [← hwd]
    clear hwd
    have HET2 := hid hET2
    clear hET2
    obtain rfl : T2 = T := HET2.out.trans HET.out.symm
    clear HET2 hDT2
    go_wp2_with fail
    rw [HApp.out]
    refine (find_at17 w.heap.size wl.heap.size C2 C3 ⟨(uU ++ T2).toArray⟩ (.slice none 0 0) [] 0 1 200 [⟨tAge, [48]⟩] [] [] wl HSwl.out.1 G2.out (hdt_nil _) szo_nil HSwl.out.2.2 (by decide) P8.out P9.out).mono ?_
    rintro e wu ⟨y1, y2, y3, y4, y5, y6, Mwu, rfl, hcwu, _, _, _, htwu⟩
    have HSwu := hid (HSwl.out.turn hcwu htwu)
    clear hcwu htwu
    have hfwu : ∀ w, (Instr.field 33 (.agg #[.int .i64 1, .int .i64 200, .slice y1 1 y2, .slice y3 0 y4, .slice y5 0 y6]) 0).run Tryz.prog w = .ok (.int .i64 1) w := fun w => field_fo17 1 200 y1 y3 y5 1 0 0 y2 y4 y6 w
    go_wp2_with fail
    go_roundw
    case rel => exact ⟨k + 1, _, C3, by go_num, by omega, lag_zero k (v + 1) (by omega), by rw [p10, htn]; omega, HSwu.out, P11.out, G3.out⟩
    case measure => simp [intOf]; omega
   ·have hm0 : ¬ (k : Int).tmod (1 + (v : Int)) = 0 := by rw [hmod]; omega
    have hm1 : ((k : Int).tmod (1 + (v : Int)) == 0) = false := by rw [beq_eq_false_iff_ne]; exact hm0
    clear hmod
    go_wp2_with fail
    refine (len17_any w.heap.size wp.heap.size C1 wp HSwp.out.1).mono ?_
    rintro e wl ⟨rfl, rfl⟩
    have HSwl := hid HSwp.out
    go_wp2_with fail
    refine (digits17s_any k _ (by omega)).mono ?_
    rintro e wd ⟨T2, rfl, hDT2, hET2, hwd⟩
    rw [← hwd]
    clear hwd
    have HET2 := hid hET2
    clear hET2
    obtain rfl : T2 = T := HET2.out.trans HET.out.symm
    clear HET2 hDT2
    go_wp2_with fail
    rw [HApp.out]
    refine (find_at17 w.heap.size wl.heap.size C1 C1 ⟨(uU ++ T2).toArray⟩ (.slice none 0 0) [] 0 1 200 [⟨tAge, [48]⟩] [] [] wl HSwl.out.1 G1.out (hdt_nil _) szo_nil HSwl.out.2.2 (by decide) P12.out P13.out).mono ?_
    rintro e wu ⟨y1, y2, y3, y4, y5, y6, Mwu, rfl, hcwu, _, _, _, htwu⟩
    have HSwu := hid (HSwl.out.turn hcwu htwu)
    clear hcwu htwu
    have hfwu : ∀ w, (Instr.field 33 (.agg #[.int .i64 1, .int .i64 200, .slice y1 1 y2, .slice y3 0 y4, .slice y5 0 y6]) 0).run Tryz.prog w = .ok (.int .i64 1) w := fun w => field_fo17 1 200 y1 y3 y5 1 0 0 y2 y4 y6 w
    go_wp2_with fail
    go_roundw
    case rel => exact ⟨k + 1, _, C1, by go_num, by omega, Nat.le_trans (by omega) (lag_next k (v + 1) (by omega) hm), by rw [p2, htn]; omega, HSwu.out, P14.out, G1.out⟩
    case measure => simp [intOf]; omega
  ·have hin : decide ((k : Int) < (n : Int)) = false := by rw [decide_eq_false_iff_not]; omega
   obtain ⟨hl1, C', hl2⟩ := use_last17 HIv.out
   have HL1 := hid hl1
   have HL2 := hid hl2
   clear hl1 hl2
   go_wp2_with fail
   refine (find_at17 w.heap.size wr.heap.size C C' ⟨#[107, 101, 101, 112]⟩ (.slice none 0 0) [] 0 2 200 [⟨CC17, [109, 97, 120, 45, 97, 103, 101, 61, 57]⟩, ⟨tAge, [48]⟩] [] [] wr HSwr.out.1 HGC.out (hdt_nil _) szo_nil HSwr.out.2.2 (by decide) HL1.out HL2.out).mono ?_
   rintro e wz ⟨x1, x2, x3, x4, x5, x6, Mwz, rfl, hcwz, _, _, _, htwz⟩
   have HSwz := hid (HSwr.out.turn hcwz htwz)
   clear hcwz htwz
   have hfwz : ∀ w, (Instr.field 33 (.agg #[.int .i64 2, .int .i64 200, .slice x1 2 x2, .slice x3 0 x4, .slice x5 0 x6]) 0).run Tryz.prog w = .ok (.int .i64 2) w := fun w => field_fo17 2 200 x1 x3 x5 2 0 0 x2 x4 x6 w
   have HK := hid HSwz.out.known
   go_wp2_with fail
   refine HK.out.mono ?_
   rintro e w9 ⟨rfl, hb9⟩
   go_wp2_with fail
   go_ret
   exact ⟨rfl, hb9⟩

end Go.Proofs.YtfcmonjfcnfjoaaGreatDoor
