/-
  Walks and plain facts that this claim leans on, put together out of 3 texts: Erh, Eri, Djk.
-/
import Derived.Test.YtdnginibhpnefaaGreatDoorProg
import Derived.Test.YtdnginibhpnefaaGreatDoorQa1
import Derived.Test.YtdnginibhpnefaaGreatDoorQa2
import Derived.Test.YtdnginibhpnefaaGreatDoorQa3
import Derived.Test.YtdnginibhpnefaaGreatDoorQa4
import Derived.Test.YtdnginibhpnefaaGreatDoorQa5
import Derived.Test.YtdnginibhpnefaaGreatDoorQa6
import Derived.Test.YtdnginibhpnefaaGreatDoorQa7
import Derived.Test.YtdnginibhpnefaaGreatDoorQa8
import Derived.Test.YtdnginibhpnefaaGreatDoorQa9
import Derived.Test.YtdnginibhpnefaaGreatDoorQa10
import Derived.Test.YtdnginibhpnefaaGreatDoorQa11
import Derived.Test.YtdnginibhpnefaaGreatDoorQa12
import Derived.Test.YtdnginibhpnefaaGreatDoorQa13
import Derived.Test.YtdnginibhpnefaaGreatDoorQa14
import Derived.Test.YtdnginibhpnefaaGreatDoorQa17
import Derived.Test.YtdnginibhpnefaaGreatDoorQa18
import Derived.Test.YtdnginibhpnefaaGreatDoorQa19
import Derived.Test.YtdnginibhpnefaaGreatDoorQa20
import Derived.Test.YtdnginibhpnefaaGreatDoorQa21
import Derived.Test.YtdnginibhpnefaaGreatDoorQa22
import Derived.Test.YtdnginibhpnefaaGreatDoorQa23
import Derived.Test.YtdnginibhpnefaaGreatDoorQa24
import Derived.Test.YtdnginibhpnefaaGreatDoorQa25
import Derived.Test.YtdnginibhpnefaaGreatDoorQa26
import Derived.Test.YtdnginibhpnefaaGreatDoorQa27
import Derived.Test.YtdnginibhpnefaaGreatDoorQa28
import Derived.Test.YtdnginibhpnefaaGreatDoorQa29
import Derived.Test.YtdnginibhpnefaaGreatDoorQa30
import Derived.Test.YtdnginibhpnefaaGreatDoorQa31
import Derived.Test.YtdnginibhpnefaaGreatDoorQa32
import Derived.LoopN
import Derived.RegionTactic
import Derived.Deep.RegionWith
import Derived.Deep.QuietTactic
import Derived.BigQuiet
import Derived.WalkKit
import Derived.Laws.BitsAllLaws
import Derived.Lib.LastIndexByte
import Derived.Lib.IndexMore
import Derived.Lib.Join
import Derived.WalkMore
import Derived.Laws.RangeAny
import Derived.Lib.DecodeN
import Derived.Lib.OthersKept
import Derived.Deep.LoopGhost
import Derived.Laws.CopyOwn
import Derived.Laws.ResultCell
import Derived.Deep.MidRow
import Derived.Deep.RegionLaw
import Derived.Lib.Strings
import Derived.Lib.UnsafeStr
import Derived.Laws.IdiomStrings
import Derived.Laws.AppendOwn
import Derived.Shelf.Strings.Builder1
import Derived.Shelf.Strings.Builder2
import Derived.Shelf.Strings.OnBuilder
import Derived.Shelf.Strings.Trim
import Derived.Shelf.Small.Utf8
import Derived.Shelf.Small.Strs
import Derived.Shelf.Small.Wraps
import Derived.Shelf.Strings.BuilderF
import Derived.Shelf.Strings.BuilderK
import Derived.Shelf.Strings.Builder2Cap
import Derived.Shelf.Strconv.Itoa0
import Derived.Shelf.Strconv.Itoa1
import Derived.Shelf.LaysM
import Derived.Shelf.Strconv.Itoa2
import Derived.Shelf.Strconv.Itoa3
import Derived.Shelf.Strings.Search1
import Derived.Shelf.Strings.Search2
import Derived.Shelf.Strings.Search3
import Derived.Shelf.Strings.Cut
import Derived.Shelf.Strings.Count
import Derived.Shelf.Strings.Shaped
import Derived.Shelf.Strings.LastIndex
import Derived.Shelf.Strings.Prefix
import Derived.Shelf.Strings.Split
import Derived.Shelf.Strings.Replace
import Derived.Shelf.Strings.Runes
import Derived.Shelf.Strings.IndexAny
import Derived.Shelf.Strings.AsciiSet
import Derived.Shelf.Strings.IndexAnyAll
import Derived.Shelf.Unicode.DecodeSlow
import Derived.Ground.Names2Prog
import Derived.Shelf.Slices.Clone
import Derived.Ground.SlgnProg
import Derived.Shelf.SlicesE.Clone
import Derived.OwnWalk
import Derived.Laws.OwnMore
import Derived.Lib.AppendIntMem
import Derived.Lib.SmallJoins
import Derived.WalkSmall
import Derived.Lib.SlTrimSet
import Derived.WalkSpells
import Derived.WalkLawsBesides
import Derived.Deep.WholeRow
import Derived.BigRegion
import Derived.Scope
import Derived.ScopeJumps
import Derived.Lib.IndexAny
import Derived.Lib.Replace
import Derived.Lib.TrimByte
import Derived.Lib.ItoaNum
import Derived.Lib.BufferMore
import Derived.Lib.Bytealg
import Derived.Lib.FrozenHead2
import Derived.Lib.Builder
import Derived.Laws.BytesString
import Derived.Lib.AppendStr
import Derived.Deep.RegionHeld
import Derived.Deep.Cut
import Derived.Lib.BufferRead
import Derived.Lib.RuneBytes
import Derived.Laws.AppendOwnNone
set_option linter.unusedSimpArgs false
set_option linter.unusedVariables false

namespace Go.Proofs.YtdnginibhpnefaaGreatDoor
/-- A byte that may be told. -/
def seeC (c : UInt8) : Bool := decide (33 ≤ c.toNat) && decide (c.toNat ≤ 126)

def seeB (c : UInt8) : Bool := decide (32 ≤ c.toNat) && decide (c.toNat ≤ 126)

theorem seeC_B {c : UInt8} (h : seeC c = true) : seeB c = true := by
  unfold seeC at h
  unfold seeB
  rw [Bool.and_eq_true, decide_eq_true_iff, decide_eq_true_iff] at h ⊢
  omega

/-- A byte of a host. -/
def hoC (c : UInt8) : Bool := seeC c && (c != 35 && (c != 47 && (c != 63 && (c != 64 && c != 92))))

theorem u8_all {P : UInt8 → Bool} (h : ∀ n < 256, P (UInt8.ofNat n) = true) (c : UInt8) : P c = true := by
  have := h c.toNat c.toNat_lt
  rwa [show UInt8.ofNat c.toNat = c by simp] at this

theorem pct1_see (c : UInt8) : ((pct1 2 c).all seeC && ((pct1 3 c).all seeC && ((pct1 4 c).all seeC && ((pct1 5 c).all seeC && ((pct1 6 c).all seeC && (pct1 1 c).all seeB))))) = true :=
  u8_all (P := fun c => ((pct1 2 c).all seeC && ((pct1 3 c).all seeC && ((pct1 4 c).all seeC && ((pct1 5 c).all seeC && ((pct1 6 c).all seeC && (pct1 1 c).all seeB)))))) (by decide +kernel) c

theorem pct_all (k : Int) (P : UInt8 → Bool) (h : ∀ c, (pct1 k c).all P = true) (l : List UInt8) : ∀ c ∈ pct k l, P c = true := fun c hc => by
  unfold pct at hc
  obtain ⟨d, -, hd⟩ := List.mem_flatMap.1 hc
  exact List.all_eq_true.1 (h d) c hd

theorem pct_see (k : Int) (hk : k = 2 ∨ k = 3 ∨ k = 4 ∨ k = 5 ∨ k = 6) (l : List UInt8) : ∀ c ∈ pct k l, seeC c = true := by
  apply pct_all
  intro c
  have := pct1_see c
  simp only [Bool.and_eq_true] at this
  rcases hk with rfl | rfl | rfl | rfl | rfl
  · exact this.1
  · exact this.2.1
  · exact this.2.2.1
  · exact this.2.2.2.1
  · exact this.2.2.2.2.1

theorem pct_seeB (l : List UInt8) : ∀ c ∈ pct 1 l, seeB c = true := by
  apply pct_all
  intro c
  have := pct1_see c
  simp only [Bool.and_eq_true] at this
  exact this.2.2.2.2.2

/-! ### Hosts -/

theorem digC_ho (n : Nat) (h : n < 16) : hoC (digC n) = true := by
  have : ∀ n < 16, hoC (digC n) = true := by decide +kernel
  exact this n h

theorem digsN_ho : ∀ (f n : Nat) (acc : List UInt8), (∀ c ∈ acc, hoC c = true) → ∀ c ∈ digsN 16 f n acc, hoC c = true
  | 0, n, acc, h => h
  | f + 1, n, acc, h => by
    rw [digsN]
    split
    · intro c hc
      rcases List.mem_cons.1 hc with rfl | hc
      · exact digC_ho n (by omega)
      · exact h c hc
    · exact digsN_ho f _ _ fun c hc => by
        rcases List.mem_cons.1 hc with rfl | hc
        · exact digC_ho _ (Nat.mod_lt _ (by omega))
        · exact h c hc

theorem joined_ho : ∀ (x : List Nat), ∀ c ∈ joined x, hoC c = true
  | [] => by rw [joined_nil]; simp
  | [n] => by rw [joined_one]; exact digsN_ho 4 n [] (by simp)
  | a :: b :: l => by
    rw [joined_cons]
    intro c hc
    rcases List.mem_append.1 hc with hc | hc
    · exact digsN_ho 4 a [] (by simp) c hc
    · rcases List.mem_append.1 hc with hc | hc
      · obtain rfl := List.mem_singleton.1 hc; decide
      · exact joined_ho (b :: l) c hc

theorem text6_ho (x : List Nat) : ∀ c ∈ text6 x, hoC c = true := by
  unfold text6
  split
  · exact joined_ho x
  · intro c hc
    rcases List.mem_append.1 hc with hc | hc
    · exact joined_ho _ c hc
    · rcases List.mem_append.1 hc with hc | hc
      · rcases List.mem_cons.1 hc with rfl | hc
        · decide
        · obtain rfl := List.mem_singleton.1 hc; decide
      · exact joined_ho _ c hc

theorem dec8_ho (n : Nat) (h : n < 256) : ∀ c ∈ dec8 n, hoC c = true := by
  have : ∀ n < 256, ∀ c ∈ dec8 n, hoC c = true := by decide +kernel
  exact this n h

theorem text4_ho (n : Nat) : ∀ c ∈ text4 n, hoC c = true := by
  unfold text4
  intro c hc
  have hm : ∀ k : Nat, k % 256 < 256 := fun k => Nat.mod_lt _ (by decide)
  rcases List.mem_append.1 hc with hc | hc
  · exact dec8_ho _ (hm _) c hc
  · rcases List.mem_cons.1 hc with rfl | hc
    · decide
    · rcases List.mem_append.1 hc with hc | hc
      · exact dec8_ho _ (hm _) c hc
      · rcases List.mem_cons.1 hc with rfl | hc
        · decide
        · rcases List.mem_append.1 hc with hc | hc
          · exact dec8_ho _ (hm _) c hc
          · rcases List.mem_cons.1 hc with rfl | hc
            · decide
            · exact dec8_ho _ (hm _) c hc

theorem nameB_ho (c : UInt8) (h : nameB c = true) : hoC c = true := by
  have := u8_all (P := fun c => !nameB c || hoC c) (by decide +kernel) c
  simp only [Bool.or_eq_true, Bool.not_eq_true'] at this
  rcases this with h' | h'
  · rw [h] at h'; cases h'
  · exact h'

theorem seeB_ho (c : UInt8) (h : seeB c = true) (hf : forb c = false) : hoC c = true := by
  have := u8_all (P := fun c => !seeB c || (forb c || hoC c)) (by decide +kernel) c
  simp only [Bool.or_eq_true, Bool.not_eq_true'] at this
  rcases this with h' | h' | h'
  · rw [h] at h'; cases h'
  · rw [hf] at h'; cases h'
  · exact h'

theorem host_ho {l a : List UInt8} {b : Bool} (h : parseV l b = some a) : ∀ c ∈ a, hoC c = true := by
  unfold parseV at h
  split at h
  · unfold bracketV at h
    split at h
    · cases hs : sixV (Lib.trimSuffix (l.drop 1) [93]) with
      | none => rw [hs] at h; cases h
      | some x =>
        rw [hs] at h
        simp only [Option.map_some, Option.some.injEq] at h
        rw [← h]
        intro c hc
        rcases List.mem_cons.1 hc with rfl | hc
        · decide
        · rcases List.mem_append.1 hc with hc | hc
          · exact text6_ho x c hc
          · obtain rfl := List.mem_singleton.1 hc; decide
    · cases h
  · split at h
    · unfold nameV at h
      split at h
      · cases h
      · rename_i hn
        split at h
        · cases hf : fourV (low (unpct l)) with
          | none => rw [hf] at h; cases h
          | some n =>
            rw [hf] at h
            simp only [Option.map_some, Option.some.injEq] at h
            rw [← h]
            exact text4_ho n
        · simp only [Option.some.injEq] at h
          rw [← h]
          intro c hc
          have : allN (low (unpct l)) = true := by
            cases he : allN (low (unpct l)) with
            | true => rfl
            | false => exact absurd (.inr (.inl he)) hn
          exact nameB_ho c (List.all_eq_true.1 this c hc)
    · unfold otherV at h
      split at h
      · cases h
      · rename_i hn
        simp only [Option.some.injEq] at h
        have hf := pct_forb l (by simpa using hn)
        rw [h] at hf
        intro c hc
        refine seeB_ho c ?_ ?_
        · rw [← h] at hc; exact pct_seeB l c hc
        · cases he : forb c with
          | false => rfl
          | true => rw [List.any_eq_true.2 ⟨c, hc, he⟩] at hf; cases hf

theorem hoC_see {c : UInt8} (h : hoC c = true) : seeC c = true := by
  unfold hoC at h
  exact (Bool.and_eq_true _ _ ▸ h : _ ∧ _).1

/-! ### Paths -/

theorem pct5_dot (p : List UInt8) (q : List UInt8) (hq : q = [46] ∨ q = [46, 46]) (h : pct 5 p = q) : p = q := by
  have h1 : ∀ c : UInt8, pct1 5 c ≠ [] ∧ (pct1 5 c).head? = some (if inSetI c.toNat 5 then 37 else c) := fun c => by
    unfold pct1 esc
    split <;> simp [*]
  have h2 : ∀ c : UInt8, (pct1 5 c).head? = some 46 → c = 46 ∧ pct1 5 c = [46] := fun c hc => by
    rw [(h1 c).2] at hc
    split at hc
    · injection hc with hc; cases hc
    · injection hc with hc
      subst hc
      exact ⟨rfl, by decide +kernel⟩
  have step : ∀ (p r : List UInt8), pct 5 p = 46 :: r → ∃ p', p = 46 :: p' ∧ pct 5 p' = r := by
    intro p r e
    cases p with
    | nil => cases e
    | cons c p =>
      have e' : pct1 5 c ++ pct 5 p = 46 :: r := e
      have hh : (pct1 5 c).head? = some 46 := by
        cases hc : pct1 5 c with
        | nil => exact absurd hc (h1 c).1
        | cons d t => rw [hc, List.cons_append] at e'; injection e' with e1 e2; rw [e1]; rfl
      obtain ⟨rfl, e2⟩ := h2 c hh
      rw [e2] at e'
      exact ⟨p, rfl, by simpa using e'⟩
  have nil : ∀ p : List UInt8, pct 5 p = [] → p = [] := by
    intro p e
    cases p with
    | nil => rfl
    | cons c p =>
      have e' : pct1 5 c ++ pct 5 p = [] := e
      exact absurd (List.append_eq_nil_iff.1 e').1 (h1 c).1
  rcases hq with rfl | rfl
  · obtain ⟨p', rfl, e⟩ := step p _ h
    rw [nil p' e]
  · obtain ⟨p', rfl, e⟩ := step p _ h
    obtain ⟨p2, rfl, e2⟩ := step p' _ e
    rw [nil p2 e2]

/-- A part of a path: what may be told, and no dots. -/
def PartOk (p : List UInt8) : Prop := (∀ c ∈ p, seeC c = true) ∧ p ≠ [46] ∧ p ≠ [46, 46]

theorem part_nil : PartOk [] := ⟨by simp, by simp, by simp⟩

theorem part_pct {p : List UInt8} (h : dotsV p = 0) : PartOk (pct 5 p) := by
  refine ⟨pct_see 5 (.inr (.inr (.inr (.inl rfl)))) p, fun e => ?_, fun e => ?_⟩
  · have := pct5_dot p [46] (.inl rfl) e
    subst this
    rw [d_1.1] at h; cases h
  · have := pct5_dot p [46, 46] (.inr rfl) e
    subst this
    rw [d_1.2.1] at h; cases h

theorem step_ok {out : List (List UInt8)} {p : List UInt8} {mo : Bool} (h : ∀ q ∈ out, PartOk q) : ∀ q ∈ stepP out p mo, PartOk q := by
  intro q hq
  rcases dotsV_cases p with h0 | h0 | h0
  · rw [stepP0 h0] at hq
    rcases List.mem_append.1 hq with hq | hq
    · exact h q hq
    · obtain rfl := List.mem_singleton.1 hq; exact part_pct h0
  · cases mo with
    | true => rw [stepP1 h0] at hq; exact h q hq
    | false =>
      rw [stepP1' h0] at hq
      rcases List.mem_append.1 hq with hq | hq
      · exact h q hq
      · obtain rfl := List.mem_singleton.1 hq; exact part_nil
  · cases mo with
    | true => rw [stepP2 h0] at hq; exact h q (List.dropLast_subset _ hq)
    | false =>
      rw [stepP2' h0] at hq
      rcases List.mem_append.1 hq with hq | hq
      · exact h q (List.dropLast_subset _ hq)
      · obtain rfl := List.mem_singleton.1 hq; exact part_nil

theorem pathL_ok : ∀ (L out : List (List UInt8)), (∀ q ∈ out, PartOk q) → ∀ q ∈ pathL out L, PartOk q
  | [], out, h => by rw [pathL]; exact h
  | [p], out, h => by rw [pathL_last]; exact step_ok h
  | p :: q :: r, out, h => by
    rw [pathL_more out p (q :: r) (by simp)]
    exact pathL_ok (q :: r) _ (step_ok h)

theorem stepP_ne (out : List (List UInt8)) (p : List UInt8) : stepP out p false ≠ [] := by
  rcases dotsV_cases p with h0 | h0 | h0
  · rw [stepP0 h0]; simp
  · rw [stepP1' h0]; simp
  · rw [stepP2' h0]; simp

theorem pathL_ne : ∀ (L out : List (List UInt8)), L ≠ [] → pathL out L ≠ []
  | [], out, h => absurd rfl h
  | [p], out, h => by rw [pathL_last]; exact stepP_ne _ _
  | p :: q :: r, out, h => by
    rw [pathL_more out p (q :: r) (by simp)]
    exact pathL_ne (q :: r) _ (by simp)

end Go.Proofs.YtdnginibhpnefaaGreatDoor

namespace Go.Proofs.YtdnginibhpnefaaGreatDoor
def AllS (l : List UInt8) : Prop := ∀ c ∈ l, seeC c = true

theorem allS_nil : AllS [] := fun c h => by simp at h

/-- What holds of an address under way. -/
structure Pre3 (u : Adr) : Prop where
  scheme : AllS u.scheme
  user : AllS u.user
  pass : AllS u.pass
  host : ∀ c ∈ u.host, hoC c = true
  port : u.port = -1 ∨ (0 ≤ u.port ∧ u.port ≤ 65535 ∧ u.port ≠ ownV u.scheme ∧ u.hasHost = true)
  query : AllS u.query
  fragment : AllS u.fragment
  noQ : u.hasQuery = false → u.query = []
  noF : u.hasFragment = false → u.fragment = []

structure Good3 (u : Adr) : Prop where
  pre : Pre3 u
  parts : u.opq = false → ∀ p ∈ u.path, PartOk p
  opaque_ : u.opq = true → u.hasHost = false ∧ ∃ x, u.path = [pct 1 x]
  special : specV u.scheme = true → u.host ≠ [] ∧ u.path ≠ [] ∧ u.opq = false

theorem withQuery_cases (u : Adr) (q : List UInt8) : withQuery u q = u ∨ withQuery u q = { u with query := querV (specV u.scheme) (q.drop 1), hasQuery := true } := by
  unfold withQuery
  split
  · exact .inl rfl
  · exact .inr rfl

theorem querV_see (sp : Bool) (q : List UInt8) : AllS (querV sp q) := by
  unfold querV
  cases sp with
  | true => exact pct_see 4 (.inr (.inr (.inl rfl))) q
  | false => exact pct_see 3 (.inr (.inl rfl)) q

theorem Good3.query {u : Adr} (h : Good3 u) (q : List UInt8) : Good3 (withQuery u q) := by
  rcases withQuery_cases u q with e | e
  · rw [e]; exact h
  · rw [e]
    exact ⟨⟨h.pre.scheme, h.pre.user, h.pre.pass, h.pre.host, h.pre.port, querV_see _ _, h.pre.fragment, (fun e => by cases e), h.pre.noF⟩, h.parts, h.opaque_, h.special⟩

theorem Good3.path {u : Adr} (h : Pre3 u) (ho : u.opq = false) (hs : specV u.scheme = true → u.host ≠ []) (hv : List (List UInt8)) (hok : ∀ q ∈ hv, PartOk q) (r : List UInt8) : Good3 (withPath u hv r) := by
  unfold withPath
  refine Good3.query (u := { u with path := pathV (specV u.scheme) hv (aheadV [63] r).1 }) ⟨⟨h.scheme, h.user, h.pass, h.host, h.port, h.query, h.fragment, h.noQ, h.noF⟩, ?_, ?_, ?_⟩ _
  · intro _ p hp
    have hp' : p ∈ pathV (specV u.scheme) hv (aheadV [63] r).1 := hp
    unfold pathV at hp'
    split at hp'
    · simp at hp'
    · exact pathL_ok _ _ hok p hp'
  · intro e
    have e' : u.opq = true := e
    rw [ho] at e'; cases e'
  · intro e
    have e' : specV u.scheme = true := e
    refine ⟨hs e', ?_, ho⟩
    show pathV (specV u.scheme) hv (aheadV [63] r).1 ≠ []
    rw [e']
    unfold pathV
    rw [if_neg (by simp)]
    exact pathL_ne _ _ (cutL_ne _ _)

theorem parseV_ne {l a : List UInt8} (h : parseV l true = some a) : a ≠ [] := by
  intro e
  subst e
  unfold parseV at h
  split at h
  · unfold bracketV at h
    split at h
    · cases hs : sixV (Lib.trimSuffix (l.drop 1) [93]) with
      | none => rw [hs] at h; cases h
      | some x => rw [hs] at h; simp at h
    · cases h
  · simp only [if_true] at h
    unfold nameV at h
    split at h
    · cases h
    · rename_i hn
      split at h
      · cases hf : fourV (low (unpct l)) with
        | none => rw [hf] at h; cases h
        | some n =>
          rw [hf] at h
          simp only [Option.map_some, Option.some.injEq] at h
          unfold text4 at h
          simp at h
      · simp only [Option.some.injEq] at h
        exact hn (.inl h)

theorem port_own {own : Int} {t : List UInt8} {p : Int} (h : portV own t = some p) : p = -1 ∨ (0 ≤ p ∧ p ≤ 65535 ∧ p ≠ own) := by
  rcases portV_ok h with h1 | h1
  · exact .inl h1
  · unfold portV at h
    split at h
    · injection h with h; exact .inl h.symm
    · split at h
      · injection h with h
        split at h
        · exact .inl h.symm
        · rename_i hne
          exact .inr ⟨h1.1, h1.2, by rw [← h]; exact hne⟩
      · cases h

theorem auth_good {sc s a b h : List UInt8} {p : Int} (e : authV sc s = .ok (a, b, h, p)) : AllS a ∧ AllS b ∧ (∀ c ∈ h, hoC c = true) ∧ (p = -1 ∨ (0 ≤ p ∧ p ≤ 65535 ∧ p ≠ ownV sc)) ∧ (specV sc = true → h ≠ []) := by
  unfold authV at e
  split at e
  · cases e
  · rename_i po hpo
    split at e
    · cases e
    · rename_i hh hhe
      split at e
      · cases e
      · injection e with e
        injection e with e1 e
        injection e with e2 e
        injection e with e3 e4
        subst e1 e2 e3 e4
        refine ⟨pct_see 6 (.inr (.inr (.inr (.inr rfl)))) _, pct_see 6 (.inr (.inr (.inr (.inr rfl)))) _, host_ho hhe, port_own hpo, fun hsp => ?_⟩
        rw [hsp] at hhe
        exact parseV_ne hhe

theorem withAuth_good {u v : Adr} {r : List UInt8} (h : Pre3 u) (ho : u.opq = false) (e : withAuth u r = .ok v) : Good3 v := by
  unfold withAuth at e
  split at e
  · cases e
  · rename_i a b hh p hau
    injection e with e
    rw [← e]
    obtain ⟨h1, h2, h3, h4, h5⟩ := auth_good hau
    refine Good3.path (u := { u with user := a, pass := b, host := hh, hasHost := true, port := p }) ⟨h.scheme, h1, h2, h3, ?_, h.query, h.fragment, h.noQ, h.noF⟩ ho h5 [] (by simp) _
    rcases h4 with h4 | ⟨h4, h6, h7⟩
    · exact .inl h4
    · exact .inr ⟨h4, h6, h7, rfl⟩

theorem start_good {u v : Adr} {r : List UInt8} (h : Pre3 u) (ho : u.opq = false) (hh : u.hasHost = false) (e : startV u r = .ok v) : Good3 v := by
  unfold startV at e
  split at e
  · exact withAuth_good h ho e
  · rename_i hsp
    split at e
    · exact withAuth_good h ho e
    · split at e
      · injection e with e
        rw [← e]
        exact Good3.path h ho (fun e => absurd e hsp) [] (by simp) _
      · injection e with e
        rw [← e]
        refine Good3.query (u := { u with opq := true, path := [pct 1 (aheadV [63] r).1] }) ⟨⟨h.scheme, h.user, h.pass, h.host, h.port, h.query, h.fragment, h.noQ, h.noF⟩, ?_, ?_, ?_⟩ _
        · intro e; cases e
        · intro _
          exact ⟨hh, _, rfl⟩
        · intro e; exact absurd e hsp

theorem part_false (c : UInt8) : ∀ l : List UInt8, (part c l).2.2 = false → (part c l).2.1 = []
  | [] => fun _ => rfl
  | x :: l => by
    rw [part]
    split
    · intro h; cases h
    · exact part_false c l

theorem sch_see {l : List UInt8} (h : schOk l = true) : AllS (low l) := by
  intro c hc
  obtain ⟨d, hd, rfl⟩ := List.mem_map.1 (show c ∈ l.map lowC from hc)
  unfold schOk at h
  rw [Bool.and_eq_true] at h
  have h1 := List.all_eq_true.1 h.2 d hd
  have := u8_all (P := fun c => !schC c || seeC (lowC c)) (by decide +kernel) d
  simp only [Bool.or_eq_true, Bool.not_eq_true'] at this
  rcases this with h' | h'
  · rw [h1] at h'; cases h'
  · exact h'

theorem begin_good (s : List UInt8) : Pre3 (beginU s).1 ∧ (beginU s).1.opq = false ∧ (beginU s).1.hasHost = false := by
  unfold beginU
  refine ⟨⟨?_, allS_nil, allS_nil, fun c h => by simp at h, .inl rfl, allS_nil, pct_see 2 (.inl rfl) _, fun _ => rfl, fun e => ?_⟩, rfl, rfl⟩
  · show AllS ((schemeV (part 35 (cleanV s)).1).getD ([], (part 35 (cleanV s)).1)).1
    unfold schemeV
    split
    · rename_i hc
      rw [Bool.and_eq_true] at hc
      exact sch_see hc.2
    · exact allS_nil
  · have e' : (part 35 (cleanV s)).2.2 = false := e
    show pct 2 (part 35 (cleanV s)).2.1 = []
    rw [part_false 35 _ e']
    rfl

theorem read_good {s : List UInt8} {u : Adr} (e : readV s none = .ok u) : Good3 u := by
  obtain ⟨h1, h2, h3⟩ := begin_good s
  unfold readV at e
  split at e
  · cases e
  · simp only at e
    split at e
    · cases e
    · exact start_good h1 h2 h3 e

/-! ### The text -/

theorem portT_see (p : Int) : AllS (portT p) := by
  have key : ∀ (f n : Nat) (acc : List UInt8), AllS acc → AllS (deciN f n acc) := by
    intro f
    induction f with
    | zero => intro n acc h; exact h
    | succ f ih =>
      intro n acc h
      have hd : ∀ k < 10, seeC (UInt8.ofNat (48 + k)) = true := by decide +kernel
      rw [deciN]
      split
      · intro c hc
        rcases List.mem_cons.1 hc with rfl | hc
        · exact hd n (by omega)
        · exact h c hc
      · refine ih _ _ fun c hc => ?_
        rcases List.mem_cons.1 hc with rfl | hc
        · exact hd _ (Nat.mod_lt _ (by omega))
        · exact h c hc
  exact key 6 p.toNat [] allS_nil

theorem allS_app {a b : List UInt8} (ha : AllS a) (hb : AllS b) : AllS (a ++ b) := fun c hc => (List.mem_append.1 hc).elim (ha c) (hb c)

theorem allS_cons {c : UInt8} {b : List UInt8} (hc : seeC c = true) (hb : AllS b) : AllS (c :: b) := allS_app (a := [c]) (fun d hd => by obtain rfl := List.mem_singleton.1 hd; exact hc) hb

theorem authT_see {u : Adr} (h : Pre3 u) : AllS (authT u) := by
  unfold authT
  split
  · refine allS_app (allS_app (allS_app (allS_app (allS_app ?_ h.user) ?_) ?_) (fun c hc => hoC_see (h.host c hc))) ?_
    · intro c hc; revert c; decide
    · split
      · exact allS_nil
      · exact allS_cons (by decide) h.pass
    · split
      · exact allS_nil
      · intro c hc; revert c; decide
    · split
      · exact allS_nil
      · exact allS_cons (by decide) (portT_see _)
  · exact allS_nil

theorem flat_see {L : List (List UInt8)} (h : ∀ p ∈ L, PartOk p) : AllS (L.flatMap fun p => 47 :: p) := by
  intro c hc
  obtain ⟨p, hp, hc⟩ := List.mem_flatMap.1 hc
  rcases List.mem_cons.1 hc with rfl | hc
  · decide
  · exact (h p hp).1 c hc

theorem text_see {u : Adr} (h : Good3 u) : ∀ c ∈ textV u, seeB c = true ∧ (u.opq = false → seeC c = true) := by
  have hq : AllS (if u.hasQuery then 63 :: u.query else []) := by
    split
    · exact allS_cons (by decide) h.pre.query
    · exact allS_nil
  have hf : AllS (if u.hasFragment then 35 :: u.fragment else []) := by
    split
    · exact allS_cons (by decide) h.pre.fragment
    · exact allS_nil
  have both : ∀ l : List UInt8, AllS l → ∀ c ∈ l, seeB c = true ∧ (u.opq = false → seeC c = true) := fun l hl c hc => ⟨seeC_B (hl c hc), fun _ => hl c hc⟩
  have hp : ∀ c ∈ pathT u, seeB c = true ∧ (u.opq = false → seeC c = true) := by
    unfold pathT
    cases ho : u.opq with
    | true =>
      rw [if_pos rfl]
      obtain ⟨-, x, hx⟩ := h.opaque_ ho
      rw [hx]
      intro c hc
      simp at hc
      exact ⟨pct_seeB x c hc, fun e => by cases e⟩
    | false =>
      rw [if_neg (by simp)]
      intro c hc
      have hall : AllS ((if u.hasHost = false ∧ 1 < u.path.length ∧ u.path.head? = some [] then [47, 46] else []) ++ u.path.flatMap (fun p => 47 :: p)) := by
        refine allS_app ?_ (flat_see (h.parts ho))
        split
        · intro c hc; revert c; decide
        · exact allS_nil
      exact ⟨seeC_B (hall c hc), fun _ => hall c hc⟩
  intro c hc
  unfold textV bareV at hc
  rcases List.mem_append.1 hc with hc | hc
  · rcases List.mem_append.1 hc with hc | hc
    · exact both _ h.pre.scheme c hc
    · rcases List.mem_cons.1 hc with rfl | hc
      · exact ⟨by decide, fun _ => by decide⟩
      · rcases List.mem_append.1 hc with hc | hc
        · exact both _ (authT_see h.pre) c hc
        · rcases List.mem_append.1 hc with hc | hc
          · exact hp c hc
          · exact both _ hq c hc
  · exact both _ hf c hc

end Go.Proofs.YtdnginibhpnefaaGreatDoor

namespace Go.Proofs.YtdnginibhpnefaaGreatDoor
open Go.RowKit

def urlV (s : List UInt8) : Except Int Adr := readV (s.take 300) none

def isOk (r : Except Int Adr) : Bool := match r with | .ok _ => true | .error _ => false

def UPost (r : Except Int Adr) (w : World) (e : Ending) (w' : World) : Prop :=
  ∃ pv, e = .returned (.tuple #[adrVal (adrOf r) pv, .bool (isOk r)]) ∧ w'.ownsRow w.heap.size 9 1 pv (adrOf r).path.length (cellsS (adrOf r).path) ∧ Below w.heap.size w w'

theorem numOf_isOk {s : List UInt8} : decide (numOf (readV s none) = 0) = isOk (readV s none) := by
  cases h : readV s none with
  | ok u => rfl
  | error e =>
    have : e = 3 ∨ e = 10 ∨ e = 11 ∨ e = 12 := by
      unfold readV at h
      split at h
      · injection h with h; exact .inl h.symm
      · simp only at h
        split at h
        · injection h with h; exact .inr (.inr (.inr h.symm))
        · rcases startV_err h with h | h
          · exact .inr (.inl h)
          · exact .inr (.inr (.inl h))
    rcases this with rfl | rfl | rfl | rfl <;> rfl

set_option maxHeartbeats 1000000 in
set_option maxRecDepth 100000 in
theorem url_k (s : ByteArray) (w : World) (hs : s.size ≤ 9223372036854775807) :
    Calls Tryz.prog 26 #[.string s] w (UPost (urlV s.data.toList) w) := by
  have h0 : AdrIn (w.alloc (.cells (adrCells Adr.zero (.slice none 0 0)).toArray 24)) w.heap.size Adr.zero (.slice none 0 0) := heap_alloc_new w _
  have hb0 : Below w.heap.size w (w.alloc (.cells (adrCells Adr.zero (.slice none 0 0)).toArray 24)) := (Below.refl _ w).alloc (Nat.le_refl _) _
  have H0 := hid h0
  have HB0 := hid hb0
  clear h0 hb0
  obtain ⟨F, hF⟩ : ∃ F : ByteArray, ⟨(s.data.toList.take 300).toArray⟩ = F := ⟨_, rfl⟩
  have hFl : F.data.toList = s.data.toList.take 300 := by rw [← hF]
  have hFs : F.size ≤ 100000 := by rw [Lib.size_eq, hFl, List.length_take]; omega
  have HFw := hid (fun w => few_any s 300 w (by omega) hs)
  rw [hF] at HFw
  have HRd := hid (fun w => rparse3_any F w hFs)
  have HN := hid (numOf_isOk (s := F.data.toList))
  have HU := hid (show urlV s.data.toList = readV F.data.toList none by unfold urlV; rw [hFl])
  obtain ⟨r, hr⟩ : ∃ r, readV F.data.toList none = r := ⟨_, rfl⟩
  rw [hr] at HRd HN HU
  clear hF hFl hFs hr
  go_enter Tryz.func26, Tryz.ntmps26
  go_wp2_with fail
  refine (HFw.out _).mono ?_
  rintro e w' ⟨rfl, rfl⟩
  go_wp2_with fail
  refine (HRd.out _).mono ?_
  rintro e w1 ⟨pv, rfl, hown, hb1⟩
  have h1 := H0.out.kept hb1
  have HB1 := hid (below2 HB0.out hb1)
  have HO1 := hid (ownsRow_lower hown HB0.out.size)
  have hsl := own_sl hown
  obtain ⟨a0, n0, c0, rfl⟩ := hsl
  obtain ⟨s0, s1, s2, s3, b4, i5, b6, s8, s9, b10, b11, hx⟩ : ∃ s0 s1 s2 s3 b4 i5 b6 s8 s9 b10 b11, adrCells (adrOf r) (.slice a0 n0 c0) = [.string s0, .string s1, .string s2, .string s3, .bool b4, .int .i64 i5, .bool b6, .slice a0 n0 c0, .string s8, .string s9, .bool b10, .bool b11] := ⟨_, _, _, _, _, _, _, _, _, _, _, rfl⟩
  have hva : adrVal (adrOf r) (.slice a0 n0 c0) = .agg #[.string s0, .string s1, .string s2, .string s3, .bool b4, .int .i64 i5, .bool b6, .slice a0 n0 c0, .string s8, .string s9, .bool b10, .bool b11] := by unfold adrVal; rw [hx]
  have h4 : AdrIn (w1.alloc (.cells #[.string s0, .string s1, .string s2, .string s3, .bool b4, .int .i64 i5, .bool b6, .slice a0 n0 c0, .string s8, .string s9, .bool b10, .bool b11] 24)) w1.heap.size (adrOf r) (.slice a0 n0 c0) := by
    have := heap_alloc_new w1 (.cells #[.string s0, .string s1, .string s2, .string s3, .bool b4, .int .i64 i5, .bool b6, .slice a0 n0 c0, .string s8, .string s9, .bool b10, .bool b11] 24)
    unfold AdrIn
    rw [hx]
    exact this
  have hb4 : Below w1.heap.size w1 (w1.alloc (.cells #[.string s0, .string s1, .string s2, .string s3, .bool b4, .int .i64 i5, .bool b6, .slice a0 n0 c0, .string s8, .string s9, .bool b10, .bool b11] 24)) := (Below.refl _ w1).alloc (Nat.le_refl _) _
  have h6 := h1.kept hb4
  have HO4 := hid (ownsRow_same HO1.out fun g hg => hb4.block g (HO1.out.lt g hg).2)
  have HB4 := hid (below2 HB1.out hb4)
  have y0 := h6.cell 0 _ rfl
  have f0 := h6.frozen 0
  have y1 := h6.cell 1 _ rfl
  have f1 := h6.frozen 1
  have y2 := h6.cell 2 _ rfl
  have f2 := h6.frozen 2
  have y3 := h6.cell 3 _ rfl
  have f3 := h6.frozen 3
  have y4 := h6.cell 4 _ rfl
  have f4 := h6.frozen 4
  have y5 := h6.cell 5 _ rfl
  have f5 := h6.frozen 5
  have y6 := h6.cell 6 _ rfl
  have f6 := h6.frozen 6
  have y7 := h6.cell 7 _ rfl
  have f7 := h6.frozen 7
  have y8 := h6.cell 8 _ rfl
  have f8 := h6.frozen 8
  have y9 := h6.cell 9 _ rfl
  have f9 := h6.frozen 9
  have y10 := h6.cell 10 _ rfl
  have f10 := h6.frozen 10
  have y11 := h6.cell 11 _ rfl
  have f11 := h6.frozen 11
  have H6 := hid h6
  have HX := hid hx
  have HV := hid hva
  clear h4 hb4 h6 h1 hb1 hown hx
  rw [hva]
  clear hva
  go_wp2_with fail
  have hn : (numOf r == 0) = isOk r := HN.out
  rw [hn, HU.out]
  have hrg := range_row (H6.out.store (v := adrOf r) (qv := .slice a0 n0 c0))
  have hbl := below_setCells (Nat.le_refl w.heap.size) (adrCells (adrOf r) (.slice a0 n0 c0)) 0 _ HB4.out
  have how := own_cells HO4.out H6.out (adrCells (adrOf r) (.slice a0 n0 c0)) 0
  refine bodyPost_ret (results_u2 rfl _ _ w.heap.size (adrOf r) (.slice a0 n0 c0) rfl ?_) rfl ⟨.slice a0 n0 c0, ?_, ?_, ?_⟩
  · rw [HX.out] at hrg ⊢; exact hrg
  · rfl
  · rw [HX.out] at how; exact how
  · rw [HX.out] at hbl; exact hbl

end Go.Proofs.YtdnginibhpnefaaGreatDoor
