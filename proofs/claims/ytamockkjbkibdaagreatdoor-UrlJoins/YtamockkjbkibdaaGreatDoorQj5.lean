/-
  Walks and plain facts that this claim leans on, put together out of 8 texts: Eri, Erw, Xc, Xe, Xg, Erx, Ery, Ern1.
-/
import Derived.Test.YtamockkjbkibdaaGreatDoorProg
import Derived.Test.YtamockkjbkibdaaGreatDoorQa1
import Derived.Test.YtamockkjbkibdaaGreatDoorQa2
import Derived.Test.YtamockkjbkibdaaGreatDoorQa3
import Derived.Test.YtamockkjbkibdaaGreatDoorQa4
import Derived.Test.YtamockkjbkibdaaGreatDoorQa5
import Derived.Test.YtamockkjbkibdaaGreatDoorQa6
import Derived.Test.YtamockkjbkibdaaGreatDoorQa7
import Derived.Test.YtamockkjbkibdaaGreatDoorQa8
import Derived.Test.YtamockkjbkibdaaGreatDoorQa9
import Derived.Test.YtamockkjbkibdaaGreatDoorQa10
import Derived.Test.YtamockkjbkibdaaGreatDoorQa11
import Derived.Test.YtamockkjbkibdaaGreatDoorQa12
import Derived.Test.YtamockkjbkibdaaGreatDoorQa13
import Derived.Test.YtamockkjbkibdaaGreatDoorQa14
import Derived.Test.YtamockkjbkibdaaGreatDoorQa15
import Derived.Test.YtamockkjbkibdaaGreatDoorQa16
import Derived.Test.YtamockkjbkibdaaGreatDoorQa17
import Derived.Test.YtamockkjbkibdaaGreatDoorQa18
import Derived.Test.YtamockkjbkibdaaGreatDoorQa19
import Derived.Test.YtamockkjbkibdaaGreatDoorQa20
import Derived.Test.YtamockkjbkibdaaGreatDoorQa21
import Derived.Test.YtamockkjbkibdaaGreatDoorQa22
import Derived.Test.YtamockkjbkibdaaGreatDoorQa23
import Derived.Test.YtamockkjbkibdaaGreatDoorQa24
import Derived.Test.YtamockkjbkibdaaGreatDoorQa25
import Derived.Test.YtamockkjbkibdaaGreatDoorQa26
import Derived.Test.YtamockkjbkibdaaGreatDoorQa27
import Derived.Test.YtamockkjbkibdaaGreatDoorQa28
import Derived.Test.YtamockkjbkibdaaGreatDoorQj3
import Derived.Test.YtamockkjbkibdaaGreatDoorQj4
import Derived.Lib.IndexMore
import Derived.Lib.Join
import Derived.Lib.LastIndexByte
import Derived.WalkKit
import Derived.Lib.Strings
import Derived.Lib.UnsafeStr
import Derived.Laws.IdiomStrings
import Derived.Laws.AppendOwn
import Derived.Laws.BitsAllLaws
import Derived.Lib.Bytealg
import Derived.Lib.BufferMore
import Derived.LoopN
import Derived.RegionTactic
import Derived.Deep.RegionWith
import Derived.Deep.QuietTactic
import Derived.BigQuiet
import Derived.Laws.OwnMore
import Derived.Shelf.Strings.Builder1
import Derived.Shelf.Strings.Builder2
import Derived.Shelf.Strings.OnBuilder
import Derived.Shelf.Strings.Trim
import Derived.Shelf.Small.Utf8
import Derived.Shelf.Small.Strs
import Derived.Shelf.Small.Wraps
import Derived.Shelf.Strings.BuilderF
import Derived.Shelf.Strings.BuilderK
import Derived.Shelf.Strings.BuilderRune
import Derived.Shelf.Utf8.AppendRune
import Derived.Shelf.Utf8.AppendRunePlain
import Derived.Shelf.Strings.Builder2Cap
import Derived.Shelf.Strconv.Itoa0
import Derived.Shelf.Strconv.Itoa1
import Derived.Shelf.LaysM
import Derived.Shelf.Strconv.Itoa2
import Derived.Shelf.Strconv.Itoa3
import Derived.Shelf.Strings.Search1
import Derived.Shelf.Strings.Search2
import Derived.Shelf.Strings.Search3
import Derived.Shelf.Strings.Cut
import Derived.Shelf.Strings.Count
import Derived.Shelf.Strings.Shaped
import Derived.Shelf.Strings.LastIndex
import Derived.Shelf.Strings.Prefix
import Derived.Shelf.Strings.Split
import Derived.Shelf.Strings.Replace
import Derived.Shelf.Strings.Runes
import Derived.Shelf.Strings.IndexAny
import Derived.Shelf.Strings.AsciiSet
import Derived.Shelf.Strings.IndexAnyAll
import Derived.Shelf.Unicode.DecodeSlow
import Derived.Ground.Names2Prog
import Derived.Shelf.Slices.Clone
import Derived.Ground.SlgnProg
import Derived.Shelf.SlicesE.Clone
import Derived.Scope
import Derived.ScopeJumps
import Derived.WalkMore
import Derived.Lib.IndexAny
import Derived.Lib.Replace
import Derived.Lib.TrimByte
import Derived.Lib.ItoaNum
import Derived.Laws.RangeAny
import Derived.Lib.DecodeN
import Derived.Lib.OthersKept
import Derived.Deep.LoopGhost
import Derived.Laws.BytesString
import Derived.Deep.WholeRow
import Derived.BigRegion
import Derived.Lib.AppendStr
import Derived.Deep.RegionHeld
import Derived.WalkSpells
import Derived.WalkLawsBesides
import Derived.Lib.AppendIntMem
import Derived.Lib.SmallJoins
import Derived.WalkSmall
import Derived.OwnWalk
import Derived.Laws.CopyOwn
import Derived.Laws.ResultCell
import Derived.Deep.MidRow
import Derived.Lib.FrozenHead2
import Derived.Lib.Builder
import Derived.Deep.RegionLaw
import Derived.Lib.SlTrimSet
import Derived.Deep.Cut
import Derived.Deep.CutRange
import Derived.Lib.BufferRead
import Derived.Lib.RuneBytes
import Derived.Laws.AppendOwnNone
import Derived.Below
set_option linter.unusedSimpArgs false
set_option linter.unusedVariables false

namespace Go.Proofs.YtamockkjbkibdaaGreatDoor
def AllS (l : List UInt8) : Prop := ∀ c ∈ l, seeC c = true

theorem allS_nil : AllS [] := fun c h => by simp at h

structure Pre3 (u : Adr) : Prop where
 scheme : AllS u.scheme
 user : AllS u.user
 pass : AllS u.pass
 host : ∀ c ∈ u.host, hoC c = true
 port : u.port = -1 ∨ (0 ≤ u.port ∧ u.port ≤ 65535 ∧ u.port ≠ ownV u.scheme ∧ u.hasHost = true)
 query : AllS u.query
 fragment : AllS u.fragment
 noQ : u.hasQuery = false → u.query = []
 noF : u.hasFragment = false → u.fragment = []

structure Good3 (u : Adr) : Prop where
 pre : Pre3 u
 parts : u.opq = false → ∀ p ∈ u.path, PartOk p
 opaque_ : u.opq = true → u.hasHost = false ∧ ∃ x, u.path = [pct 1 x]
 special : specV u.scheme = true → u.host ≠ [] ∧ u.path ≠ [] ∧ u.opq = false

theorem withQuery_cases (u : Adr) (q : List UInt8) : withQuery u q = u ∨ withQuery u q = { u with query := querV (specV u.scheme) (q.drop 1), hasQuery := true } := by
 unfold withQuery
 split
 ·exact .inl rfl
 ·exact .inr rfl

theorem querV_see (sp : Bool) (q : List UInt8) : AllS (querV sp q) := by
 unfold querV
 cases sp with
 | true => exact pct_see 4 (.inr (.inr (.inl rfl))) q
 | false => exact pct_see 3 (.inr (.inl rfl)) q

theorem Good3.query {u : Adr} (h : Good3 u) (q : List UInt8) : Good3 (withQuery u q) := by
 rcases withQuery_cases u q with e | e
 ·rw [e]; exact h
 ·rw [e]
  exact ⟨⟨h.pre.scheme, h.pre.user, h.pre.pass, h.pre.host, h.pre.port, querV_see _ _, h.pre.fragment, (fun e => by cases e), h.pre.noF⟩, h.parts, h.opaque_, h.special⟩

theorem Good3.path {u : Adr} (h : Pre3 u) (ho : u.opq = false) (hs : specV u.scheme = true → u.host ≠ []) (hv : List (List UInt8)) (hok : ∀ q ∈ hv, PartOk q) (r : List UInt8) : Good3 (withPath u hv r) := by
 unfold withPath
 refine Good3.query (u := { u with path := pathV (specV u.scheme) hv (aheadV [63] r).1 }) ⟨⟨h.scheme, h.user, h.pass, h.host, h.port, h.query, h.fragment, h.noQ, h.noF⟩, ?_, ?_, ?_⟩ _
 ·intro _ p hp
  have hp' : p ∈ pathV (specV u.scheme) hv (aheadV [63] r).1 := hp
  unfold pathV at hp'
  split at hp'
  ·simp at hp'
  ·exact pathL_ok _ _ hok p hp'
 ·intro e
  have e' : u.opq = true := e
  rw [ho] at e'; cases e'
 ·intro e
  have e' : specV u.scheme = true := e
  refine ⟨hs e', ?_, ho⟩
  show pathV (specV u.scheme) hv (aheadV [63] r).1 ≠ []
  rw [e']
  unfold pathV
  rw [if_neg (by simp)]
  exact pathL_ne _ _ (cutL_ne _ _)

theorem parseV_ne {l a : List UInt8} (h : parseV l true = some a) : a ≠ [] := by
 intro e
 subst e
 unfold parseV at h
 split at h
 ·unfold bracketV at h
  split at h
  ·cases hs : sixV (Lib.trimSuffix (l.drop 1) [93]) with
   | none => rw [hs] at h; cases h
   | some x => rw [hs] at h; simp at h
  ·cases h
 ·simp only [if_true] at h
  unfold nameV at h
  split at h
  ·cases h
  ·rename_i hn
   split at h
   ·cases hf : fourV (low (unpct l)) with
    | none => rw [hf] at h; cases h
    | some n =>
     rw [hf] at h
     simp only [Option.map_some, Option.some.injEq] at h
     unfold text4 at h
     simp at h
   ·simp only [Option.some.injEq] at h
    exact hn (.inl h)

theorem port_own {own : Int} {t : List UInt8} {p : Int} (h : portV own t = some p) : p = -1 ∨ (0 ≤ p ∧ p ≤ 65535 ∧ p ≠ own) := by
 rcases portV_ok h with h1 | h1
 ·exact .inl h1
 ·unfold portV at h
  split at h
  ·injection h with h; exact .inl h.symm
  ·split at h
   ·injection h with h
    split at h
    ·exact .inl h.symm
    ·rename_i hne
     exact .inr ⟨h1.1, h1.2, by rw [← h]; exact hne⟩
   ·cases h

theorem auth_good {sc s a b h : List UInt8} {p : Int} (e : authV sc s = .ok (a, b, h, p)) : AllS a ∧ AllS b ∧ (∀ c ∈ h, hoC c = true) ∧ (p = -1 ∨ (0 ≤ p ∧ p ≤ 65535 ∧ p ≠ ownV sc)) ∧ (specV sc = true → h ≠ []) := by
 unfold authV at e
 split at e
 ·cases e
 ·rename_i po hpo
  split at e
  ·cases e
  ·rename_i hh hhe
   split at e
   ·cases e
   ·injection e with e
    injection e with e1 e
    injection e with e2 e
    injection e with e3 e4
    subst e1 e2 e3 e4
    refine ⟨pct_see 6 (.inr (.inr (.inr (.inr rfl)))) _, pct_see 6 (.inr (.inr (.inr (.inr rfl)))) _, host_ho hhe, port_own hpo, fun hsp => ?_⟩
    rw [hsp] at hhe
    exact parseV_ne hhe

theorem withAuth_good {u v : Adr} {r : List UInt8} (h : Pre3 u) (ho : u.opq = false) (e : withAuth u r = .ok v) : Good3 v := by
 unfold withAuth at e
 split at e
 ·cases e
 ·rename_i a b hh p hau
  injection e with e
  rw [← e]
  obtain ⟨h1, h2, h3, h4, h5⟩ := auth_good hau
  refine Good3.path (u := { u with user := a, pass := b, host := hh, hasHost := true, port := p }) ⟨h.scheme, h1, h2, h3, ?_, h.query, h.fragment, h.noQ, h.noF⟩ ho h5 [] (by simp) _
  rcases h4 with h4 | ⟨h4, h6, h7⟩
  ·exact .inl h4
  ·exact .inr ⟨h4, h6, h7, rfl⟩

theorem start_good {u v : Adr} {r : List UInt8} (h : Pre3 u) (ho : u.opq = false) (hh : u.hasHost = false) (e : startV u r = .ok v) : Good3 v := by
 unfold startV at e
 split at e
 ·exact withAuth_good h ho e
 ·rename_i hsp
  split at e
  ·exact withAuth_good h ho e
  ·split at e
   ·injection e with e
    rw [← e]
    exact Good3.path h ho (fun e => absurd e hsp) [] (by simp) _
   ·injection e with e
    rw [← e]
    refine Good3.query (u := { u with opq := true, path := [pct 1 (aheadV [63] r).1] }) ⟨⟨h.scheme, h.user, h.pass, h.host, h.port, h.query, h.fragment, h.noQ, h.noF⟩, ?_, ?_, ?_⟩ _
    ·intro e; cases e
    ·intro _
     exact ⟨hh, _, rfl⟩
    ·intro e; exact absurd e hsp

theorem part_false (c : UInt8) : ∀ l : List UInt8, (part c l).2.2 = false → (part c l).2.1 = []
 | [] => fun _ => rfl
 | x :: l => by
  rw [part]
  split
  ·intro h; cases h
  ·exact part_false c l

theorem sch_see {l : List UInt8} (h : schOk l = true) : AllS (low l) := by
 intro c hc
 obtain ⟨d, hd, rfl⟩ := List.mem_map.1 (show c ∈ l.map lowC from hc)
 unfold schOk at h
 rw [Bool.and_eq_true] at h
 have h1 := List.all_eq_true.1 h.2 d hd
 have := u8_all (P := fun c => !schC c || seeC (lowC c)) (by decide +kernel) d
 simp only [Bool.or_eq_true, Bool.not_eq_true'] at this
 rcases this with h' | h'
 ·rw [h1] at h'; cases h'
 ·exact h'

theorem begin_good (s : List UInt8) : Pre3 (beginU s).1 ∧ (beginU s).1.opq = false ∧ (beginU s).1.hasHost = false := by
 unfold beginU
 refine ⟨⟨?_, allS_nil, allS_nil, fun c h => by simp at h, .inl rfl, allS_nil, pct_see 2 (.inl rfl) _, fun _ => rfl, fun e => ?_⟩, rfl, rfl⟩
 ·show AllS ((schemeV (part 35 (cleanV s)).1).getD ([], (part 35 (cleanV s)).1)).1
  unfold schemeV
  split
  ·rename_i hc
   rw [Bool.and_eq_true] at hc
   exact sch_see hc.2
  ·exact allS_nil
 ·have e' : (part 35 (cleanV s)).2.2 = false := e
  show pct 2 (part 35 (cleanV s)).2.1 = []
  rw [part_false 35 _ e']
  rfl

theorem read_good {s : List UInt8} {u : Adr} (e : readV s none = .ok u) : Good3 u := by
 obtain ⟨h1, h2, h3⟩ := begin_good s
 unfold readV at e
 split at e
 ·cases e
 ·simp only at e
  split at e
  ·cases e
  ·exact start_good h1 h2 h3 e



end Go.Proofs.YtamockkjbkibdaaGreatDoor

namespace Go.Proofs.YtamockkjbkibdaaGreatDoor
open Go.RowKit

theorem path_cell {w : World} {a : Option Addr} {n c : Nat} {L : List (List UInt8)} (h : PathAt w (.slice a n c) L) (k : Nat) (hk : k < L.length) : ∃ b, a = some ⟨b, 0, none⟩ ∧ w.cell? ⟨b, k, none⟩ = some (.string ⟨L[k].toArray⟩) ∧ n = L.length ∧ n ≤ c ∧ c ≤ maxLen := by
 rcases h with ⟨_, rfl⟩ | ⟨b, cap, hv, h2, h3, h4, h5⟩
 ·simp at hk
 ·injection hv with e1 e2 e3
  subst e1 e2 e3
  exact ⟨b, rfl, h5 k hk, rfl, h3, h4⟩

theorem path_len {w : World} {a : Option Addr} {n c : Nat} {L : List (List UInt8)} (h : PathAt w (.slice a n c) L) : n = L.length := by
 rcases h with ⟨hv, rfl⟩ | ⟨b, cap, hv, h2, h3, h4, h5⟩
 ·injection hv
 ·injection hv

end Go.Proofs.YtamockkjbkibdaaGreatDoor

namespace Go.Proofs.YtamockkjbkibdaaGreatDoor
open Go.RowKit

def TxL (w : World) (b off : Nat) (L : List (List UInt8)) : Prop := ∀ j (h : j < L.length), w.cell? ⟨b, off + j, none⟩ = some (.string ⟨L[j].toArray⟩)

def TxAt (w : World) (v : Value) (L : List (List UInt8)) : Prop :=
 ∃ a cap, v = .slice a L.length cap ∧ L.length ≤ cap ∧ cap ≤ maxLen ∧ ∀ j (hj : j < L.length), ∃ b off, a = some ⟨b, off, none⟩ ∧ w.cell? ⟨b, off + j, none⟩ = some (.string ⟨L[j].toArray⟩)

theorem TxAt.view {w : World} {v : Value} {L : List (List UInt8)} (h : TxAt w v L) : ∃ a cap, v = .slice a L.length cap ∧ L.length ≤ cap ∧ cap ≤ maxLen ∧ ∀ j (hj : j < L.length), ∃ b off, a = some ⟨b, off, none⟩ ∧ w.cell? ⟨b, off + j, none⟩ = some (.string ⟨L[j].toArray⟩) := h

theorem tx_nil (w : World) : TxAt w (.slice none 0 0) [] := ⟨none, 0, rfl, Nat.le_refl _, by decide, fun j hj => by simp at hj⟩

def HdS (w : World) (b off : Nat) (L : List Hd) : Prop :=
 ∀ j (h : j < L.length), w.cell? ⟨b, off + j * 2, none⟩ = some (.string ⟨L[j].name.toArray⟩) ∧ w.cell? ⟨b, off + j * 2 + 1, none⟩ = some (.string ⟨L[j].value.toArray⟩)

def HdAt (w : World) (v : Value) (L : List Hd) : Prop :=
 ∃ a cap, v = .slice a L.length cap ∧ L.length ≤ cap ∧ cap ≤ maxLen ∧ ∀ j (hj : j < L.length), ∃ b off, a = some ⟨b, off, none⟩ ∧ w.cell? ⟨b, off + j * 2, none⟩ = some (.string ⟨L[j].name.toArray⟩) ∧ w.cell? ⟨b, off + j * 2 + 1, none⟩ = some (.string ⟨L[j].value.toArray⟩)

theorem HdAt.view {w : World} {v : Value} {L : List Hd} (h : HdAt w v L) : ∃ a cap, v = .slice a L.length cap ∧ L.length ≤ cap ∧ cap ≤ maxLen ∧ ∀ j (hj : j < L.length), ∃ b off, a = some ⟨b, off, none⟩ ∧ w.cell? ⟨b, off + j * 2, none⟩ = some (.string ⟨L[j].name.toArray⟩) ∧ w.cell? ⟨b, off + j * 2 + 1, none⟩ = some (.string ⟨L[j].value.toArray⟩) := h

theorem HdS.kept {w w' : World} {b off : Nat} {L : List Hd} (h : HdS w b off L) (hb : Below w.heap.size w w') : HdS w' b off L := fun j hj => by
 have h1 := h j hj
 exact ⟨(hb.cell (World.block_lt_of_cell? w _ h1.1)).trans h1.1, (hb.cell (World.block_lt_of_cell? w _ h1.2)).trans h1.2⟩

theorem TxL.kept {w w' : World} {b off : Nat} {L : List (List UInt8)} (h : TxL w b off L) (hb : Below w.heap.size w w') : TxL w' b off L := fun j hj => by
 have h1 := h j hj
 exact (hb.cell (World.block_lt_of_cell? w _ h1)).trans h1

theorem HdAt.kept {w w' : World} {v : Value} {L : List Hd} (h : HdAt w v L) (hb : Below w.heap.size w w') : HdAt w' v L := by
 obtain ⟨a, cap, h1, h2, h3, h4⟩ := h
 refine ⟨a, cap, h1, h2, h3, fun j hj => ?_⟩
 obtain ⟨b, off, e, c1, c2⟩ := h4 j hj
 exact ⟨b, off, e, (hb.cell (World.block_lt_of_cell? w _ c1)).trans c1, (hb.cell (World.block_lt_of_cell? w _ c2)).trans c2⟩

theorem TxAt.kept {w w' : World} {v : Value} {L : List (List UInt8)} (h : TxAt w v L) (hb : Below w.heap.size w w') : TxAt w' v L := by
 obtain ⟨a, cap, h1, h2, h3, h4⟩ := h
 refine ⟨a, cap, h1, h2, h3, fun j hj => ?_⟩
 obtain ⟨b, off, e, c1⟩ := h4 j hj
 exact ⟨b, off, e, (hb.cell (World.block_lt_of_cell? w _ c1)).trans c1⟩

theorem xba {a b : ByteArray} (h : a.data.toList = b.data.toList) : a = b := by
 cases a; cases b; simp at h; simp [h]

end Go.Proofs.YtamockkjbkibdaaGreatDoor

namespace Go.Proofs.YtamockkjbkibdaaGreatDoor
open Go.RowKit

theorem xext {a : ByteArray} {l : List UInt8} (h : a.data.toList = l) : a = ⟨l.toArray⟩ := xba h

end Go.Proofs.YtamockkjbkibdaaGreatDoor

namespace Go.Proofs.YtamockkjbkibdaaGreatDoor
open Go.RowKit

theorem xtens_app (d : Nat) (h : d < 10) (T : List UInt8) : (⟨#[48, 49, 50, 51, 52, 53, 54, 55, 56, 57]⟩ : ByteArray).extract d (d + 1) ++ ⟨T.toArray⟩ = ⟨(decC d :: T).toArray⟩ := by
 refine xext ?_
 rw [ByteArray.data_append, Array.toList_append]
 have : ((⟨#[48, 49, 50, 51, 52, 53, 54, 55, 56, 57]⟩ : ByteArray).extract d (d + 1)).data.toList = [decC d] := by
  rcases (show d = 0 ∨ d = 1 ∨ d = 2 ∨ d = 3 ∨ d = 4 ∨ d = 5 ∨ d = 6 ∨ d = 7 ∨ d = 8 ∨ d = 9 from by omega) with
   rfl | rfl | rfl | rfl | rfl | rfl | rfl | rfl | rfl | rfl <;> (rw [Lib.extract_data]; rfl)
 rw [this]; rfl

end Go.Proofs.YtamockkjbkibdaaGreatDoor

namespace Go.Proofs.YtamockkjbkibdaaGreatDoor
open Go.RowKit

def NumI (R : List UInt8) (u : Nat) (T : List UInt8) : Prop := (u = 0 ∧ T ≠ [] ∧ T = R) ∨ ((0 < u ∨ T = []) ∧ ∃ f, u < 10 ^ f ∧ 0 < f ∧ deciN f u T = R)

theorem numI_step {R : List UInt8} {u : Nat} {T : List UInt8} (h : NumI R u T) (hp : 0 < u ∨ T = []) : NumI R (u / 10) (decC (u % 10) :: T) := by
 rcases h with ⟨h1, h2, _⟩ | ⟨_, f, hf, hf0, hR⟩
 ·rcases hp with hp | hp
  ·omega
  ·exact absurd hp h2
 ·obtain ⟨g, rfl⟩ : ∃ g, f = g + 1 := ⟨f - 1, by omega⟩
  rw [deciN] at hR
  by_cases hu : u < 10
  ·rw [if_pos hu] at hR
   refine .inl ⟨by omega, by simp, ?_⟩
   rw [← hR, show u % 10 = u by omega]
   rfl
  ·rw [if_neg hu] at hR
   refine .inr ⟨.inl (by omega), g, ?_, ?_, hR⟩
   ·rw [Nat.pow_succ] at hf; omega
   ·rcases Nat.eq_zero_or_pos g with rfl | h
    ·simp at hf; omega
    ·exact h

theorem numI_done {R : List UInt8} {u : Nat} {T : List UInt8} (h : NumI R u T) (hp : ¬ (0 < u ∨ T = [])) : T = R := by
 rcases h with ⟨_, _, h⟩ | ⟨h, _⟩
 ·exact h
 ·exact absurd h hp

theorem numI_start (n : Nat) (hn : n ≤ 65535) : NumI (portT n) n [] := .inr ⟨.inr rfl, 6, by omega, by omega, rfl⟩

theorem numI_len {R : List UInt8} {u : Nat} {T : List UInt8} (h : NumI R u T) : T.length ≤ R.length := by
 have key : ∀ f u T, T.length ≤ (deciN f u T).length := by
  intro f
  induction f with
  | zero => intro u T; exact Nat.le_refl _
  | succ f ih =>
   intro u T
   rw [deciN]
   split
   ·simp
   ·have := ih (u / 10) (UInt8.ofNat (48 + u % 10) :: T)
    rw [List.length_cons] at this
    omega
 rcases h with ⟨_, _, h⟩ | ⟨_, f, _, _, h⟩
 ·rw [h]; exact Nat.le_refl _
 ·rw [← h]; exact key _ _ _

theorem portT_len (p : Int) : (portT p).length ≤ 6 := by
 have key : ∀ f u T, (deciN f u T).length ≤ f + T.length := by
  intro f
  induction f with
  | zero => intro u T; simp [deciN]
  | succ f ih =>
   intro u T
   rw [deciN]
   split
   ·simp; omega
   ·have := ih (u / 10) (UInt8.ofNat (48 + u % 10) :: T)
    rw [List.length_cons] at this
    omega
 exact key 6 p.toNat []

set_option maxHeartbeats 2000000 in
theorem numeral3_any (n : Nat) (w : World) (hn : n ≤ 65535) :
  Calls Tryz.prog 79 #[.int .i64 n] w fun e w' => e = .returned (.string ⟨(portT n).toArray⟩) ∧ w = w' := by
 have H0 := hid (numI_start n hn)
 have hpl := portT_len n
 obtain ⟨R, hR⟩ : ∃ R, portT n = R := ⟨_, rfl⟩
 rw [hR] at H0 hpl
 rw [hR]
 clear hR
 go_enter Tryz.func79, Tryz.ntmps79
 go_wp2
 go_loopg [0, 3, 4] 20 (fun f nv sv _ wr => ∃ (u : Nat) (T : List UInt8) (q : Nat), nv = .int .i64 u ∧ sv = .string ⟨T.toArray⟩ ∧ u ≤ 65535 ∧ Hid (NumI R u T) ∧ T.length + q = 20 ∧ q = f ∧ wr = w)
 case atStart => exact ⟨n, [], 20, rfl, rfl, hn, H0, rfl, rfl, rfl⟩
 case round =>
  obtain ⟨u, T, q, rfl, rfl, hu, HI, hTf, hqf, rfl⟩ := hrel
  have hTl : T.length ≤ 6 := by have := numI_len HI.out; omega
  have hm : u % 10 < 10 := by omega
  by_cases hp : 0 < u ∨ T = []
  ·have HN := hid (numI_step HI.out hp)
   have HX := hid (xtens_app (u % 10) hm T)
   have hul : u / 10 ≤ 65535 := by omega
   obtain ⟨g, hgq⟩ : ∃ g, q = g + 1 := ⟨q - 1, by omega⟩
   have hTg : (decC (u % 10) :: T).length + g = 20 := by rw [List.length_cons]; omega
   have HTg := hid hTg
   have hgf := hid (hgq.symm.trans hqf)
   clear hTg hTf hgq hqf
   by_cases h0 : 0 < u
   ·have h0' : (0 : Int) < (u : Int) := by omega
    clear hp
    go_wp2
    go_roundg g
    case measure => have := hgf.out; omega
    case rel => exact ⟨_, _, g, by go_num, by rw [HX.out], hul, HN, HTg.out, rfl, rfl⟩
   ·have hT0 : T = [] := hp.resolve_left h0
    have hu0 : u = 0 := by omega
    subst hT0
    subst hu0
    clear hp h0
    go_wp2
    go_roundg g
    case measure => have := hgf.out; omega
    case rel => exact ⟨_, _, g, by go_num, by rw [HX.out], hul, HN, HTg.out, rfl, rfl⟩
  ·have hu0 : u = 0 := by omega
   have hT : T ≠ [] := fun h => hp (.inr h)
   have HD := hid (numI_done HI.out hp)
   have he : T.isEmpty = false := by simpa using hT
   subst hu0
   clear hp hT
   go_wp2
   go_ret
   exact ⟨by rw [HD.out]; rfl, rfl⟩

def aheadT (u : Adr) : List UInt8 := u.scheme ++ 58 :: (authT u ++ (if u.hasHost = false ∧ u.opq = false ∧ 1 < u.path.length ∧ u.path.head? = some [] then [47, 46] else []))

def partsT (opq : Bool) (L : List (List UInt8)) : List UInt8 := L.flatMap (fun p => (if opq then [] else [47]) ++ p)

theorem partsT_snoc (opq : Bool) (L : List (List UInt8)) (p : List UInt8) : partsT opq (L ++ [p]) = partsT opq L ++ ((if opq then [] else [47]) ++ p) := by
 unfold partsT; rw [List.flatMap_append]; simp

theorem partsT_take (opq : Bool) (L : List (List UInt8)) (k : Nat) (hk : k < L.length) : partsT opq (L.take (k + 1)) = partsT opq (L.take k) ++ ((if opq then [] else [47]) ++ L[k]) := by
 rw [List.take_add_one, List.getElem?_eq_getElem hk, Option.toList_some, partsT_snoc]

theorem bare_parts (u : Adr) : bareV u = aheadT u ++ partsT u.opq u.path ++ (if u.hasQuery then 63 :: u.query else []) := by
 have hf : ∀ L : List (List UInt8), L.flatMap (fun p => p) = L.flatten := fun L => by induction L with | nil => rfl | cons p L ih => simp
 have key : ∀ c : Bool, u.opq = c → authT u ++ (pathT u ++ (if u.hasQuery then 63 :: u.query else [])) = authT u ++ ((if u.hasHost = false ∧ u.opq = false ∧ 1 < u.path.length ∧ u.path.head? = some [] then [47, 46] else []) ++ (partsT u.opq u.path ++ (if u.hasQuery then 63 :: u.query else []))) := by
  intro c hc
  unfold pathT partsT
  cases c with
  | true => rw [hc]; simp [hf]
  | false => rw [hc]; simp
 unfold bareV aheadT
 rw [key _ rfl]
 simp [List.append_assoc]

end Go.Proofs.YtamockkjbkibdaaGreatDoor

namespace Go.Proofs.YtamockkjbkibdaaGreatDoor
open Go.RowKit

theorem ba_ext3 {a b : ByteArray} (h : a.data.toList = b.data.toList) : a = b := by
 apply ByteArray.ext
 exact Array.toList_inj.1 h

theorem adr_named4 (A : Adr) (a : Option Addr) (n c : Nat) : ∃ s0 s1 s2 s3 b4 i5 b6 s8 s9 b10 b11, adrCells A (.slice a n c) = [.string s0, .string s1, .string s2, .string s3, .bool b4, .int .i64 i5, .bool b6, .slice a n c, .string s8, .string s9, .bool b10, .bool b11] ∧ s0.data.toList = A.scheme ∧ s1.data.toList = A.user ∧ s2.data.toList = A.pass ∧ s3.data.toList = A.host ∧ b4 = A.hasHost ∧ i5 = A.port ∧ b6 = A.opq ∧ s8.data.toList = A.query ∧ s9.data.toList = A.fragment ∧ b10 = A.hasQuery ∧ b11 = A.hasFragment := ⟨_, _, _, _, _, _, _, _, _, _, _, rfl, rfl, rfl, rfl, rfl, rfl, rfl, rfl, rfl, rfl, rfl, rfl⟩

theorem parts_le (opq : Bool) (L : List (List UInt8)) (k : Nat) : (partsT opq (L.take k)).length ≤ (partsT opq L).length := by
 have : partsT opq L = partsT opq (L.take k) ++ partsT opq (L.drop k) := by
  unfold partsT; rw [← List.flatMap_append, List.take_append_drop]
 rw [this, List.length_append]; omega

theorem ahead_le3 (u : Adr) (k : Nat) (hf : Fine u) : (aheadT u ++ partsT u.opq (u.path.take k)).length ≤ 8000000 := by
 have h1 := bareV_le u hf
 rw [bare_parts, List.length_append, List.length_append] at h1
 have h2 := parts_le u.opq u.path k
 rw [List.length_append]; omega

set_option maxHeartbeats 8000000 in
set_option maxRecDepth 100000 in
theorem rbare3_any (u : Adr) (pv : Value) (w : World) (hp : PathAt w pv u.path) (hf : Fine u) :
  Calls Tryz.prog 49 #[adrVal u pv] w fun e w' => e = .returned (.string ⟨(bareV u).toArray⟩) ∧ Below w.heap.size w w' := by
 obtain ⟨da, dn, dc, rfl⟩ := path_sl hp
 obtain ⟨d0, d1, d2, d3, d4, d5, d6, d8, d9, d10, d11, hxd, e0, e1, e2, e3, e4, e5, e6, e8, e9, e10, e11⟩ := adr_named4 u da dn dc
 have hvd : adrVal u (.slice da dn dc) = .agg #[.string d0, .string d1, .string d2, .string d3, .bool d4, .int .i64 d5, .bool d6, .slice da dn dc, .string d8, .string d9, .bool d10, .bool d11] := by unfold adrVal; rw [hxd]
 rw [hvd]
 obtain ⟨W1, hW1⟩ : ∃ X, (w.alloc (.cells #[.string d0, .string d1, .string d2, .string d3, .bool d4, .int .i64 d5, .bool d6, .slice da dn dc, .string d8, .string d9, .bool d10, .bool d11] 24)) = X := ⟨_, rfl⟩
 have hbW1 : Below w.heap.size w W1 := by rw [← hW1]; exact (Below.refl _ w).alloc (Nat.le_refl _) _
 have hsW1 : W1.heap.size = w.heap.size + 1 := by rw [← hW1]; simp
 have hAW1 : AdrIn W1 w.heap.size u (.slice da dn dc) := by
  unfold AdrIn
  rw [hxd, ← hW1]
  exact heap_alloc_new w _
 have hp1 := hp.kept hbW1
 have hun := path_len hp1
 have HUn := hid hun
 have HP1 := hid hp1
 have HB1 := hid hbW1
 have hbl := bareV_le u hf
 have s0 : d0.size ≤ 1000000 := by rw [Lib.size_eq, e0]; unfold Fine at hf; omega
 have s1 : d1.size ≤ 1000000 := by rw [Lib.size_eq, e1]; unfold Fine at hf; omega
 have s2 : d2.size ≤ 1000000 := by rw [Lib.size_eq, e2]; unfold Fine at hf; omega
 have s3 : d3.size ≤ 1000000 := by rw [Lib.size_eq, e3]; unfold Fine at hf; omega
 have s8 : d8.size ≤ 1000000 := by rw [Lib.size_eq, e8]; unfold Fine at hf; omega
 have hport : d5 = -1 ∨ (0 ≤ d5 ∧ d5 ≤ 65535) := by rw [e5]; unfold Fine at hf; omega
 have hpl : dn ≤ 1000000 := by rw [hun]; unfold Fine at hf; omega
 have HPk := hid (fun k => ahead_le3 u k hf)
 obtain ⟨AH, hAH⟩ : ∃ X : ByteArray, X = ⟨(aheadT u).toArray⟩ := ⟨_, rfl⟩
 have HAH := hid (show AH.data.toList = aheadT u by rw [hAH])
 have HE := hid (And.intro e0 (And.intro e1 (And.intro e2 (And.intro e3 (And.intro e4 (And.intro e5 (And.intro e6 (And.intro e8 (And.intro e10 hun)))))))))
 have HBP := hid (bare_parts u)
 obtain ⟨y0, y1, y2, y3, y4, y5, y6, y7, y8, y9, y10, y11⟩ := adr_twelve hxd hAW1
 have he6 := e6
 clear hvd hxd hAW1 hbW1 hp hp1 hun hf hbl hAH e0 e1 e2 e3 e4 e5 e6 e8 e9 e10 e11 he6
 go_enter Tryz.func49, Tryz.ntmps49
 go_upto_if 9 with fail
 go_cut [3] from 10 to 63 (fun x wx => x = .string AH ∧ wx = W1)
 case first =>
  cases d4 with
  | true =>
   by_cases h2 : d2.data.toList = []
   ·have hz2 := empty_yes d2 h2
    by_cases h1 : d1.data.toList = []
    ·have hz1 := empty_yes d1 h1
     rcases hport with rfl | ⟨hq0, hq1⟩
     ·go_wp2_with fail
      go_meet
      case rel => (refine ⟨congrArg Value.string (ba_ext3 ?_), rfl⟩; obtain ⟨e0, e1, e2, e3, e4, e5, e6, e8, e10, hun⟩ := HE.out; have g4 : u.hasHost = true := (e4.symm); have g5 : u.port = -1 := (e5.symm); have g1 : u.user = [] := (by rw [← e1]; exact h1); have g2 : u.pass = [] := (by rw [← e2]; exact h2); rw [HAH.out]; simp only [ByteArray.data_append, Array.toList_append, e0, e1, e2, e3]; unfold aheadT authT; simp [g4, g5, g1, g2])
     ·obtain ⟨N, rfl⟩ := Int.eq_ofNat_of_zero_le hq0
      have hne : (((N : Nat) : Int) != -1) = true := by rw [bne_iff_ne]; omega
      have HNu := hid (fun w => numeral3_any N w (by omega))
      obtain ⟨PT, hPT⟩ : ∃ X : ByteArray, X = ⟨(portT (N : Int)).toArray⟩ := ⟨_, rfl⟩
      rw [← hPT] at HNu
      have hPTs : PT.size ≤ 6 := by rw [Lib.size_eq, hPT]; exact portT_len _
      have HPT := hid (show PT.data.toList = portT (N : Int) by rw [hPT])
      clear hPT
      go_wp2_with (go_at_call 79; refine (HNu.out _).mono ?_; rintro e w' ⟨rfl, rfl⟩)
      go_meet
      case rel => (refine ⟨congrArg Value.string (ba_ext3 ?_), rfl⟩; obtain ⟨e0, e1, e2, e3, e4, e5, e6, e8, e10, hun⟩ := HE.out; have g4 : u.hasHost = true := (e4.symm); have g5 : u.port = (N : Int) := (e5.symm); have g7 : ¬ ((N : Int) = -1) := (by omega); have g1 : u.user = [] := (by rw [← e1]; exact h1); have g2 : u.pass = [] := (by rw [← e2]; exact h2); rw [HAH.out]; simp only [ByteArray.data_append, Array.toList_append, e0, e1, e2, e3, HPT.out]; unfold aheadT authT; simp [g4, g5, g7, g1, g2])
    ·have hz1 := empty_no d1 h1
     rcases hport with rfl | ⟨hq0, hq1⟩
     ·go_wp2_with fail
      go_meet
      case rel => (refine ⟨congrArg Value.string (ba_ext3 ?_), rfl⟩; obtain ⟨e0, e1, e2, e3, e4, e5, e6, e8, e10, hun⟩ := HE.out; have g4 : u.hasHost = true := (e4.symm); have g5 : u.port = -1 := (e5.symm); have g1 : ¬ u.user = [] := (by rw [← e1]; exact h1); have g2 : u.pass = [] := (by rw [← e2]; exact h2); rw [HAH.out]; simp only [ByteArray.data_append, Array.toList_append, e0, e1, e2, e3]; unfold aheadT authT; simp [g4, g5, g1, g2])
     ·obtain ⟨N, rfl⟩ := Int.eq_ofNat_of_zero_le hq0
      have hne : (((N : Nat) : Int) != -1) = true := by rw [bne_iff_ne]; omega
      have HNu := hid (fun w => numeral3_any N w (by omega))
      obtain ⟨PT, hPT⟩ : ∃ X : ByteArray, X = ⟨(portT (N : Int)).toArray⟩ := ⟨_, rfl⟩
      rw [← hPT] at HNu
      have hPTs : PT.size ≤ 6 := by rw [Lib.size_eq, hPT]; exact portT_len _
      have HPT := hid (show PT.data.toList = portT (N : Int) by rw [hPT])
      clear hPT
      go_wp2_with (go_at_call 79; refine (HNu.out _).mono ?_; rintro e w' ⟨rfl, rfl⟩)
      go_meet
      case rel => (refine ⟨congrArg Value.string (ba_ext3 ?_), rfl⟩; obtain ⟨e0, e1, e2, e3, e4, e5, e6, e8, e10, hun⟩ := HE.out; have g4 : u.hasHost = true := (e4.symm); have g5 : u.port = (N : Int) := (e5.symm); have g7 : ¬ ((N : Int) = -1) := (by omega); have g1 : ¬ u.user = [] := (by rw [← e1]; exact h1); have g2 : u.pass = [] := (by rw [← e2]; exact h2); rw [HAH.out]; simp only [ByteArray.data_append, Array.toList_append, e0, e1, e2, e3, HPT.out]; unfold aheadT authT; simp [g4, g5, g7, g1, g2])
   ·have hz2 := empty_no d2 h2
    by_cases h1 : d1.data.toList = []
    ·have hz1 := empty_yes d1 h1
     rcases hport with rfl | ⟨hq0, hq1⟩
     ·go_wp2_with fail
      go_meet
      case rel => (refine ⟨congrArg Value.string (ba_ext3 ?_), rfl⟩; obtain ⟨e0, e1, e2, e3, e4, e5, e6, e8, e10, hun⟩ := HE.out; have g4 : u.hasHost = true := (e4.symm); have g5 : u.port = -1 := (e5.symm); have g1 : u.user = [] := (by rw [← e1]; exact h1); have g2 : ¬ u.pass = [] := (by rw [← e2]; exact h2); rw [HAH.out]; simp only [ByteArray.data_append, Array.toList_append, e0, e1, e2, e3]; unfold aheadT authT; simp [g4, g5, g1, g2])
     ·obtain ⟨N, rfl⟩ := Int.eq_ofNat_of_zero_le hq0
      have hne : (((N : Nat) : Int) != -1) = true := by rw [bne_iff_ne]; omega
      have HNu := hid (fun w => numeral3_any N w (by omega))
      obtain ⟨PT, hPT⟩ : ∃ X : ByteArray, X = ⟨(portT (N : Int)).toArray⟩ := ⟨_, rfl⟩
      rw [← hPT] at HNu
      have hPTs : PT.size ≤ 6 := by rw [Lib.size_eq, hPT]; exact portT_len _
      have HPT := hid (show PT.data.toList = portT (N : Int) by rw [hPT])
      clear hPT
      go_wp2_with (go_at_call 79; refine (HNu.out _).mono ?_; rintro e w' ⟨rfl, rfl⟩)
      go_meet
      case rel => (refine ⟨congrArg Value.string (ba_ext3 ?_), rfl⟩; obtain ⟨e0, e1, e2, e3, e4, e5, e6, e8, e10, hun⟩ := HE.out; have g4 : u.hasHost = true := (e4.symm); have g5 : u.port = (N : Int) := (e5.symm); have g7 : ¬ ((N : Int) = -1) := (by omega); have g1 : u.user = [] := (by rw [← e1]; exact h1); have g2 : ¬ u.pass = [] := (by rw [← e2]; exact h2); rw [HAH.out]; simp only [ByteArray.data_append, Array.toList_append, e0, e1, e2, e3, HPT.out]; unfold aheadT authT; simp [g4, g5, g7, g1, g2])
    ·have hz1 := empty_no d1 h1
     rcases hport with rfl | ⟨hq0, hq1⟩
     ·go_wp2_with fail
      go_meet
      case rel => (refine ⟨congrArg Value.string (ba_ext3 ?_), rfl⟩; obtain ⟨e0, e1, e2, e3, e4, e5, e6, e8, e10, hun⟩ := HE.out; have g4 : u.hasHost = true := (e4.symm); have g5 : u.port = -1 := (e5.symm); have g1 : ¬ u.user = [] := (by rw [← e1]; exact h1); have g2 : ¬ u.pass = [] := (by rw [← e2]; exact h2); rw [HAH.out]; simp only [ByteArray.data_append, Array.toList_append, e0, e1, e2, e3]; unfold aheadT authT; simp [g4, g5, g1, g2])
     ·obtain ⟨N, rfl⟩ := Int.eq_ofNat_of_zero_le hq0
      have hne : (((N : Nat) : Int) != -1) = true := by rw [bne_iff_ne]; omega
      have HNu := hid (fun w => numeral3_any N w (by omega))
      obtain ⟨PT, hPT⟩ : ∃ X : ByteArray, X = ⟨(portT (N : Int)).toArray⟩ := ⟨_, rfl⟩
      rw [← hPT] at HNu
      have hPTs : PT.size ≤ 6 := by rw [Lib.size_eq, hPT]; exact portT_len _
      have HPT := hid (show PT.data.toList = portT (N : Int) by rw [hPT])
      clear hPT
      go_wp2_with (go_at_call 79; refine (HNu.out _).mono ?_; rintro e w' ⟨rfl, rfl⟩)
      go_meet
      case rel => (refine ⟨congrArg Value.string (ba_ext3 ?_), rfl⟩; obtain ⟨e0, e1, e2, e3, e4, e5, e6, e8, e10, hun⟩ := HE.out; have g4 : u.hasHost = true := (e4.symm); have g5 : u.port = (N : Int) := (e5.symm); have g7 : ¬ ((N : Int) = -1) := (by omega); have g1 : ¬ u.user = [] := (by rw [← e1]; exact h1); have g2 : ¬ u.pass = [] := (by rw [← e2]; exact h2); rw [HAH.out]; simp only [ByteArray.data_append, Array.toList_append, e0, e1, e2, e3, HPT.out]; unfold aheadT authT; simp [g4, g5, g7, g1, g2])
  | false =>
   cases d6 with
   | true =>
    go_wp2_with fail
    go_meet
    case rel => (refine ⟨congrArg Value.string (ba_ext3 ?_), rfl⟩; obtain ⟨e0, e1, e2, e3, e4, e5, e6, e8, e10, hun⟩ := HE.out; have g4 : u.hasHost = false := (e4.symm); have g6 : u.opq = true := (e6.symm); rw [HAH.out]; simp only [ByteArray.data_append, Array.toList_append, e0, e1, e2, e3]; unfold aheadT authT; simp [g4, g6])
   | false =>
    by_cases hl : 1 < dn
    ·have hl' : (1 : Int) < (dn : Int) := by omega
     have hkl : 0 < u.path.length := by rw [← HUn.out]; omega
     obtain ⟨pb, rfl, hpc, -, hnc, hcm⟩ := path_cell HP1.out 0 hkl
     obtain ⟨PK, hPK⟩ : ∃ X : ByteArray, X = ⟨(u.path[0]).toArray⟩ := ⟨_, rfl⟩
     rw [← hPK] at hpc
     have HPK := hid (show PK.data.toList = u.path[0] by rw [hPK])
     unfold maxLen at hcm
     have hu0 : 0 < dn := by omega
     clear hPK
     by_cases hpk : PK.data.toList = []
     ·have hz := empty_yes PK hpk
      go_wp2_with fail
      go_meet
      case rel => (refine ⟨congrArg Value.string (ba_ext3 ?_), rfl⟩; obtain ⟨e0, e1, e2, e3, e4, e5, e6, e8, e10, hun⟩ := HE.out; have g4 : u.hasHost = false := (e4.symm); have g6 : u.opq = false := (e6.symm); have g7 : 1 < u.path.length := (by rw [← hun]; exact hl); have g8 : u.path.head? = some [] := (by rw [List.head?_eq_getElem?, List.getElem?_eq_getElem hkl, ← HPK.out, hpk]); rw [HAH.out]; simp only [ByteArray.data_append, Array.toList_append, e0, e1, e2, e3]; unfold aheadT authT; simp [g4, g6, g7, g8])
     ·have hz := empty_no PK hpk
      go_wp2_with fail
      go_meet
      case rel => (refine ⟨congrArg Value.string (ba_ext3 ?_), rfl⟩; obtain ⟨e0, e1, e2, e3, e4, e5, e6, e8, e10, hun⟩ := HE.out; have g4 : u.hasHost = false := (e4.symm); have g6 : u.opq = false := (e6.symm); have g8 : ¬ u.path.head? = some [] := (by rw [List.head?_eq_getElem?, List.getElem?_eq_getElem hkl, ← HPK.out]; simpa using hpk); rw [HAH.out]; simp only [ByteArray.data_append, Array.toList_append, e0, e1, e2, e3]; unfold aheadT authT; simp [g4, g6, g8])
    ·have hl' : decide ((1 : Int) < (dn : Int)) = false := by rw [decide_eq_false_iff_not]; omega
     go_wp2_with fail
     go_meet
     case rel => (refine ⟨congrArg Value.string (ba_ext3 ?_), rfl⟩; obtain ⟨e0, e1, e2, e3, e4, e5, e6, e8, e10, hun⟩ := HE.out; have g4 : u.hasHost = false := (e4.symm); have g6 : u.opq = false := (e6.symm); have g7 : ¬ 1 < u.path.length := (by rw [← hun]; exact hl); rw [HAH.out]; simp only [ByteArray.data_append, Array.toList_append, e0, e1, e2, e3]; unfold aheadT authT; simp [g4, g6, g7])
 case rest =>
  obtain ⟨rfl, rfl⟩ := hcut
  have hAe : AH = ⟨(aheadT u ++ partsT u.opq (u.path.take 0)).toArray⟩ := ba_ext3 (by rw [HAH.out]; simp [partsT])
  have HAe := hid hAe
  clear hAe
  go_wp2_with fail
  go_loop [3, 4] (fun sv iv => ∃ k : Nat, k ≤ dn ∧ iv = .int .i64 k ∧ sv = .string ⟨(aheadT u ++ partsT u.opq (u.path.take k)).toArray⟩) (fun sv iv => dn - (intOf iv).toNat)
  case atStart => exact ⟨0, Nat.zero_le _, rfl, by rw [HAe.out]⟩
  case round =>
   obtain ⟨k, hk, rfl, rfl⟩ := hrel
   have hsz := HPk.out k
   obtain ⟨S, hS⟩ : ∃ X : ByteArray, X = ⟨(aheadT u ++ partsT u.opq (u.path.take k)).toArray⟩ := ⟨_, rfl⟩
   have HSl := hid (show S.data.toList = aheadT u ++ partsT u.opq (u.path.take k) by rw [hS])
   have hSs : S.size ≤ 8000000 := by rw [Lib.size_eq, hS]; exact hsz
   rw [← hS]
   clear hS hsz
   by_cases hlt : k < dn
   ·have hlt' : (k : Int) < (dn : Int) := by omega
    have hkl : k < u.path.length := by rw [← HUn.out]; exact hlt
    obtain ⟨pb, rfl, hpc, -, hnc, hcm⟩ := path_cell HP1.out k hkl
    obtain ⟨PK, hPK⟩ : ∃ X : ByteArray, X = ⟨(u.path[k]).toArray⟩ := ⟨_, rfl⟩
    rw [← hPK] at hpc
    have hPl := HPk.out (k + 1)
    rw [partsT_take u.opq u.path k hkl] at hPl
    simp only [List.length_append] at hPl
    have hPs : PK.size ≤ 8000000 := by rw [Lib.size_eq, hPK]; show (u.path[k]).length ≤ _; omega
    have HPK := hid (show PK.data.toList = u.path[k] by rw [hPK])
    have HTk := hid (partsT_take u.opq u.path k hkl)
    unfold maxLen at hcm
    clear hPK hPl
    have HE6 := hid HE.out.2.2.2.2.2.2.1
    obtain ⟨ob, hob⟩ : ∃ b, d6 = b := ⟨_, rfl⟩
    rw [hob] at y6 HE6
    clear hob
    cases ob with
    | true =>
     go_wp2_with fail
     go_round
     case rel => exact ⟨k + 1, by omega, by go_num, congrArg Value.string (ba_ext3 (by simp only [ByteArray.data_append, Array.toList_append, HSl.out, HPK.out]; rw [HTk.out, ← HE6.out]; simp))⟩
     case measure => simp [intOf]; omega
    | false =>
     go_wp2_with fail
     go_round
     case rel => exact ⟨k + 1, by omega, by go_num, congrArg Value.string (ba_ext3 (by simp only [ByteArray.data_append, Array.toList_append, HSl.out, HPK.out]; rw [HTk.out, ← HE6.out]; simp))⟩
     case measure => simp [intOf]; omega
   ·have hlt' : decide ((k : Int) < (dn : Int)) = false := by rw [decide_eq_false_iff_not]; omega
    have HAll := hid (show S.data.toList = aheadT u ++ partsT u.opq u.path by rw [HSl.out, List.take_of_length_le (by rw [← HUn.out]; omega)])
    have HQ := hid (And.intro HE.out.2.2.2.2.2.2.2.1 HE.out.2.2.2.2.2.2.2.2.1)
    cases d10 with
    | true =>
     go_wp2_with fail
     go_ret
     exact ⟨congrArg Ending.returned (congrArg Value.string (ba_ext3 (by obtain ⟨q1, q2⟩ := HQ.out; show _ = bareV u; rw [HBP.out, ← q2]; simp only [ByteArray.data_append, Array.toList_append, HAll.out, q1]; simp))), HB1.out⟩
    | false =>
     go_wp2_with fail
     go_ret
     exact ⟨congrArg Ending.returned (congrArg Value.string (ba_ext3 (by obtain ⟨q1, q2⟩ := HQ.out; show _ = bareV u; rw [HBP.out, ← q2]; simp only [HAll.out]; simp))), HB1.out⟩

set_option maxHeartbeats 2000000 in
set_option maxRecDepth 100000 in
theorem rtext3_any (u : Adr) (pv : Value) (w : World) (hp : PathAt w pv u.path) (hf : Fine u) (hfr : u.fragment.length ≤ 1000000) :
  Calls Tryz.prog 16 #[adrVal u pv] w fun e w' => e = .returned (.string ⟨(textV u).toArray⟩) ∧ Below w.heap.size w w' := by
 obtain ⟨da, dn, dc, rfl⟩ := path_sl hp
 obtain ⟨d0, d1, d2, d3, d4, d5, d6, d8, d9, d10, d11, hxd, e0, e1, e2, e3, e4, e5, e6, e8, e9, e10, e11⟩ := adr_named4 u da dn dc
 have hvd : adrVal u (.slice da dn dc) = .agg #[.string d0, .string d1, .string d2, .string d3, .bool d4, .int .i64 d5, .bool d6, .slice da dn dc, .string d8, .string d9, .bool d10, .bool d11] := by unfold adrVal; rw [hxd]
 rw [hvd]
 obtain ⟨W1, hW1⟩ : ∃ X, (w.alloc (.cells #[.string d0, .string d1, .string d2, .string d3, .bool d4, .int .i64 d5, .bool d6, .slice da dn dc, .string d8, .string d9, .bool d10, .bool d11] 24)) = X := ⟨_, rfl⟩
 have hbW1 : Below w.heap.size w W1 := by rw [← hW1]; exact (Below.refl _ w).alloc (Nat.le_refl _) _
 have hsW1 : W1.heap.size = w.heap.size + 1 := by rw [← hW1]; simp
 have hAW1 : AdrIn W1 w.heap.size u (.slice da dn dc) := by
  unfold AdrIn
  rw [hxd, ← hW1]
  exact heap_alloc_new w _
 have HBa := hid (rbare3_any u (.slice da dn dc) W1 (hp.kept hbW1) hf)
 rw [hvd] at HBa
 have hbl := bareV_le u hf
 obtain ⟨S, hS⟩ : ∃ X : ByteArray, X = ⟨(bareV u).toArray⟩ := ⟨_, rfl⟩
 have HSl := hid (show S.data.toList = bareV u by rw [hS])
 have hSs : S.size ≤ 8000000 := by rw [Lib.size_eq, hS]; exact hbl
 rw [← hS] at HBa
 have hFs : d9.size ≤ 1000000 := by rw [Lib.size_eq, e9]; exact hfr
 have HB1 := hid hbW1
 have HA1 := hid hAW1
 have HX := hid hxd
 have HQ := hid (And.intro e9 e11)
 obtain ⟨y0, y1, y2, y3, y4, y5, y6, y7, y8, y9, y10, y11⟩ := adr_twelve hxd hAW1
 clear hvd hxd hAW1 hbW1 hp hf hfr hbl hS e0 e1 e2 e3 e4 e5 e6 e8 e9 e10 e11
 go_enter Tryz.func16, Tryz.ntmps16
 go_wp2_with fail
 refine HBa.out.mono ?_
 rintro e w2 ⟨rfl, hb2⟩
 clear y0 y1 y2 y3 y4 y5 y6 y7 y8 y9 y10 y11
 have hA2 := HA1.out.kept hb2
 obtain ⟨y0, y1, y2, y3, y4, y5, y6, y7, y8, y9, y10, y11⟩ := adr_twelve HX.out hA2
 have HB2 := hid (below2 HB1.out hb2)
 clear hb2 hA2 HX HA1
 cases d11 with
 | true =>
  go_wp2_with fail
  go_ret
  exact ⟨congrArg Ending.returned (congrArg Value.string (ba_ext3 (by obtain ⟨q1, q2⟩ := HQ.out; show _ = textV u; unfold textV; rw [← q2]; simp only [ByteArray.data_append, Array.toList_append, HSl.out, q1]; simp))), HB2.out⟩
 | false =>
  go_wp2_with fail
  go_ret
  exact ⟨congrArg Ending.returned (congrArg Value.string (ba_ext3 (by obtain ⟨q1, q2⟩ := HQ.out; show _ = textV u; unfold textV; rw [← q2]; simp only [HSl.out]; simp))), HB2.out⟩

end Go.Proofs.YtamockkjbkibdaaGreatDoor

namespace Go.Proofs.YtamockkjbkibdaaGreatDoor
open Go.RowKit

theorem slC_idem (c : UInt8) : slC (slC c) = slC c := by
 have := u8_all (P := fun c => slC (slC c) == slC c) (by decide +kernel) c
 simpa using this

theorem slC_63 (c : UInt8) : slC c = 63 ↔ c = 63 := by
 have := u8_all (P := fun c => (slC c == 63) == (c == 63)) (by decide +kernel) c
 constructor
 ·intro h; rw [h] at this; simpa using this
 ·intro h; rw [h]; decide

theorem slash_ahead (l : List UInt8) : aheadV [63] (slashV l) = ((aheadV [63] l).1.map slC, (aheadV [63] l).2) := by
 have hno : ∀ c ∈ (aheadV [63] l).1.map slC, c ∉ ([63] : List UInt8) := fun c hc => by
  obtain ⟨d, hd, rfl⟩ := List.mem_map.1 hc
  have h1 := List.all_eq_true.1 (List.all_takeWhile (p := fun c => !([63] : List UInt8).contains c) (l := l)) d hd
  simp at h1 ⊢
  exact fun e => h1 ((slC_63 d).1 e)
 unfold slashV
 cases h2 : (aheadV [63] l).2 with
 | nil => rw [List.append_nil]; exact ahead_all _ _ hno
 | cons x r =>
  have hx : x = 63 := by
   have h3 : l.dropWhile (fun c => !([63] : List UInt8).contains c) = x :: r := h2
   have h4 := List.head?_dropWhile_not (fun c => !([63] : List UInt8).contains c) l
   rw [h3] at h4
   simpa using h4
  subst hx
  exact ahead_at _ _ _ _ hno (by simp)

theorem slash_idem (l : List UInt8) : slashV (slashV l) = slashV l := by
 have h := slash_ahead l
 have e : slashV (slashV l) = (aheadV [63] (slashV l)).1.map slC ++ (aheadV [63] (slashV l)).2 := rfl
 rw [e, h]
 simp only [List.map_map]
 unfold slashV
 congr 1
 apply List.map_congr_left
 intro c _
 exact slC_idem c

def nrV (u : Adr) (x : List UInt8) (B : Adr) : Except Int Adr := if B.opq = true ∧ x ≠ [] then .error 12 else joinV u x B

theorem skip_two {r : List UInt8} (h : Lib.hasPrefix r [47, 47] = true) : skip47 r = skip47 (r.drop 2) := by
 have h := List.isPrefixOf_iff_prefix.1 h
 obtain ⟨t, rfl⟩ := h
 rfl

end Go.Proofs.YtamockkjbkibdaaGreatDoor
