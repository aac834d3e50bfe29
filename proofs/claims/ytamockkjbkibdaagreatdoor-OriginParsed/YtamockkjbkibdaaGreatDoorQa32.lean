/-
  Walks and plain facts that this claim leans on, put together out of 9 texts: Eruc, Erud, Yrg, Erc, Erd, Erx, Ewb, Exa, Ewd.
-/
import Derived.Test.YtamockkjbkibdaaGreatDoorProg
import Derived.Test.YtamockkjbkibdaaGreatDoorQa1
import Derived.Test.YtamockkjbkibdaaGreatDoorQa3
import Derived.Test.YtamockkjbkibdaaGreatDoorQa6
import Derived.Test.YtamockkjbkibdaaGreatDoorQa9
import Derived.Test.YtamockkjbkibdaaGreatDoorQa12
import Derived.Test.YtamockkjbkibdaaGreatDoorQa13
import Derived.Test.YtamockkjbkibdaaGreatDoorQa19
import Derived.Test.YtamockkjbkibdaaGreatDoorQa23
import Derived.Test.YtamockkjbkibdaaGreatDoorQa27
import Derived.Test.YtamockkjbkibdaaGreatDoorQa28
import Derived.Test.YtamockkjbkibdaaGreatDoorQa29
import Derived.Test.YtamockkjbkibdaaGreatDoorQa30
import Derived.Test.YtamockkjbkibdaaGreatDoorQa31
import Derived.Lib.IndexMore
import Derived.Lib.Join
import Derived.Lib.LastIndexByte
import Derived.WalkKit
import Derived.Lib.Strings
import Derived.Lib.UnsafeStr
import Derived.Laws.IdiomStrings
import Derived.Laws.AppendOwn
import Derived.Laws.BitsAllLaws
import Derived.Lib.Bytealg
import Derived.Lib.BufferMore
import Derived.LoopN
import Derived.RegionTactic
import Derived.Deep.RegionWith
import Derived.Deep.QuietTactic
import Derived.BigQuiet
import Derived.Laws.OwnMore
import Derived.Shelf.Strings.Builder1
import Derived.Shelf.Strings.Builder2
import Derived.Shelf.Strings.OnBuilder
import Derived.Shelf.Strings.Trim
import Derived.Shelf.Small.Utf8
import Derived.Shelf.Small.Strs
import Derived.Shelf.Small.Wraps
import Derived.Shelf.Strings.BuilderF
import Derived.Shelf.Strings.BuilderK
import Derived.Shelf.Strings.BuilderRune
import Derived.Shelf.Utf8.AppendRune
import Derived.Shelf.Utf8.AppendRunePlain
import Derived.Shelf.Strings.Builder2Cap
import Derived.Shelf.Strconv.Itoa0
import Derived.Shelf.Strconv.Itoa1
import Derived.Shelf.LaysM
import Derived.Shelf.Strconv.Itoa2
import Derived.Shelf.Strconv.Itoa3
import Derived.Shelf.Strings.Search1
import Derived.Shelf.Strings.Search2
import Derived.Shelf.Strings.Search3
import Derived.Shelf.Strings.Cut
import Derived.Shelf.Strings.Count
import Derived.Shelf.Strings.Shaped
import Derived.Shelf.Strings.LastIndex
import Derived.Shelf.Strings.Prefix
import Derived.Shelf.Strings.Split
import Derived.Shelf.Strings.Replace
import Derived.Shelf.Strings.Runes
import Derived.Shelf.Strings.IndexAny
import Derived.Shelf.Strings.AsciiSet
import Derived.Shelf.Strings.IndexAnyAll
import Derived.Shelf.Unicode.DecodeSlow
import Derived.Ground.Names2Prog
import Derived.Shelf.Slices.Clone
import Derived.Ground.SlgnProg
import Derived.Shelf.SlicesE.Clone
import Derived.Scope
import Derived.ScopeJumps
import Derived.WalkMore
import Derived.Lib.IndexAny
import Derived.Lib.Replace
import Derived.Lib.TrimByte
import Derived.Lib.ItoaNum
import Derived.Laws.RangeAny
import Derived.Lib.DecodeN
import Derived.Lib.OthersKept
import Derived.Deep.LoopGhost
import Derived.Laws.BytesString
import Derived.Deep.WholeRow
import Derived.BigRegion
import Derived.Lib.AppendStr
import Derived.Deep.RegionHeld
import Derived.WalkSpells
import Derived.WalkLawsBesides
import Derived.Lib.AppendIntMem
import Derived.Lib.SmallJoins
import Derived.WalkSmall
import Derived.OwnWalk
import Derived.Laws.CopyOwn
import Derived.Laws.ResultCell
import Derived.Deep.MidRow
import Derived.Lib.FrozenHead2
import Derived.Lib.Builder
import Derived.Deep.RegionLaw
import Derived.Lib.SlTrimSet
import Derived.Deep.Cut
import Derived.Lib.BufferRead
import Derived.Lib.RuneBytes
import Derived.Laws.AppendOwnNone
import Derived.Deep.CutRange
import Derived.Below
import Derived.Shelf.Strings.SlTrimAscii
import Derived.Laws.Runes
set_option linter.unusedSimpArgs false
set_option linter.unusedVariables false

namespace Go.Proofs.YtamockkjbkibdaaGreatDoor
def qT (u : Adr) : List UInt8 := if u.hasQuery then 63 :: u.query else []

def fT (u : Adr) : List UInt8 := if u.hasFragment then 35 :: u.fragment else []

def rT (u : Adr) : List UInt8 := authT u ++ (pathT u ++ qT u)

def paT (u : Adr) : List UInt8 := u.path.flatMap (fun p => 47 :: p)

def un0 (u : Adr) : Adr := ⟨u.scheme, [], [], [], false, -1, false, [], [], u.fragment, false, u.hasFragment⟩

theorem qT_form (u : Adr) : qT u = [] ∨ ∃ q, qT u = 63 :: q := by
 unfold qT
 split
 ·exact .inr ⟨_, rfl⟩
 ·exact .inl rfl

theorem wq_back {u v : Adr} (h : Str0 u) (hn : u.hasQuery = false → u.query = []) (hs : v.scheme = u.scheme) (hv : v.query = [] ∧ v.hasQuery = false) : withQuery v (qT u) = { v with query := u.query, hasQuery := u.hasQuery } := by
 unfold withQuery qT
 cases hq : u.hasQuery with
 | true =>
  rw [if_neg (by simp)]
  simp only [if_true, List.drop_succ_cons, List.drop_zero]
  rw [hs, h.qry]
 | false =>
  simp only [Bool.false_eq_true, if_false]
  rw [hn hq]
  obtain ⟨a, b⟩ := hv
  cases v
  simp_all

theorem pa_no {u : Adr} (h : Str u) (ho : u.opq = false) : 63 ∉ paT u ∧ (specV u.scheme = true → 92 ∉ paT u) ∧ 35 ∉ paT u := by
 have h5 : ∀ (x : UInt8) (p : List UInt8), Part2 p → inSetI x.toNat 5 = true → x ∉ p := fun x p hp hx e => by
  have := pct_mem 5 p x (by rw [hp.2.1]; exact e)
  rw [hx] at this; cases this
 refine ⟨fun e => ?_, fun hs e => ?_, fun e => ?_⟩
 ·obtain ⟨p, hp, e⟩ := List.mem_flatMap.1 e
  rcases List.mem_cons.1 e with e | e
  ·cases e
  ·exact h5 63 p (h.par ho p hp).1 (by decide) e
 ·obtain ⟨p, hp, e⟩ := List.mem_flatMap.1 e
  rcases List.mem_cons.1 e with e | e
  ·cases e
  ·exact (h.par ho p hp).2 hs e
 ·obtain ⟨p, hp, e⟩ := List.mem_flatMap.1 e
  rcases List.mem_cons.1 e with e | e
  ·cases e
  ·exact h5 35 p (h.par ho p hp).1 (by decide) e

theorem wp_back {u v : Adr} (h : Str u) (hg : Good3 u) (ho : u.opq = false) (hs : v.scheme = u.scheme) (hv : v.query = [] ∧ v.hasQuery = false) : withPath v [] (paT u ++ qT u) = { v with path := u.path, query := u.query, hasQuery := u.hasQuery } := by
 unfold withPath
 rw [ahead_q _ _ (pa_no h ho).1 (qT_form u)]
 simp only
 have hp : pathV (specV v.scheme) [] (paT u) = u.path := by rw [hs]; exact path_back _ _ (fun p hp => (h.par ho p hp).1) (fun hsp => (hg.special hsp).2.1)
 rw [hp]
 exact wq_back (v := { v with path := u.path }) h.pre hg.pre.noQ hs hv

theorem ahead_au {u : Adr} (h : Str0 u) (hg : ∀ c ∈ u.host, hoC c = true) : aheadV [47, 63] (auT u ++ (paT u ++ qT u)) = (auT u, paT u ++ qT u) := by
 have hno : ∀ c ∈ auT u, c ∉ ([47, 63] : List UInt8) := fun c hc => by
  have := au_ne h hg c hc
  simp [this.1, this.2.1]
 unfold paT
 cases hp : u.path with
 | nil =>
  rw [List.flatMap_nil, List.nil_append]
  rcases qT_form u with e | ⟨q, e⟩
  ·rw [e, List.append_nil]; exact ahead_all _ _ hno
  ·rw [e]; exact ahead_at _ _ _ _ hno (by simp)
 | cons p L =>
  rw [List.flatMap_cons, List.cons_append, List.cons_append]
  exact ahead_at _ _ _ _ hno (by simp)

theorem wa_back {u : Adr} (h : Str u) (hg : Good3 u) (hh : u.hasHost = true) (ho : u.opq = false) : withAuth (un0 u) (auT u ++ (paT u ++ qT u)) = .ok u := by
 unfold withAuth
 rw [ahead_au h.pre hg.pre.host]
 simp only
 rw [show (un0 u).scheme = u.scheme from rfl, auth_back h.pre hh hg.pre.host]
 simp only
 refine (congrArg Except.ok (wp_back (v := (⟨u.scheme, u.user, u.pass, u.host, true, u.port, false, [], [], u.fragment, false, u.hasFragment⟩ : Adr)) h hg ho rfl ⟨rfl, rfl⟩)).trans ?_
 cases u
 simp_all

theorem start_back {u : Adr} (h : Str u) (hg : Good3 u) : startV (un0 u) (rT u) = .ok u := by
 have hus : (un0 u).scheme = u.scheme := rfl
 cases hh : u.hasHost with
 | true =>
  have ho : u.opq = false := by
   cases e : u.opq with
   | false => rfl
   | true => have := (h.opq e).1; rw [hh] at this; cases this
  have hpt : pathT u = paT u := by unfold pathT paT; simp [ho, hh]
  have hR : rT u = 47 :: 47 :: (auT u ++ (paT u ++ qT u)) := by unfold rT; rw [authT_eq u hh, hpt]; simp
  have hau := au_ne h.pre hg.pre.host
  unfold startV
  rw [hus, hR]
  cases hsp : specV u.scheme with
  | true =>
   rw [if_pos rfl]
   have hM : slashV (47 :: 47 :: (auT u ++ (paT u ++ qT u))) = 47 :: 47 :: (auT u ++ (paT u ++ qT u)) := by
    have e : 47 :: 47 :: (auT u ++ (paT u ++ qT u)) = (47 :: 47 :: (auT u ++ paT u)) ++ qT u := by simp
    have h63 : 63 ∉ (47 :: 47 :: (auT u ++ paT u) : List UInt8) := fun e => by
     simp at e
     rcases e with e | e
     ·exact (hau 63 e).2.1 rfl
     ·exact (pa_no h ho).1 e
    have h92 : 92 ∉ (47 :: 47 :: (auT u ++ paT u) : List UInt8) := fun e => by
     simp at e
     rcases e with e | e
     ·exact (hau 92 e).2.2.1 rfl
     ·exact (pa_no h ho).2.1 hsp e
    rw [e]
    unfold slashV
    rw [ahead_q _ _ h63 (qT_form u)]
    simp only
    rw [slC_none _ h92]
   have hsk : skip47 (47 :: 47 :: (auT u ++ (paT u ++ qT u))) = auT u ++ (paT u ++ qT u) := by
    unfold skip47
    rw [List.dropWhile_cons, if_pos (by decide), List.dropWhile_cons, if_pos (by decide)]
    cases ha : auT u with
    | nil =>
     have : u.host = [] := by
      unfold auT at ha
      exact (List.append_eq_nil_iff.1 (List.append_eq_nil_iff.1 ha).1).2
     exact absurd this (hg.special hsp).1
    | cons c t =>
     rw [List.cons_append, List.dropWhile_cons, if_neg]
     have := (hau c (by rw [ha]; simp)).1
     simpa using this
   rw [hM, hsk]
   exact wa_back h hg hh ho
  | false =>
   rw [if_neg (by simp), if_pos (by unfold Lib.hasPrefix; simp)]
   exact wa_back h hg hh ho
 | false =>
  obtain ⟨n1, n2, n3, n4⟩ := h.pre.noh hh
  have hsp : specV u.scheme = false := by
   cases e : specV u.scheme with
   | false => rfl
   | true => exact absurd n3 (hg.special e).1
  have hau : authT u = [] := by unfold authT; rw [hh]; rfl
  have hR : rT u = pathT u ++ qT u := by unfold rT; rw [hau]; rfl
  unfold startV
  rw [hus, hsp, if_neg (by simp), hR]
  cases ho : u.opq with
  | true =>
   obtain ⟨-, -, x, hx, hx1, hx2, hx3, hx4⟩ := h.opq ho
   have hpt : pathT u = x := by unfold pathT; rw [ho, hx]; simp
   have hno : ∀ l : List UInt8, l.head? ≠ some 47 → Lib.hasPrefix l [47] = false ∧ Lib.hasPrefix l [47, 47] = false := by
    intro l hl
    cases l with
    | nil => exact ⟨rfl, rfl⟩
    | cons c l =>
     have : c ≠ 47 := by simpa using hl
     constructor
     ·show ([47] : List UInt8).isPrefixOf (c :: l) = false
      simp [List.isPrefixOf, this.symm]
     ·show ([47, 47] : List UInt8).isPrefixOf (c :: l) = false
      simp [List.isPrefixOf, this.symm]
   have hhd : (x ++ qT u).head? ≠ some 47 := by
    cases x with
    | nil =>
     rcases qT_form u with e | ⟨q, e⟩ <;> rw [List.nil_append, e] <;> simp
    | cons c x => simpa using hx2
   rw [hpt, (hno _ hhd).2, if_neg (by simp), (hno _ hhd).1, if_neg (by simp), ahead_q _ _ hx3 (qT_form u)]
   simp only
   rw [hx1]
   refine (congrArg Except.ok (wq_back (v := (⟨u.scheme, [], [], [], false, -1, true, [x], [], u.fragment, false, u.hasFragment⟩ : Adr)) h.pre hg.pre.noQ rfl ⟨rfl, rfl⟩)).trans ?_
   cases u
   simp_all
  | false =>
   have hne := h.pne hh ho
   have hfin : ({ un0 u with path := u.path, query := u.query, hasQuery := u.hasQuery } : Adr) = u := by
    cases u
    simp_all [un0]
   by_cases hd : 1 < u.path.length ∧ u.path.head? = some []
   ·have hpt : pathT u = 47 :: 46 :: paT u := by unfold pathT paT; simp [ho, hh, hd]
    rw [hpt]
    show (if Lib.hasPrefix (47 :: 46 :: (paT u ++ qT u)) [47, 47] = true then _ else if Lib.hasPrefix (47 :: 46 :: (paT u ++ qT u)) [47] = true then Except.ok (withPath (un0 u) [] (47 :: 46 :: (paT u ++ qT u))) else _) = _
    rw [if_neg (by unfold Lib.hasPrefix; simp), if_pos (by unfold Lib.hasPrefix; simp)]
    congr 1
    unfold withPath
    have e : 47 :: 46 :: (paT u ++ qT u) = (47 :: 46 :: paT u) ++ qT u := by simp
    rw [e, ahead_q _ _ (fun e => by simp at e; exact (pa_no h ho).1 e) (qT_form u)]
    simp only
    have hp : pathV (specV (un0 u).scheme) [] (47 :: 46 :: paT u) = u.path := by
     unfold pathV
     rw [if_neg (by simp)]
     have ho1 : over1 (47 :: 46 :: paT u) = [46] ++ paT u := by simp [over1]
     rw [ho1]
     unfold paT
     rw [cut_back [46] u.path (by decide) (fun p hp => (h.par ho p hp).1), pathL_more [] [46] u.path hne, stepP1 d_1.1, pathL_back _ _ (fun p hp => (h.par ho p hp).1), List.nil_append]
    rw [hp]
    exact (wq_back (v := (⟨u.scheme, [], [], [], false, -1, false, u.path, [], u.fragment, false, u.hasFragment⟩ : Adr)) h.pre hg.pre.noQ rfl ⟨rfl, rfl⟩).trans hfin
   ·have hpt : pathT u = paT u := by unfold pathT paT; rw [ho, hh]; simp [hd]
    rw [hpt]
    have hform : ∃ t, paT u ++ qT u = 47 :: t ∧ t.head? ≠ some 47 := by
     unfold paT
     cases hp : u.path with
     | nil => exact absurd hp hne
     | cons p L =>
      refine ⟨p ++ L.flatMap (fun p => 47 :: p) ++ qT u, by simp, ?_⟩
      cases p with
      | nil =>
       have hL : L = [] := by
        cases L with
        | nil => rfl
        | cons q L => exact absurd ⟨by rw [hp]; simp, by rw [hp]; rfl⟩ hd
       subst hL
       rcases qT_form u with e | ⟨q, e⟩ <;> rw [e] <;> simp
      | cons c p =>
       have := (h.par ho (c :: p) (by rw [hp]; simp)).1.2.2
       simp at this ⊢
       exact fun e => this.1 e.symm
    obtain ⟨t, ht, ht2⟩ := hform
    have h2 : Lib.hasPrefix (paT u ++ qT u) [47, 47] = false := by
     rw [ht]
     cases t with
     | nil => rfl
     | cons c t =>
      have : c ≠ 47 := by simpa using ht2
      show ([47, 47] : List UInt8).isPrefixOf (47 :: c :: t) = false
      simp [List.isPrefixOf, this.symm]
    have h1 : Lib.hasPrefix (paT u ++ qT u) [47] = true := by rw [ht]; unfold Lib.hasPrefix; simp
    rw [h2, if_neg (by simp), h1, if_pos rfl, wp_back (v := un0 u) h hg ho rfl ⟨rfl, rfl⟩, hfin]

end Go.Proofs.YtamockkjbkibdaaGreatDoor

namespace Go.Proofs.YtamockkjbkibdaaGreatDoor
theorem clean_mid (c z : UInt8) (t a : List UInt8) (e : c :: t = a ++ [z]) (hc : 33 ≤ c.toNat) (hz : 33 ≤ z.toNat) (hall : ∀ x ∈ c :: t, 32 ≤ x.toNat) : cleanV (c :: t) = c :: t := by
 have w : ∀ x : UInt8, 33 ≤ x.toNat → wsC x = false := fun x hx => by unfold wsC; rw [decide_eq_false]; omega
 have h1 : (c :: t).dropWhile wsC = c :: t := by rw [List.dropWhile_cons, w c hc]; rfl
 have h2 : (c :: t).reverse.dropWhile wsC = (c :: t).reverse := by
  rw [e, List.reverse_append, List.reverse_singleton, List.singleton_append, List.dropWhile_cons, w z hz]; rfl
 unfold cleanV trimV
 rw [h1, h2, List.reverse_reverse, List.filter_eq_self]
 intro x hx
 have := hall x hx
 unfold eyeC
 simp only [Bool.not_eq_true', Bool.or_eq_false_iff, beq_eq_false_iff_ne]
 refine ⟨?_, ?_, ?_⟩ <;> (intro e; subst e; revert this; decide)

theorem text_split (u : Adr) : textV u = (u.scheme ++ 58 :: rT u) ++ fT u := rfl

theorem bare_no35 {u : Adr} (h : Str u) (hg : Good3 u) : 35 ∉ u.scheme ++ 58 :: rT u := by
 have hq : 35 ∉ qT u := by
  unfold qT
  split
  ·intro e
   rcases List.mem_cons.1 e with e | e
   ·cases e
   ·have hm : 35 ∈ querV (specV u.scheme) u.query := by rw [h.pre.qry]; exact e
    unfold querV at hm
    have := pct_mem _ _ _ hm
    cases hs : specV u.scheme with
    | true => rw [hs] at this; exact absurd this (by decide)
    | false => rw [hs] at this; exact absurd this (by decide)
  ·simp
 have hpa : 35 ∉ pathT u := by
  cases ho : u.opq with
  | true =>
   obtain ⟨-, -, x, hx, -, -, -, h35⟩ := h.opq ho
   have : pathT u = x := by unfold pathT; rw [ho, hx]; simp
   rw [this]; exact h35
  | false =>
   have : pathT u = (if u.hasHost = false ∧ 1 < u.path.length ∧ u.path.head? = some [] then [47, 46] else []) ++ paT u := by unfold pathT paT; rw [ho]; rfl
   rw [this]
   intro e
   rcases List.mem_append.1 e with e | e
   ·split at e
    ·revert e; decide
    ·simp at e
   ·exact (pa_no h ho).2.2 e
 have hau : 35 ∉ authT u := by
  cases hh : u.hasHost with
  | true =>
   rw [authT_eq u hh]
   intro e
   simp at e
   exact (au_ne h.pre hg.pre.host 35 e).2.2.2 rfl
  | false => unfold authT; rw [hh]; simp
 intro e
 rcases List.mem_append.1 e with e | e
 ·have := h.pre.sch.1
  unfold schOk at this
  rw [Bool.and_eq_true] at this
  exact absurd (List.all_eq_true.1 this.2 35 e) (by decide)
 ·rcases List.mem_cons.1 e with e | e
  ·cases e
  ·unfold rT at e
   rcases List.mem_append.1 e with e | e
   ·exact hau e
   ·rcases List.mem_append.1 e with e | e
    ·exact hpa e
    ·exact hq e

theorem sch_no58 {u : Adr} (h : Str0 u) : 58 ∉ u.scheme ∧ ∃ c t, u.scheme = c :: t := by
 have := h.sch.1
 unfold schOk at this
 rw [Bool.and_eq_true] at this
 refine ⟨fun e => absurd (List.all_eq_true.1 this.2 58 e) (by decide), ?_⟩
 cases hs : u.scheme with
 | nil => rw [hs] at this; cases this.1
 | cons c t => exact ⟨c, t, rfl⟩

theorem clean_text {u : Adr} (h : Str u) (hg : Good3 u) (hl : u.opq = true → u.hasQuery = false → u.hasFragment = false → u.path.flatten.getLast? ≠ some 32) : cleanV (textV u) = textV u := by
 have see := text_see hg
 have s33 : ∀ c : UInt8, seeC c = true → 33 ≤ c.toNat := fun c hc => by unfold seeC at hc; rw [Bool.and_eq_true, decide_eq_true_iff] at hc; exact hc.1
 have s32 : ∀ c : UInt8, seeB c = true → 32 ≤ c.toNat := fun c hc => by unfold seeB at hc; rw [Bool.and_eq_true, decide_eq_true_iff] at hc; exact hc.1
 cases ho : u.opq with
 | false => exact w_clean_id _ fun c hc => s33 c ((see c hc).2 ho)
 | true =>
  obtain ⟨-, c, t, hs⟩ := sch_no58 h.pre
  obtain ⟨hh, -, x, hx, -, -, -, -⟩ := h.opq ho
  have hau : authT u = [] := by unfold authT; rw [hh]; rfl
  have hpt : pathT u = x := by unfold pathT; rw [ho, hx]; simp
  have hT : textV u = u.scheme ++ 58 :: (x ++ (qT u ++ fT u)) := by rw [text_split]; unfold rT; rw [hau, hpt]; simp
  have hlast : ∃ a z, 58 :: (x ++ (qT u ++ fT u)) = a ++ [z] ∧ 33 ≤ z.toNat := by
   have key : ∀ (l m : List UInt8), m ≠ [] → AllS m → ∃ a z, l ++ m = a ++ [z] ∧ 33 ≤ z.toNat := fun l m hm hs => by
    refine ⟨l ++ m.dropLast, m.getLast hm, ?_, s33 _ (hs _ (List.getLast_mem hm))⟩
    rw [List.append_assoc, List.dropLast_concat_getLast]
   by_cases hf : fT u = []
   ·by_cases hq : qT u = []
    ·have hq' : u.hasQuery = false := by
      cases e : u.hasQuery with
      | false => rfl
      | true => unfold qT at hq; rw [e] at hq; cases hq
     have hf' : u.hasFragment = false := by
      cases e : u.hasFragment with
      | false => rfl
      | true => unfold fT at hf; rw [e] at hf; cases hf
     have h32 := hl ho hq' hf'
     rw [hx] at h32
     simp only [List.flatten_cons, List.flatten_nil, List.append_nil] at h32
     rw [hq, hf, List.append_nil, List.append_nil]
     by_cases hx0 : x = []
     ·rw [hx0]; exact ⟨[], 58, rfl, by decide⟩
     ·refine ⟨58 :: x.dropLast, x.getLast hx0, by rw [List.cons_append, List.dropLast_concat_getLast], ?_⟩
      have h1 : 32 ≤ (x.getLast hx0).toNat := s32 _ (see _ (by rw [hT]; simp [List.getLast_mem hx0])).1
      have h2 : (x.getLast hx0) ≠ 32 := fun e => h32 (by rw [List.getLast?_eq_some_getLast hx0, e])
      have h3 : (x.getLast hx0).toNat ≠ 32 := fun e => h2 (UInt8.toNat_inj.1 e)
      omega
    ·rw [hf, List.append_nil, ← List.cons_append]
     refine key _ _ hq ?_
     unfold qT at hq ⊢
     split
     ·exact allS_cons (by decide) hg.pre.query
     ·exact allS_nil
   ·rw [← List.append_assoc, ← List.cons_append]
    refine key _ _ hf ?_
    unfold fT at hf ⊢
    split
    ·exact allS_cons (by decide) hg.pre.fragment
    ·exact allS_nil
  obtain ⟨a, z, hz, hz33⟩ := hlast
  have hT2 : textV u = c :: (t ++ 58 :: (x ++ (qT u ++ fT u))) := by rw [hT, hs]; rfl
  rw [hT2]
  refine clean_mid c z _ (u.scheme ++ a) ?_ ?_ hz33 ?_
  ·rw [← hT2, hT, hz, List.append_assoc]
  ·exact s33 c (hg.pre.scheme c (by rw [hs]; simp))
  ·intro y hy
   rw [← hT2] at hy
   exact s32 y (see y hy).1

theorem begin_text {u : Adr} (h : Str u) (hg : Good3 u) (hl : u.opq = true → u.hasQuery = false → u.hasFragment = false → u.path.flatten.getLast? ≠ some 32) : beginU (textV u) = (un0 u, rT u) := by
 have hp35 : part 35 (textV u) = (u.scheme ++ 58 :: rT u, u.fragment, u.hasFragment) := by
  rw [text_split]
  unfold fT
  cases hf : u.hasFragment with
  | true => simp only [if_true]; exact part_some 35 _ _ (bare_no35 h hg)
  | false =>
   simp only [Bool.false_eq_true, if_false]
   rw [List.append_nil, part_none 35 _ (bare_no35 h hg), hg.pre.noF hf]
 have hsch : schemeV (u.scheme ++ 58 :: rT u) = some (u.scheme, rT u) := by
  unfold schemeV
  rw [part_some 58 _ _ (sch_no58 h.pre).1]
  simp only
  rw [h.pre.sch.1, h.pre.sch.2]
  rfl
 unfold beginU
 simp only [clean_text h hg hl, hp35, hsch, Option.getD_some]
 unfold un0
 rw [h.pre.frg]

theorem text_read {u : Adr} (h : Str u) (hg : Good3 u) (hl : u.opq = true → u.hasQuery = false → u.hasFragment = false → u.path.flatten.getLast? ≠ some 32) (hlen : (textV u).length ≤ 4096) : readV (textV u) none = .ok u := by
 have hb := begin_text h hg hl
 obtain ⟨-, c, t, hs⟩ := sch_no58 h.pre
 unfold readV
 rw [if_neg (by omega), hb]
 simp only
 rw [if_neg (by show ¬ u.scheme = []; rw [hs]; simp)]
 exact start_back h hg

end Go.Proofs.YtamockkjbkibdaaGreatDoor

namespace Go.Proofs.YtamockkjbkibdaaGreatDoor
open Go.RowKit

theorem wpAnyH_to {P : Program} {md : Region.Mode} {ops : Array Oper} {Q : Exit → Act → World → Prop} {S : World → Prop} {fuel fuel' : Nat} {listed listed' : Array Bool} {a : Act} {w : World} (hf : fuel = fuel') (hl : listed = listed') (h : wpAnyH P md ops Q S fuel' listed' a w) : wpAnyH P md ops Q S fuel listed a w := by
 subst hf; subst hl; exact h

end Go.Proofs.YtamockkjbkibdaaGreatDoor

namespace Go.Proofs.YtamockkjbkibdaaGreatDoor
open Go.RowKit

theorem path_sl {w : World} {v : Value} {L : List (List UInt8)} (h : PathAt w v L) : IsSl v := by
 rcases h with ⟨rfl, _⟩ | ⟨b, cap, rfl, _⟩
 ·exact ⟨_, _, _, rfl⟩
 ·exact ⟨_, _, _, rfl⟩

theorem adr_cells (A : Adr) (a : Option Addr) (n c : Nat) : ∃ s0 s1 s2 s3 b4 i5 b6 s8 s9 b10 b11, adrCells A (.slice a n c) = [.string s0, .string s1, .string s2, .string s3, .bool b4, .int .i64 i5, .bool b6, .slice a n c, .string s8, .string s9, .bool b10, .bool b11] := ⟨_, _, _, _, _, _, _, _, _, _, _, rfl⟩

end Go.Proofs.YtamockkjbkibdaaGreatDoor

namespace Go.Proofs.YtamockkjbkibdaaGreatDoor
open Go.RowKit

theorem adr_twelve {W : World} {b : Nat} {A : Adr} {ua : Option Addr} {un uc : Nat} {u0 u1 u2 u3 : ByteArray} {u4 : Bool} {u5 : Int} {u6 : Bool} {u8 u9 : ByteArray} {u10 u11 : Bool} (hx : adrCells A (.slice ua un uc) = [.string u0, .string u1, .string u2, .string u3, .bool u4, .int .i64 u5, .bool u6, .slice ua un uc, .string u8, .string u9, .bool u10, .bool u11]) (h : AdrIn W b A (.slice ua un uc)) :
  W.cell? ⟨b, 0, none⟩ = some (.string u0) ∧ W.cell? ⟨b, 1, none⟩ = some (.string u1) ∧ W.cell? ⟨b, 2, none⟩ = some (.string u2) ∧ W.cell? ⟨b, 3, none⟩ = some (.string u3) ∧ W.cell? ⟨b, 4, none⟩ = some (.bool u4) ∧ W.cell? ⟨b, 5, none⟩ = some (.int .i64 u5) ∧ W.cell? ⟨b, 6, none⟩ = some (.bool u6) ∧ W.cell? ⟨b, 7, none⟩ = some (.slice ua un uc) ∧ W.cell? ⟨b, 8, none⟩ = some (.string u8) ∧ W.cell? ⟨b, 9, none⟩ = some (.string u9) ∧ W.cell? ⟨b, 10, none⟩ = some (.bool u10) ∧ W.cell? ⟨b, 11, none⟩ = some (.bool u11) := by
 have f : ∀ j v, [.string u0, .string u1, .string u2, .string u3, .bool u4, .int .i64 u5, .bool u6, .slice ua un uc, .string u8, .string u9, .bool u10, .bool u11][j]? = some v → W.cell? ⟨b, j, none⟩ = some v := fun j v hj => h.cell j v (by rw [hx]; exact hj)
 exact ⟨f 0 _ rfl, f 1 _ rfl, f 2 _ rfl, f 3 _ rfl, f 4 _ rfl, f 5 _ rfl, f 6 _ rfl, f 7 _ rfl, f 8 _ rfl, f 9 _ rfl, f 10 _ rfl, f 11 _ rfl⟩

end Go.Proofs.YtamockkjbkibdaaGreatDoor

namespace Go.Proofs.YtamockkjbkibdaaGreatDoor
open Go.RowKit

theorem portT_len (p : Int) : (portT p).length ≤ 6 := by
 have key : ∀ f u T, (deciN f u T).length ≤ f + T.length := by
  intro f
  induction f with
  | zero => intro u T; simp [deciN]
  | succ f ih =>
   intro u T
   rw [deciN]
   split
   ·simp; omega
   ·have := ih (u / 10) (UInt8.ofNat (48 + u % 10) :: T)
    rw [List.length_cons] at this
    omega
 exact key 6 p.toNat []

end Go.Proofs.YtamockkjbkibdaaGreatDoor

namespace Go.Proofs.YtamockkjbkibdaaGreatDoor
def rootU (u : Adr) (p : List UInt8) : Adr := { u with user := [], pass := [], path := [p], query := [], hasQuery := false, fragment := [], hasFragment := false }

structure SpU (u : Adr) : Prop where
 spec : specV u.scheme = true
 str : Str u
 good : Good3 u

theorem SpU.host {u : Adr} (h : SpU u) : u.host ≠ [] ∧ u.hasHost = true ∧ u.opq = false ∧ u.path ≠ [] := by
 obtain ⟨h1, h2, h3⟩ := h.good.special h.spec
 refine ⟨h1, ?_, h3, h2⟩
 cases e : u.hasHost with
 | true => rfl
 | false => exact absurd (h.str.pre.noh e).2.2.1 h1

def PartP (p : List UInt8) : Prop := Part2 p ∧ PartOk p ∧ 92 ∉ p

theorem partP_nil : PartP [] := ⟨⟨by decide, rfl, by simp⟩, part_nil, by simp⟩

theorem SpU.root {u : Adr} (h : SpU u) {q : List UInt8} (hq : PartP q) : SpU (rootU u q) := by
 obtain ⟨h1, h2, h3, h4⟩ := h.host
 refine ⟨h.spec, ⟨⟨h.str.pre.sch, rfl, rfl, ?_, rfl, fun e => ⟨(h.str.pre.hst h2).1, (h.str.pre.hst h2).2.1, fun e => absurd e h1⟩, fun e => ?_, h.str.pre.prt⟩, fun _ p hp => ?_, fun e => ?_, fun e => ?_⟩, ⟨⟨h.good.pre.scheme, allS_nil, allS_nil, h.good.pre.host, h.good.pre.port, allS_nil, allS_nil, fun _ => rfl, fun _ => rfl⟩, fun _ p hp => ?_, fun e => ?_, fun e => ⟨h1, by simp [rootU], h3⟩⟩⟩
 ·show querV (specV u.scheme) [] = []
  cases specV u.scheme <;> rfl
 ·have : u.hasHost = false := e
  rw [h2] at this; cases this
 ·have hp' : p ∈ ([q] : List (List UInt8)) := hp
  rw [List.mem_singleton] at hp'
  subst hp'
  exact ⟨hq.1, fun _ => hq.2.2⟩
 ·have : u.hasHost = false := e
  rw [h2] at this; cases this
 ·have : u.opq = true := e
  rw [h3] at this; cases this
 ·have hp' : p ∈ ([q] : List (List UInt8)) := hp
  rw [List.mem_singleton] at hp'
  subst hp'
  exact hq.2.1
 ·have : u.opq = true := e
  rw [h3] at this; cases this

theorem hasP_own {u : Adr} (h : Str u) : (hasP u = ownV u.scheme) = (u.port = -1) := by
 apply propext
 unfold hasP
 constructor
 ·intro e
  rcases h.pre.prt with h | ⟨h, _, h2⟩
  ·exact h
  ·rw [if_neg (by omega)] at e; exact absurd e h2
 ·intro e; rw [if_pos e]

theorem hasP_port {u : Adr} (h : Str u) (hs : specV u.scheme = true) : 0 ≤ hasP u ∧ hasP u ≤ 65535 := by
 unfold hasP
 have h2 : ownV u.scheme ≤ 65535 := by unfold ownV; repeat' split; all_goals omega
 have h3 : 0 ≤ ownV u.scheme := of_decide_eq_true hs
 rcases h.pre.prt with e | ⟨e, e2, _⟩
 ·rw [if_pos e]; exact ⟨h3, h2⟩
 ·rw [if_neg (by omega)]; exact ⟨e, e2⟩

theorem text_root {u : Adr} (h : SpU u) (q : List UInt8) : textO ⟨u.scheme, u.host, hasP u, false⟩ ++ 47 :: q = textV (rootU u q) := by
 obtain ⟨h1, h2, h3, h4⟩ := h.host
 have e2 : textV (rootU u q) = u.scheme ++ 58 :: ([47, 47] ++ u.host ++ (if u.port = -1 then [] else 58 :: portT u.port) ++ 47 :: q) := by
  unfold textV bareV authT pathT
  simp [rootU, h2, h3]
 rw [e2]
 unfold textO
 simp only [Bool.false_eq_true, if_false, hasP_own h.str]
 by_cases hp : u.port = -1
 ·simp [hp]
 ·have : hasP u = u.port := by unfold hasP; rw [if_neg hp]
  simp [hp, this]

theorem SpU.read {u : Adr} (h : SpU u) (hl : (textV u).length ≤ 4096) : readV (textV u) none = .ok u :=
 text_read h.str h.good (fun e => by rw [h.host.2.2.1] at e; cases e) hl

theorem spec_len {s : List UInt8} (h : specV s = true) : s.length ≤ 5 ∧ s ≠ sBlob := by
 unfold specV ownV at h
 split at h
 ·rename_i e; rcases e with rfl | rfl <;> decide
 ·split at h
  ·rename_i e; rcases e with rfl | rfl <;> decide
  ·split at h
   ·rename_i e; subst e; decide
   ·exact absurd h (by decide)

theorem inn_not {u : Adr} (h : u.scheme ≠ sBlob) : innV u = Adr.zero := by
 unfold innV; rw [if_neg (fun e => h e.1)]

theorem orgA_not {u : Adr} (h : u.scheme ≠ sBlob) : orgA u = u := by
 unfold orgA; rw [inn_not h]; rfl

theorem org_spec {u : Adr} (h : specV u.scheme = true) : orgV u = ⟨u.scheme, u.host, hasP u, false⟩ := by
 unfold orgV; rw [orgA_not (spec_len h).2, if_pos h]



end Go.Proofs.YtamockkjbkibdaaGreatDoor

namespace Go.Proofs.YtamockkjbkibdaaGreatDoor
theorem web_cases {s : List UInt8} (h : webV s = true) : s = sHttp ∨ s = sHttps := by
 unfold webV at h
 rw [Bool.or_eq_true] at h
 rcases h with h | h
 ·exact .inl (beq_iff_eq.1 h)
 ·exact .inr (beq_iff_eq.1 h)

theorem web_spec {s : List UInt8} (h : webV s = true) : specV s = true := by
 rcases web_cases h with rfl | rfl <;> decide

def wholeU (u : Adr) : Adr := { u with user := [], pass := [], fragment := [], hasFragment := false }

structure WebU (u : Adr) : Prop where
 web : webV u.scheme = true
 str : Str u
 good : Good3 u

theorem WebU.sp {u : Adr} (h : WebU u) : SpU u := ⟨web_spec h.web, h.str, h.good⟩

theorem WebU.host {u : Adr} (h : WebU u) : u.host ≠ [] ∧ u.hasHost = true ∧ u.opq = false ∧ u.path ≠ [] := h.sp.host

theorem WebU.whole {u : Adr} (h : WebU u) : WebU (wholeU u) := by
 obtain ⟨h1, h2, h3, h4⟩ := h.host
 refine ⟨h.web, ⟨⟨h.str.pre.sch, rfl, rfl, h.str.pre.qry, rfl, fun e => ⟨(h.str.pre.hst h2).1, (h.str.pre.hst h2).2.1, fun e => absurd e h1⟩, fun e => ?_, h.str.pre.prt⟩, h.str.par, fun e => ?_, fun e => ?_⟩, ⟨⟨h.good.pre.scheme, allS_nil, allS_nil, h.good.pre.host, h.good.pre.port, h.good.pre.query, allS_nil, h.good.pre.noQ, fun _ => rfl⟩, h.good.parts, fun e => ?_, h.good.special⟩⟩
 ·have : u.hasHost = false := e
  rw [h2] at this; cases this
 ·have : u.hasHost = false := e
  rw [h2] at this; cases this
 ·have : u.opq = true := e
  rw [h3] at this; cases this
 ·have : u.opq = true := e
  rw [h3] at this; cases this

theorem WebU.read {u : Adr} (h : WebU u) (hl : (textV u).length ≤ 4096) : readV (textV u) none = .ok u :=
 text_read h.str h.good (fun e => by rw [h.host.2.2.1] at e; cases e) hl

end Go.Proofs.YtamockkjbkibdaaGreatDoor

namespace Go.Proofs.YtamockkjbkibdaaGreatDoor
open Go.RowKit

def trS (u : Adr) (t : Bool) : Bool := if safeS u.scheme then true else if u.scheme = sBlob then t else nearV u.host

set_option maxHeartbeats 4000000 in
set_option maxRecDepth 100000 in
theorem trusted_step (u : Adr) (pv : Value) (w : World) (t : Bool) (hg : Gd w) (hp : PathAt w pv u.path) (hl : u.path.length ≤ 1000000) (hf : u.path.flatten.length ≤ 100000) (hh : u.host.length ≤ 1000000)
  (hb : u.scheme = sBlob → ∀ (qv : Value) (X : World), Gd X → PathAt X qv (innV u).path → Calls Tryz.prog 35 #[adrVal (innV u) qv] X fun e w' => e = .returned (.bool t) ∧ Below X.heap.size X w') :
  Calls Tryz.prog 35 #[adrVal u pv] w fun e w' => e = .returned (.bool (trS u t)) ∧ Below w.heap.size w w' := by
 have HIn := hid (fun (X : World) (hX : Gd X) (h : PathAt X pv u.path) => inner_own u pv X hX h hl hf)
 obtain ⟨da, dn, dc, rfl⟩ := path_sl hp
 obtain ⟨d0, d1, d2, d3, d4, d5, d6, d8, d9, d10, d11, hxd, hx0, hx3, -, -⟩ := adr_named u da dn dc
 have hvd : adrVal u (.slice da dn dc) = .agg #[.string d0, .string d1, .string d2, .string d3, .bool d4, .int .i64 d5, .bool d6, .slice da dn dc, .string d8, .string d9, .bool d10, .bool d11] := by unfold adrVal; rw [hxd]
 rw [hvd] at HIn ⊢
 obtain ⟨W1, hW1⟩ : ∃ X, (w.alloc (.cells #[.string d0, .string d1, .string d2, .string d3, .bool d4, .int .i64 d5, .bool d6, .slice da dn dc, .string d8, .string d9, .bool d10, .bool d11] 24)) = X := ⟨_, rfl⟩
 have hbW1 : Below w.heap.size w W1 := by rw [← hW1]; exact (Below.refl _ w).alloc (Nat.le_refl _) _
 have hsW1 : W1.heap.size = w.heap.size + 1 := by rw [← hW1]; simp
 have hAW1 : AdrIn W1 w.heap.size u (.slice da dn dc) := by
  unfold AdrIn
  rw [hxd, ← hW1]
  exact heap_alloc_new w _
 have HB1 := hid hbW1
 have HG1 := hid (hg.kept hbW1)
 have HP1 := hid (hp.kept hbW1)
 obtain ⟨y0, y1, y2, y3, y4, y5, y6, y7, y8, y9, y10, y11⟩ := adr_twelve hxd hAW1
 have HNe := hid (fun w => near_any d3 w (by rw [Lib.size_eq, hx3]; omega))
 rw [hx3] at HNe
 obtain ⟨q1, eq1⟩ : ∃ q, (d0.toList == [104, 116, 116, 112, 115]) = q := ⟨_, rfl⟩
 obtain ⟨q2, eq2⟩ : ∃ q, (d0.toList == [119, 115, 115]) = q := ⟨_, rfl⟩
 obtain ⟨q3, eq3⟩ : ∃ q, (d0.toList == [100, 97, 116, 97]) = q := ⟨_, rfl⟩
 obtain ⟨q4, eq4⟩ : ∃ q, (d0.toList == [97, 98, 111, 117, 116]) = q := ⟨_, rfl⟩
 obtain ⟨q5, eq5⟩ : ∃ q, (d0.toList == [98, 108, 111, 98]) = q := ⟨_, rfl⟩
 have HV := hid (show trS u t = if (q1 || (q2 || (q3 || q4))) then true else if q5 then t else nearV u.host by
  unfold trS safeS
  rw [← eq1, ← eq2, ← eq3, ← eq4, ← eq5, Lib.toList_data, hx0]
  by_cases h : u.scheme = sBlob
  ·simp [h, sHttps, sWss, sData, sAbout, sBlob]
  ·have : (u.scheme == [98, 108, 111, 98]) = false := beq_eq_false_iff_ne.2 h
   simp [h, this, sHttps, sWss, sData, sAbout])
 have HBl := hid (fun (h : q5 = true) => hb (by rw [h] at eq5; rw [← hx0, ← Lib.toList_data]; exact beq_iff_eq.1 eq5))
 clear hb hx0 hx3 hxd hvd hg hp hl hf hh hbW1 hAW1 hsW1
 cases q1 with
 | true =>
  go_enter Tryz.func35, Tryz.ntmps35
  go_wp2
  go_ret
  exact ⟨ret_bool (by rw [HV.out]; rfl), HB1.out⟩
 | false =>
  cases q2 with
  | true =>
   go_enter Tryz.func35, Tryz.ntmps35
   go_wp2
   go_ret
   exact ⟨ret_bool (by rw [HV.out]; rfl), HB1.out⟩
  | false =>
   cases q3 with
   | true =>
    go_enter Tryz.func35, Tryz.ntmps35
    go_wp2
    go_ret
    exact ⟨ret_bool (by rw [HV.out]; rfl), HB1.out⟩
   | false =>
    cases q4 with
    | true =>
     go_enter Tryz.func35, Tryz.ntmps35
     go_wp2
     go_ret
     exact ⟨ret_bool (by rw [HV.out]; rfl), HB1.out⟩
    | false =>
     cases q5 with
     | true =>
      go_enter Tryz.func35, Tryz.ntmps35
      go_wp2_with fail
      refine (HIn.out _ HG1.out HP1.out).mono ?_
      rintro e w2 ⟨qv, rfl, -, hb2, hp2⟩
      have HG2 := hid (HG1.out.kept hb2)
      have HB2 := hid (below2 HB1.out hb2)
      have HP2 := hid hp2
      clear hb2 hp2
      generalize innV u = V at HBl HP2 ⊢
      go_wp2_with fail
      refine (HBl.out trivial _ _ HG2.out HP2.out).mono ?_
      rintro e w3 ⟨rfl, hb3⟩
      go_wp2
      go_ret
      exact ⟨ret_bool (by rw [HV.out]; rfl), below2 HB2.out hb3⟩
     | false =>
      go_enter Tryz.func35, Tryz.ntmps35
      go_wp2_with fail
      refine (HNe.out _).mono ?_
      rintro e w2 ⟨rfl, hb2⟩
      go_wp2
      go_ret
      exact ⟨ret_bool (by rw [HV.out]; rfl), below2 HB1.out hb2⟩

def TrOk (u : Adr) : Prop := u.path.length ≤ 1000000 ∧ u.path.flatten.length ≤ 100000 ∧ u.host.length ≤ 1000000

theorem slim_tr {u : Adr} (h : Slim 20000 u) : TrOk u := by
 obtain ⟨h1, h2, h3, h4, h5, h6, h7, h8⟩ := h
 have a := slL_len u.path
 have b := slL_flat u.path
 exact ⟨by omega, by omega, by omega⟩

theorem inn_tr (u : Adr) : TrOk (innV u) := by
 unfold innV
 split
 ·cases hr : readV u.path.flatten none with
  | ok v => exact slim_tr (parse_slim hr)
  | error e => exact ⟨by simp [adrOf, Adr.zero], by simp [adrOf, Adr.zero], by simp [adrOf, Adr.zero]⟩
 ·exact ⟨by simp [Adr.zero], by simp [Adr.zero], by simp [Adr.zero]⟩

theorem trusted_n : ∀ (n : Nat) (u : Adr) (pv : Value) (w : World), mT u ≤ n → Gd w → PathAt w pv u.path → TrOk u →
  Calls Tryz.prog 35 #[adrVal u pv] w fun e w' => e = .returned (.bool (trN n u)) ∧ Below w.heap.size w w' := by
 intro n
 induction n with
 | zero =>
  intro u pv w hn hg hp ht
  have hne : u.scheme ≠ sBlob := fun h => by have := mT_inn h; omega
  have := trusted_step u pv w false hg hp ht.1 ht.2.1 ht.2.2 (fun h => absurd h hne)
  have e : trS u false = trN 0 u := by
   unfold trS trN
   cases safeS u.scheme with
   | true => rfl
   | false => rw [if_neg (by decide), if_neg hne]; rfl
  rw [e] at this
  exact this
 | succ n ih =>
  intro u pv w hn hg hp ht
  have := trusted_step u pv w (trN n (innV u)) hg hp ht.1 ht.2.1 ht.2.2 (fun h qv X hX hP => ih (innV u) qv X (by have := mT_inn h; omega) hX hP (inn_tr u))
  exact this

theorem trusted_any (u : Adr) (pv : Value) (w : World) (hg : Gd w) (hp : PathAt w pv u.path) (ht : TrOk u) :
  Calls Tryz.prog 35 #[adrVal u pv] w fun e w' => e = .returned (.bool (trustV u)) ∧ Below w.heap.size w w' := trusted_n _ u pv w (Nat.le_refl _) hg hp ht

end Go.Proofs.YtamockkjbkibdaaGreatDoor
