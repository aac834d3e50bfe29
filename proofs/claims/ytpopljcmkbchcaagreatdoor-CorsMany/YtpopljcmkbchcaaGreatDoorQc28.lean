/-
  Walks and plain facts that this claim leans on, put together out of 6 texts: Erub, Eruc, Erud, Erx, Ewb, Ewc.
-/
import Derived.Test.YtpopljcmkbchcaaGreatDoorProg
import Derived.Test.YtpopljcmkbchcaaGreatDoorQc1
import Derived.Test.YtpopljcmkbchcaaGreatDoorQc2
import Derived.Test.YtpopljcmkbchcaaGreatDoorQc8
import Derived.Test.YtpopljcmkbchcaaGreatDoorQc9
import Derived.Test.YtpopljcmkbchcaaGreatDoorQc10
import Derived.Test.YtpopljcmkbchcaaGreatDoorQc11
import Derived.Test.YtpopljcmkbchcaaGreatDoorQc12
import Derived.Test.YtpopljcmkbchcaaGreatDoorQc16
import Derived.Test.YtpopljcmkbchcaaGreatDoorQc20
import Derived.Test.YtpopljcmkbchcaaGreatDoorQc22
import Derived.Test.YtpopljcmkbchcaaGreatDoorQc23
import Derived.Test.YtpopljcmkbchcaaGreatDoorQc27
import Derived.Lib.IndexMore
import Derived.Lib.Join
import Derived.Lib.LastIndexByte
import Derived.WalkKit
import Derived.Lib.Strings
import Derived.Lib.UnsafeStr
import Derived.Laws.IdiomStrings
import Derived.Laws.AppendOwn
import Derived.Laws.BitsAllLaws
import Derived.Lib.Bytealg
import Derived.Lib.BufferMore
import Derived.LoopN
import Derived.RegionTactic
import Derived.Deep.RegionWith
import Derived.Deep.QuietTactic
import Derived.BigQuiet
import Derived.Laws.OwnMore
import Derived.Shelf.Strings.Builder1
import Derived.Shelf.Strings.Builder2
import Derived.Shelf.Strings.OnBuilder
import Derived.Shelf.Strings.Trim
import Derived.Shelf.Small.Utf8
import Derived.Shelf.Small.Bits
import Derived.Shelf.Small.Strs
import Derived.Shelf.Small.Wraps
import Derived.Shelf.Strings.BuilderF
import Derived.Shelf.Strings.BuilderK
import Derived.Shelf.Strings.BuilderRune
import Derived.Shelf.Utf8.AppendRune
import Derived.Shelf.Utf8.AppendRunePlain
import Derived.Shelf.Strings.Builder2Cap
import Derived.Shelf.Strconv.Itoa0
import Derived.Shelf.Strconv.Itoa1
import Derived.Shelf.LaysM
import Derived.Shelf.Strconv.Itoa2
import Derived.Shelf.Strconv.Itoa3
import Derived.Shelf.Strings.Search1
import Derived.Shelf.Strings.Search2
import Derived.Shelf.Strings.Cut
import Derived.Shelf.Strings.Shaped
import Derived.Shelf.Sort.Plain
import Derived.Shelf.Strings.Prefix
import Derived.Shelf.Unicode.Latin
import Derived.Shelf.Strings.Runes
import Derived.Shelf.Strings.IndexAny
import Derived.Shelf.Strings.AsciiSet
import Derived.Shelf.Strings.IndexAnyAll
import Derived.Shelf.Unicode.DecodeSlow
import Derived.Shelf.Unicode.DecodeAny
import Derived.Shelf.Unicode.DecodeLast
import Derived.Shelf.Unicode.CaseLookup
import Derived.Shelf.Unicode.CaseConvert
import Derived.Shelf.Unicode.CaseTo
import Derived.Shelf.Unicode.CaseLaid
import Derived.Shelf.Slices.CompactS
import Derived.Shelf.Slices.In.SortNone
import Derived.Scope
import Derived.ScopeJumps
import Derived.WalkMore
import Derived.Lib.IndexAny
import Derived.Lib.Replace
import Derived.Lib.TrimByte
import Derived.Lib.ItoaNum
import Derived.Laws.RangeAny
import Derived.Lib.DecodeN
import Derived.Lib.OthersKept
import Derived.Deep.LoopGhost
import Derived.Laws.BytesString
import Derived.Deep.WholeRow
import Derived.BigRegion
import Derived.Lib.AppendStr
import Derived.Deep.RegionHeld
import Derived.WalkSpells
import Derived.WalkLawsBesides
import Derived.Lib.AppendIntMem
import Derived.Lib.SmallJoins
import Derived.WalkSmall
import Derived.OwnWalk
import Derived.Laws.CopyOwn
import Derived.Laws.ResultCell
import Derived.Deep.MidRow
import Derived.Lib.FrozenHead2
import Derived.Lib.Builder
import Derived.Deep.RegionLaw
import Derived.Lib.SlTrimSet
import Derived.Deep.Cut
import Derived.Deep.CutRange
import Derived.Lib.BufferRead
import Derived.Lib.RuneBytes
import Derived.Laws.AppendOwnNone
import Derived.Below
import Derived.Shelf.Strings.SlTrimAscii
import Derived.Laws.Runes
set_option linter.unusedSimpArgs false
set_option linter.unusedVariables false

namespace Go.Proofs.YtpopljcmkbchcaaGreatDoor
theorem deci_facts : ∀ (f n : Nat) (acc : List UInt8), n < 10 ^ f → 0 < f → n ≤ 65535 → ∃ X, deciN f n acc = X ++ acc ∧ X ≠ [] ∧ X.all digP = true ∧ numI X = (n : Int)
 | 0, n, acc, _, h, _ => absurd h (by omega)
 | f + 1, n, acc, hn, _, hb => by
  rw [deciN]
  by_cases h : n < 10
  ·rw [if_pos h]
   have hv := decC_val n h
   refine ⟨[decC n], rfl, by simp, by simpa using hv.2, ?_⟩
   have := numI_snoc [] (decC n)
   rw [List.nil_append] at this
   rw [this, hv.1]
   unfold ten
   rw [if_neg]
   ·simp [numI]
   ·show ¬ (9223372036854775807 - (n : Int)) / 10 < numI []
    have : numI [] = 0 := rfl
    rw [this]; omega
  ·rw [if_neg h]
   have hf : 0 < f := by
    rcases Nat.eq_zero_or_pos f with rfl | hf
    ·simp at hn; omega
    ·exact hf
   obtain ⟨X, h1, h2, h3, h4⟩ := deci_facts f (n / 10) (UInt8.ofNat (48 + n % 10) :: acc) (by rw [Nat.pow_succ] at hn; omega) hf (by omega)
   have hv := decC_val (n % 10) (by omega)
   refine ⟨X ++ [decC (n % 10)], ?_, by simp, ?_, ?_⟩
   ·rw [h1]; simp [decC]
   ·rw [List.all_append, h3]; simpa using hv.2
   ·rw [numI_snoc, h4, hv.1]
    unfold ten
    rw [if_neg (by omega)]
    omega

theorem portT_dec (p : Int) (h0 : 0 ≤ p) (h1 : p ≤ 65535) : portT p ≠ [] ∧ (portT p).all digP = true ∧ numI (portT p) = p := by
 obtain ⟨n, rfl⟩ := Int.eq_ofNat_of_zero_le h0
 obtain ⟨X, e, h2, h3, h4⟩ := deci_facts 6 n [] (by omega) (by omega) (by omega)
 have : portT (n : Int) = X := by unfold portT; rw [Int.toNat_natCast, e, List.append_nil]
 rw [this]
 exact ⟨h2, h3, h4⟩

theorem portV_back (own p : Int) (h0 : 0 ≤ p) (h1 : p ≤ 65535) (hne : p ≠ own) : portV own (portT p) = some p := by
 obtain ⟨a, b, c⟩ := portT_dec p h0 h1
 have he : (portT p).isEmpty = false := by
  cases h : portT p with
  | nil => exact absurd h a
  | cons x r => rfl
 have e1 : intOk (portT p) = true := by unfold intOk; rw [b, he]; rfl
 have e2 : intV (portT p) = p := by unfold intV; rw [b, he]; exact c
 unfold portV
 rw [if_neg a, e1, e2, decide_eq_true h1]
 simp [hne]

theorem dig_ne {c : UInt8} (h : digP c = true) : c ≠ 58 ∧ c ≠ 91 ∧ c ≠ 64 ∧ c ≠ 47 ∧ c ≠ 63 ∧ c ≠ 92 ∧ c ≠ 35 := by
 refine ⟨?_, ?_, ?_, ?_, ?_, ?_, ?_⟩ <;> (rintro rfl; exact absurd h (by decide))

theorem p6_ne {l : List UInt8} (h : pct 6 l = l) {c : UInt8} (hc : c ∈ l) : c ≠ 58 ∧ c ≠ 64 ∧ c ≠ 47 ∧ c ≠ 63 ∧ c ≠ 92 ∧ c ≠ 35 := by
 have := pct_mem 6 l c (by rw [h]; exact hc)
 refine ⟨?_, ?_, ?_, ?_, ?_, ?_⟩ <;> (rintro rfl; exact absurd this (by decide))

theorem ho_ne {c : UInt8} (h : hoC c = true) : c ≠ 64 ∧ c ≠ 47 ∧ c ≠ 63 ∧ c ≠ 92 ∧ c ≠ 35 := by
 refine ⟨?_, ?_, ?_, ?_, ?_⟩ <;> (rintro rfl; exact absurd h (by decide))

def ptT (p : Int) : List UInt8 := if p = -1 then [] else 58 :: portT p

def crT (a b : List UInt8) : List UInt8 := a ++ (if b = [] then [] else 58 :: b)

def auT (u : Adr) : List UInt8 := crT u.user u.pass ++ (if u.user = [] ∧ u.pass = [] then [] else [64]) ++ u.host ++ ptT u.port

theorem authT_eq (u : Adr) (h : u.hasHost = true) : authT u = 47 :: 47 :: auT u := by
 unfold authT auT crT ptT
 rw [if_pos h]
 simp

theorem pt_dig {p : Int} (hp : p = -1 ∨ (0 ≤ p ∧ p ≤ 65535)) : ∀ c ∈ ptT p, c = 58 ∨ digP c = true := by
 unfold ptT
 rcases hp with rfl | ⟨h0, h1⟩
 ·rw [if_pos rfl]; simp
 ·split
  ·simp
  ·intro c hc
   rcases List.mem_cons.1 hc with rfl | hc
   ·exact .inl rfl
   ·exact .inr (List.all_eq_true.1 (portT_dec p h0 h1).2.1 c hc)

theorem prt2 {u : Adr} (h : Str0 u) : u.port = -1 ∨ (0 ≤ u.port ∧ u.port ≤ 65535) := h.prt.imp id fun x => ⟨x.1, x.2.1⟩

theorem cr_ne {a b : List UInt8} (ha : pct 6 a = a) (hb : pct 6 b = b) : ∀ c ∈ crT a b, c ≠ 64 ∧ c ≠ 47 ∧ c ≠ 63 ∧ c ≠ 92 ∧ c ≠ 35 := by
 unfold crT
 intro c hc
 rcases List.mem_append.1 hc with hc | hc
 ·exact (p6_ne ha hc).2
 ·split at hc
  ·simp at hc
  ·rcases List.mem_cons.1 hc with rfl | hc
   ·decide
   ·exact (p6_ne hb hc).2

theorem au_ne {u : Adr} (h : Str0 u) (hg : ∀ c ∈ u.host, hoC c = true) : ∀ c ∈ auT u, c ≠ 47 ∧ c ≠ 63 ∧ c ≠ 92 ∧ c ≠ 35 := by
 unfold auT
 intro c hc
 rcases List.mem_append.1 hc with hc | hc
 ·rcases List.mem_append.1 hc with hc | hc
  ·rcases List.mem_append.1 hc with hc | hc
   ·exact (cr_ne h.usr h.pas c hc).2
   ·split at hc
    ·simp at hc
    ·obtain rfl := List.mem_singleton.1 hc; decide
  ·exact (ho_ne (hg c hc)).2
 ·rcases pt_dig (prt2 h) c hc with rfl | hd
  ·decide
  ·exact ⟨(dig_ne hd).2.2.2.1, (dig_ne hd).2.2.2.2.1, (dig_ne hd).2.2.2.2.2.1, (dig_ne hd).2.2.2.2.2.2⟩

theorem auth_back {u : Adr} (h : Str0 u) (hh : u.hasHost = true) (hg : ∀ c ∈ u.host, hoC c = true) : authV u.scheme (auT u) = .ok (u.user, u.pass, u.host, u.port) := by
 obtain ⟨hpv, hcol, hemp⟩ := h.hst hh
 have hpt := pt_dig (prt2 h)
 have h64 : 64 ∉ u.host ++ ptT u.port := fun e => by
  rcases List.mem_append.1 e with e | e
  ·exact (ho_ne (hg 64 e)).1 rfl
  ·rcases hpt 64 e with e | e
   ·cases e
   ·exact (dig_ne e).2.2.1 rfl
 have hat : atV (auT u) = (crT u.user u.pass, u.host ++ ptT u.port) := by
  unfold auT
  by_cases hc : u.user = [] ∧ u.pass = []
  ·rw [if_pos hc, hc.1, hc.2]
   show atV ((([] ++ []) ++ []) ++ u.host ++ ptT u.port) = _
   simp only [List.nil_append, crT]
   exact at_none _ h64
  ·rw [if_neg hc, List.append_assoc, List.append_assoc, List.singleton_append]
   exact at_some _ _ h64
 have hcl : colV (u.host ++ ptT u.port) = u.host.length := by
  refine col_host _ _ hcol ?_
  unfold ptT
  rcases prt2 h with e | ⟨h0, h1⟩
  ·exact .inl (by rw [if_pos e])
  ·split
   ·exact .inl rfl
   ·exact .inr ⟨_, rfl, fun c hc => ⟨(dig_ne (List.all_eq_true.1 (portT_dec _ h0 h1).2.1 c hc)).1, (dig_ne (List.all_eq_true.1 (portT_dec _ h0 h1).2.1 c hc)).2.1⟩⟩
 have hpo : portV (ownV u.scheme) ((ptT u.port).drop 1) = some u.port := by
  unfold ptT
  rcases h.prt with e | ⟨h0, h1, h2⟩
  ·rw [if_pos e, e]; rfl
  ·rw [if_neg (by omega)]
   exact portV_back _ _ h0 h1 h2
 have hpa : part 58 (crT u.user u.pass) = (u.user, u.pass, decide (u.pass ≠ [])) := by
  have hu : 58 ∉ u.user := fun e => (p6_ne h.usr e).1 rfl
  unfold crT
  by_cases hp : u.pass = []
  ·rw [if_pos hp, List.append_nil, part_none 58 _ hu, hp]; rfl
  ·rw [if_neg hp, part_some 58 _ _ hu]; simp [hp]
 have hdr : ((atV (auT u)).2.drop (colV (atV (auT u)).2)).drop 1 = (ptT u.port).drop 1 := by rw [hat]; show ((u.host ++ ptT u.port).drop (colV (u.host ++ ptT u.port))).drop 1 = _; rw [hcl, List.drop_left]
 have htk : (atV (auT u)).2.take (colV (atV (auT u)).2) = u.host := by rw [hat]; show (u.host ++ ptT u.port).take (colV (u.host ++ ptT u.port)) = _; rw [hcl, List.take_left]
 have hfst : (atV (auT u)).1 = crT u.user u.pass := by rw [hat]
 have := auth_ok (sc := u.scheme) (s := auT u) (h := u.host) (p := u.port) (by rw [hdr]; exact hpo) (by rw [htk]; exact hpv) (by
  rw [hdr, hfst, hpa]
  rintro ⟨e0, e1⟩
  obtain ⟨g1, g2, g3⟩ := hemp e0
  simp only at e1
  rw [h.usr, h.pas] at e1
  rcases e1 with e1 | e1 | e1
  ·exact e1 g1
  ·exact e1 g2
  ·apply e1; unfold ptT; rw [if_pos g3]; rfl)
 rw [hfst, hpa] at this
 simp only at this
 rw [h.usr, h.pas] at this
 exact this

end Go.Proofs.YtpopljcmkbchcaaGreatDoor

namespace Go.Proofs.YtpopljcmkbchcaaGreatDoor
def qT (u : Adr) : List UInt8 := if u.hasQuery then 63 :: u.query else []

def fT (u : Adr) : List UInt8 := if u.hasFragment then 35 :: u.fragment else []

def rT (u : Adr) : List UInt8 := authT u ++ (pathT u ++ qT u)

def paT (u : Adr) : List UInt8 := u.path.flatMap (fun p => 47 :: p)

def un0 (u : Adr) : Adr := ⟨u.scheme, [], [], [], false, -1, false, [], [], u.fragment, false, u.hasFragment⟩

theorem qT_form (u : Adr) : qT u = [] ∨ ∃ q, qT u = 63 :: q := by
 unfold qT
 split
 ·exact .inr ⟨_, rfl⟩
 ·exact .inl rfl

theorem wq_back {u v : Adr} (h : Str0 u) (hn : u.hasQuery = false → u.query = []) (hs : v.scheme = u.scheme) (hv : v.query = [] ∧ v.hasQuery = false) : withQuery v (qT u) = { v with query := u.query, hasQuery := u.hasQuery } := by
 unfold withQuery qT
 cases hq : u.hasQuery with
 | true =>
  rw [if_neg (by simp)]
  simp only [if_true, List.drop_succ_cons, List.drop_zero]
  rw [hs, h.qry]
 | false =>
  simp only [Bool.false_eq_true, if_false]
  rw [hn hq]
  obtain ⟨a, b⟩ := hv
  cases v
  simp_all

theorem pa_no {u : Adr} (h : Str u) (ho : u.opq = false) : 63 ∉ paT u ∧ (specV u.scheme = true → 92 ∉ paT u) ∧ 35 ∉ paT u := by
 have h5 : ∀ (x : UInt8) (p : List UInt8), Part2 p → inSetI x.toNat 5 = true → x ∉ p := fun x p hp hx e => by
  have := pct_mem 5 p x (by rw [hp.2.1]; exact e)
  rw [hx] at this; cases this
 refine ⟨fun e => ?_, fun hs e => ?_, fun e => ?_⟩
 ·obtain ⟨p, hp, e⟩ := List.mem_flatMap.1 e
  rcases List.mem_cons.1 e with e | e
  ·cases e
  ·exact h5 63 p (h.par ho p hp).1 (by decide) e
 ·obtain ⟨p, hp, e⟩ := List.mem_flatMap.1 e
  rcases List.mem_cons.1 e with e | e
  ·cases e
  ·exact (h.par ho p hp).2 hs e
 ·obtain ⟨p, hp, e⟩ := List.mem_flatMap.1 e
  rcases List.mem_cons.1 e with e | e
  ·cases e
  ·exact h5 35 p (h.par ho p hp).1 (by decide) e

theorem wp_back {u v : Adr} (h : Str u) (hg : Good3 u) (ho : u.opq = false) (hs : v.scheme = u.scheme) (hv : v.query = [] ∧ v.hasQuery = false) : withPath v [] (paT u ++ qT u) = { v with path := u.path, query := u.query, hasQuery := u.hasQuery } := by
 unfold withPath
 rw [ahead_q _ _ (pa_no h ho).1 (qT_form u)]
 simp only
 have hp : pathV (specV v.scheme) [] (paT u) = u.path := by rw [hs]; exact path_back _ _ (fun p hp => (h.par ho p hp).1) (fun hsp => (hg.special hsp).2.1)
 rw [hp]
 exact wq_back (v := { v with path := u.path }) h.pre hg.pre.noQ hs hv

theorem ahead_au {u : Adr} (h : Str0 u) (hg : ∀ c ∈ u.host, hoC c = true) : aheadV [47, 63] (auT u ++ (paT u ++ qT u)) = (auT u, paT u ++ qT u) := by
 have hno : ∀ c ∈ auT u, c ∉ ([47, 63] : List UInt8) := fun c hc => by
  have := au_ne h hg c hc
  simp [this.1, this.2.1]
 unfold paT
 cases hp : u.path with
 | nil =>
  rw [List.flatMap_nil, List.nil_append]
  rcases qT_form u with e | ⟨q, e⟩
  ·rw [e, List.append_nil]; exact ahead_all _ _ hno
  ·rw [e]; exact ahead_at _ _ _ _ hno (by simp)
 | cons p L =>
  rw [List.flatMap_cons, List.cons_append, List.cons_append]
  exact ahead_at _ _ _ _ hno (by simp)

theorem wa_back {u : Adr} (h : Str u) (hg : Good3 u) (hh : u.hasHost = true) (ho : u.opq = false) : withAuth (un0 u) (auT u ++ (paT u ++ qT u)) = .ok u := by
 unfold withAuth
 rw [ahead_au h.pre hg.pre.host]
 simp only
 rw [show (un0 u).scheme = u.scheme from rfl, auth_back h.pre hh hg.pre.host]
 simp only
 refine (congrArg Except.ok (wp_back (v := (⟨u.scheme, u.user, u.pass, u.host, true, u.port, false, [], [], u.fragment, false, u.hasFragment⟩ : Adr)) h hg ho rfl ⟨rfl, rfl⟩)).trans ?_
 cases u
 simp_all

theorem start_back {u : Adr} (h : Str u) (hg : Good3 u) : startV (un0 u) (rT u) = .ok u := by
 have hus : (un0 u).scheme = u.scheme := rfl
 cases hh : u.hasHost with
 | true =>
  have ho : u.opq = false := by
   cases e : u.opq with
   | false => rfl
   | true => have := (h.opq e).1; rw [hh] at this; cases this
  have hpt : pathT u = paT u := by unfold pathT paT; simp [ho, hh]
  have hR : rT u = 47 :: 47 :: (auT u ++ (paT u ++ qT u)) := by unfold rT; rw [authT_eq u hh, hpt]; simp
  have hau := au_ne h.pre hg.pre.host
  unfold startV
  rw [hus, hR]
  cases hsp : specV u.scheme with
  | true =>
   rw [if_pos rfl]
   have hM : slashV (47 :: 47 :: (auT u ++ (paT u ++ qT u))) = 47 :: 47 :: (auT u ++ (paT u ++ qT u)) := by
    have e : 47 :: 47 :: (auT u ++ (paT u ++ qT u)) = (47 :: 47 :: (auT u ++ paT u)) ++ qT u := by simp
    have h63 : 63 ∉ (47 :: 47 :: (auT u ++ paT u) : List UInt8) := fun e => by
     simp at e
     rcases e with e | e
     ·exact (hau 63 e).2.1 rfl
     ·exact (pa_no h ho).1 e
    have h92 : 92 ∉ (47 :: 47 :: (auT u ++ paT u) : List UInt8) := fun e => by
     simp at e
     rcases e with e | e
     ·exact (hau 92 e).2.2.1 rfl
     ·exact (pa_no h ho).2.1 hsp e
    rw [e]
    unfold slashV
    rw [ahead_q _ _ h63 (qT_form u)]
    simp only
    rw [slC_none _ h92]
   have hsk : skip47 (47 :: 47 :: (auT u ++ (paT u ++ qT u))) = auT u ++ (paT u ++ qT u) := by
    unfold skip47
    rw [List.dropWhile_cons, if_pos (by decide), List.dropWhile_cons, if_pos (by decide)]
    cases ha : auT u with
    | nil =>
     have : u.host = [] := by
      unfold auT at ha
      exact (List.append_eq_nil_iff.1 (List.append_eq_nil_iff.1 ha).1).2
     exact absurd this (hg.special hsp).1
    | cons c t =>
     rw [List.cons_append, List.dropWhile_cons, if_neg]
     have := (hau c (by rw [ha]; simp)).1
     simpa using this
   rw [hM, hsk]
   exact wa_back h hg hh ho
  | false =>
   rw [if_neg (by simp), if_pos (by unfold Lib.hasPrefix; simp)]
   exact wa_back h hg hh ho
 | false =>
  obtain ⟨n1, n2, n3, n4⟩ := h.pre.noh hh
  have hsp : specV u.scheme = false := by
   cases e : specV u.scheme with
   | false => rfl
   | true => exact absurd n3 (hg.special e).1
  have hau : authT u = [] := by unfold authT; rw [hh]; rfl
  have hR : rT u = pathT u ++ qT u := by unfold rT; rw [hau]; rfl
  unfold startV
  rw [hus, hsp, if_neg (by simp), hR]
  cases ho : u.opq with
  | true =>
   obtain ⟨-, -, x, hx, hx1, hx2, hx3, hx4⟩ := h.opq ho
   have hpt : pathT u = x := by unfold pathT; rw [ho, hx]; simp
   have hno : ∀ l : List UInt8, l.head? ≠ some 47 → Lib.hasPrefix l [47] = false ∧ Lib.hasPrefix l [47, 47] = false := by
    intro l hl
    cases l with
    | nil => exact ⟨rfl, rfl⟩
    | cons c l =>
     have : c ≠ 47 := by simpa using hl
     constructor
     ·show ([47] : List UInt8).isPrefixOf (c :: l) = false
      simp [List.isPrefixOf, this.symm]
     ·show ([47, 47] : List UInt8).isPrefixOf (c :: l) = false
      simp [List.isPrefixOf, this.symm]
   have hhd : (x ++ qT u).head? ≠ some 47 := by
    cases x with
    | nil =>
     rcases qT_form u with e | ⟨q, e⟩ <;> rw [List.nil_append, e] <;> simp
    | cons c x => simpa using hx2
   rw [hpt, (hno _ hhd).2, if_neg (by simp), (hno _ hhd).1, if_neg (by simp), ahead_q _ _ hx3 (qT_form u)]
   simp only
   rw [hx1]
   refine (congrArg Except.ok (wq_back (v := (⟨u.scheme, [], [], [], false, -1, true, [x], [], u.fragment, false, u.hasFragment⟩ : Adr)) h.pre hg.pre.noQ rfl ⟨rfl, rfl⟩)).trans ?_
   cases u
   simp_all
  | false =>
   have hne := h.pne hh ho
   have hfin : ({ un0 u with path := u.path, query := u.query, hasQuery := u.hasQuery } : Adr) = u := by
    cases u
    simp_all [un0]
   by_cases hd : 1 < u.path.length ∧ u.path.head? = some []
   ·have hpt : pathT u = 47 :: 46 :: paT u := by unfold pathT paT; simp [ho, hh, hd]
    rw [hpt]
    show (if Lib.hasPrefix (47 :: 46 :: (paT u ++ qT u)) [47, 47] = true then _ else if Lib.hasPrefix (47 :: 46 :: (paT u ++ qT u)) [47] = true then Except.ok (withPath (un0 u) [] (47 :: 46 :: (paT u ++ qT u))) else _) = _
    rw [if_neg (by unfold Lib.hasPrefix; simp), if_pos (by unfold Lib.hasPrefix; simp)]
    congr 1
    unfold withPath
    have e : 47 :: 46 :: (paT u ++ qT u) = (47 :: 46 :: paT u) ++ qT u := by simp
    rw [e, ahead_q _ _ (fun e => by simp at e; exact (pa_no h ho).1 e) (qT_form u)]
    simp only
    have hp : pathV (specV (un0 u).scheme) [] (47 :: 46 :: paT u) = u.path := by
     unfold pathV
     rw [if_neg (by simp)]
     have ho1 : over1 (47 :: 46 :: paT u) = [46] ++ paT u := by simp [over1]
     rw [ho1]
     unfold paT
     rw [cut_back [46] u.path (by decide) (fun p hp => (h.par ho p hp).1), pathL_more [] [46] u.path hne, stepP1 d_1.1, pathL_back _ _ (fun p hp => (h.par ho p hp).1), List.nil_append]
    rw [hp]
    exact (wq_back (v := (⟨u.scheme, [], [], [], false, -1, false, u.path, [], u.fragment, false, u.hasFragment⟩ : Adr)) h.pre hg.pre.noQ rfl ⟨rfl, rfl⟩).trans hfin
   ·have hpt : pathT u = paT u := by unfold pathT paT; rw [ho, hh]; simp [hd]
    rw [hpt]
    have hform : ∃ t, paT u ++ qT u = 47 :: t ∧ t.head? ≠ some 47 := by
     unfold paT
     cases hp : u.path with
     | nil => exact absurd hp hne
     | cons p L =>
      refine ⟨p ++ L.flatMap (fun p => 47 :: p) ++ qT u, by simp, ?_⟩
      cases p with
      | nil =>
       have hL : L = [] := by
        cases L with
        | nil => rfl
        | cons q L => exact absurd ⟨by rw [hp]; simp, by rw [hp]; rfl⟩ hd
       subst hL
       rcases qT_form u with e | ⟨q, e⟩ <;> rw [e] <;> simp
      | cons c p =>
       have := (h.par ho (c :: p) (by rw [hp]; simp)).1.2.2
       simp at this ⊢
       exact fun e => this.1 e.symm
    obtain ⟨t, ht, ht2⟩ := hform
    have h2 : Lib.hasPrefix (paT u ++ qT u) [47, 47] = false := by
     rw [ht]
     cases t with
     | nil => rfl
     | cons c t =>
      have : c ≠ 47 := by simpa using ht2
      show ([47, 47] : List UInt8).isPrefixOf (47 :: c :: t) = false
      simp [List.isPrefixOf, this.symm]
    have h1 : Lib.hasPrefix (paT u ++ qT u) [47] = true := by rw [ht]; unfold Lib.hasPrefix; simp
    rw [h2, if_neg (by simp), h1, if_pos rfl, wp_back (v := un0 u) h hg ho rfl ⟨rfl, rfl⟩, hfin]

end Go.Proofs.YtpopljcmkbchcaaGreatDoor

namespace Go.Proofs.YtpopljcmkbchcaaGreatDoor
theorem clean_mid (c z : UInt8) (t a : List UInt8) (e : c :: t = a ++ [z]) (hc : 33 ≤ c.toNat) (hz : 33 ≤ z.toNat) (hall : ∀ x ∈ c :: t, 32 ≤ x.toNat) : cleanV (c :: t) = c :: t := by
 have w : ∀ x : UInt8, 33 ≤ x.toNat → wsC x = false := fun x hx => by unfold wsC; rw [decide_eq_false]; omega
 have h1 : (c :: t).dropWhile wsC = c :: t := by rw [List.dropWhile_cons, w c hc]; rfl
 have h2 : (c :: t).reverse.dropWhile wsC = (c :: t).reverse := by
  rw [e, List.reverse_append, List.reverse_singleton, List.singleton_append, List.dropWhile_cons, w z hz]; rfl
 unfold cleanV trimV
 rw [h1, h2, List.reverse_reverse, List.filter_eq_self]
 intro x hx
 have := hall x hx
 unfold eyeC
 simp only [Bool.not_eq_true', Bool.or_eq_false_iff, beq_eq_false_iff_ne]
 refine ⟨?_, ?_, ?_⟩ <;> (intro e; subst e; revert this; decide)

theorem text_split (u : Adr) : textV u = (u.scheme ++ 58 :: rT u) ++ fT u := rfl

theorem bare_no35 {u : Adr} (h : Str u) (hg : Good3 u) : 35 ∉ u.scheme ++ 58 :: rT u := by
 have hq : 35 ∉ qT u := by
  unfold qT
  split
  ·intro e
   rcases List.mem_cons.1 e with e | e
   ·cases e
   ·have hm : 35 ∈ querV (specV u.scheme) u.query := by rw [h.pre.qry]; exact e
    unfold querV at hm
    have := pct_mem _ _ _ hm
    cases hs : specV u.scheme with
    | true => rw [hs] at this; exact absurd this (by decide)
    | false => rw [hs] at this; exact absurd this (by decide)
  ·simp
 have hpa : 35 ∉ pathT u := by
  cases ho : u.opq with
  | true =>
   obtain ⟨-, -, x, hx, -, -, -, h35⟩ := h.opq ho
   have : pathT u = x := by unfold pathT; rw [ho, hx]; simp
   rw [this]; exact h35
  | false =>
   have : pathT u = (if u.hasHost = false ∧ 1 < u.path.length ∧ u.path.head? = some [] then [47, 46] else []) ++ paT u := by unfold pathT paT; rw [ho]; rfl
   rw [this]
   intro e
   rcases List.mem_append.1 e with e | e
   ·split at e
    ·revert e; decide
    ·simp at e
   ·exact (pa_no h ho).2.2 e
 have hau : 35 ∉ authT u := by
  cases hh : u.hasHost with
  | true =>
   rw [authT_eq u hh]
   intro e
   simp at e
   exact (au_ne h.pre hg.pre.host 35 e).2.2.2 rfl
  | false => unfold authT; rw [hh]; simp
 intro e
 rcases List.mem_append.1 e with e | e
 ·have := h.pre.sch.1
  unfold schOk at this
  rw [Bool.and_eq_true] at this
  exact absurd (List.all_eq_true.1 this.2 35 e) (by decide)
 ·rcases List.mem_cons.1 e with e | e
  ·cases e
  ·unfold rT at e
   rcases List.mem_append.1 e with e | e
   ·exact hau e
   ·rcases List.mem_append.1 e with e | e
    ·exact hpa e
    ·exact hq e

theorem sch_no58 {u : Adr} (h : Str0 u) : 58 ∉ u.scheme ∧ ∃ c t, u.scheme = c :: t := by
 have := h.sch.1
 unfold schOk at this
 rw [Bool.and_eq_true] at this
 refine ⟨fun e => absurd (List.all_eq_true.1 this.2 58 e) (by decide), ?_⟩
 cases hs : u.scheme with
 | nil => rw [hs] at this; cases this.1
 | cons c t => exact ⟨c, t, rfl⟩

theorem clean_text {u : Adr} (h : Str u) (hg : Good3 u) (hl : u.opq = true → u.hasQuery = false → u.hasFragment = false → u.path.flatten.getLast? ≠ some 32) : cleanV (textV u) = textV u := by
 have see := text_see hg
 have s33 : ∀ c : UInt8, seeC c = true → 33 ≤ c.toNat := fun c hc => by unfold seeC at hc; rw [Bool.and_eq_true, decide_eq_true_iff] at hc; exact hc.1
 have s32 : ∀ c : UInt8, seeB c = true → 32 ≤ c.toNat := fun c hc => by unfold seeB at hc; rw [Bool.and_eq_true, decide_eq_true_iff] at hc; exact hc.1
 cases ho : u.opq with
 | false => exact w_clean_id _ fun c hc => s33 c ((see c hc).2 ho)
 | true =>
  obtain ⟨-, c, t, hs⟩ := sch_no58 h.pre
  obtain ⟨hh, -, x, hx, -, -, -, -⟩ := h.opq ho
  have hau : authT u = [] := by unfold authT; rw [hh]; rfl
  have hpt : pathT u = x := by unfold pathT; rw [ho, hx]; simp
  have hT : textV u = u.scheme ++ 58 :: (x ++ (qT u ++ fT u)) := by rw [text_split]; unfold rT; rw [hau, hpt]; simp
  have hlast : ∃ a z, 58 :: (x ++ (qT u ++ fT u)) = a ++ [z] ∧ 33 ≤ z.toNat := by
   have key : ∀ (l m : List UInt8), m ≠ [] → AllS m → ∃ a z, l ++ m = a ++ [z] ∧ 33 ≤ z.toNat := fun l m hm hs => by
    refine ⟨l ++ m.dropLast, m.getLast hm, ?_, s33 _ (hs _ (List.getLast_mem hm))⟩
    rw [List.append_assoc, List.dropLast_concat_getLast]
   by_cases hf : fT u = []
   ·by_cases hq : qT u = []
    ·have hq' : u.hasQuery = false := by
      cases e : u.hasQuery with
      | false => rfl
      | true => unfold qT at hq; rw [e] at hq; cases hq
     have hf' : u.hasFragment = false := by
      cases e : u.hasFragment with
      | false => rfl
      | true => unfold fT at hf; rw [e] at hf; cases hf
     have h32 := hl ho hq' hf'
     rw [hx] at h32
     simp only [List.flatten_cons, List.flatten_nil, List.append_nil] at h32
     rw [hq, hf, List.append_nil, List.append_nil]
     by_cases hx0 : x = []
     ·rw [hx0]; exact ⟨[], 58, rfl, by decide⟩
     ·refine ⟨58 :: x.dropLast, x.getLast hx0, by rw [List.cons_append, List.dropLast_concat_getLast], ?_⟩
      have h1 : 32 ≤ (x.getLast hx0).toNat := s32 _ (see _ (by rw [hT]; simp [List.getLast_mem hx0])).1
      have h2 : (x.getLast hx0) ≠ 32 := fun e => h32 (by rw [List.getLast?_eq_some_getLast hx0, e])
      have h3 : (x.getLast hx0).toNat ≠ 32 := fun e => h2 (UInt8.toNat_inj.1 e)
      omega
    ·rw [hf, List.append_nil, ← List.cons_append]
     refine key _ _ hq ?_
     unfold qT at hq ⊢
     split
     ·exact allS_cons (by decide) hg.pre.query
     ·exact allS_nil
   ·rw [← List.append_assoc, ← List.cons_append]
    refine key _ _ hf ?_
    unfold fT at hf ⊢
    split
    ·exact allS_cons (by decide) hg.pre.fragment
    ·exact allS_nil
  obtain ⟨a, z, hz, hz33⟩ := hlast
  have hT2 : textV u = c :: (t ++ 58 :: (x ++ (qT u ++ fT u))) := by rw [hT, hs]; rfl
  rw [hT2]
  refine clean_mid c z _ (u.scheme ++ a) ?_ ?_ hz33 ?_
  ·rw [← hT2, hT, hz, List.append_assoc]
  ·exact s33 c (hg.pre.scheme c (by rw [hs]; simp))
  ·intro y hy
   rw [← hT2] at hy
   exact s32 y (see y hy).1

theorem begin_text {u : Adr} (h : Str u) (hg : Good3 u) (hl : u.opq = true → u.hasQuery = false → u.hasFragment = false → u.path.flatten.getLast? ≠ some 32) : beginU (textV u) = (un0 u, rT u) := by
 have hp35 : part 35 (textV u) = (u.scheme ++ 58 :: rT u, u.fragment, u.hasFragment) := by
  rw [text_split]
  unfold fT
  cases hf : u.hasFragment with
  | true => simp only [if_true]; exact part_some 35 _ _ (bare_no35 h hg)
  | false =>
   simp only [Bool.false_eq_true, if_false]
   rw [List.append_nil, part_none 35 _ (bare_no35 h hg), hg.pre.noF hf]
 have hsch : schemeV (u.scheme ++ 58 :: rT u) = some (u.scheme, rT u) := by
  unfold schemeV
  rw [part_some 58 _ _ (sch_no58 h.pre).1]
  simp only
  rw [h.pre.sch.1, h.pre.sch.2]
  rfl
 unfold beginU
 simp only [clean_text h hg hl, hp35, hsch, Option.getD_some]
 unfold un0
 rw [h.pre.frg]

theorem text_read {u : Adr} (h : Str u) (hg : Good3 u) (hl : u.opq = true → u.hasQuery = false → u.hasFragment = false → u.path.flatten.getLast? ≠ some 32) (hlen : (textV u).length ≤ 4096) : readV (textV u) none = .ok u := by
 have hb := begin_text h hg hl
 obtain ⟨-, c, t, hs⟩ := sch_no58 h.pre
 unfold readV
 rw [if_neg (by omega), hb]
 simp only
 rw [if_neg (by show ¬ u.scheme = []; rw [hs]; simp)]
 exact start_back h hg

end Go.Proofs.YtpopljcmkbchcaaGreatDoor

namespace Go.Proofs.YtpopljcmkbchcaaGreatDoor
open Go.RowKit

def NumI (R : List UInt8) (u : Nat) (T : List UInt8) : Prop := (u = 0 ∧ T ≠ [] ∧ T = R) ∨ ((0 < u ∨ T = []) ∧ ∃ f, u < 10 ^ f ∧ 0 < f ∧ deciN f u T = R)

theorem numI_step {R : List UInt8} {u : Nat} {T : List UInt8} (h : NumI R u T) (hp : 0 < u ∨ T = []) : NumI R (u / 10) (decC (u % 10) :: T) := by
 rcases h with ⟨h1, h2, _⟩ | ⟨_, f, hf, hf0, hR⟩
 ·rcases hp with hp | hp
  ·omega
  ·exact absurd hp h2
 ·obtain ⟨g, rfl⟩ : ∃ g, f = g + 1 := ⟨f - 1, by omega⟩
  rw [deciN] at hR
  by_cases hu : u < 10
  ·rw [if_pos hu] at hR
   refine .inl ⟨by omega, by simp, ?_⟩
   rw [← hR, show u % 10 = u by omega]
   rfl
  ·rw [if_neg hu] at hR
   refine .inr ⟨.inl (by omega), g, ?_, ?_, hR⟩
   ·rw [Nat.pow_succ] at hf; omega
   ·rcases Nat.eq_zero_or_pos g with rfl | h
    ·simp at hf; omega
    ·exact h

theorem numI_done {R : List UInt8} {u : Nat} {T : List UInt8} (h : NumI R u T) (hp : ¬ (0 < u ∨ T = [])) : T = R := by
 rcases h with ⟨_, _, h⟩ | ⟨h, _⟩
 ·exact h
 ·exact absurd h hp

theorem numI_start (n : Nat) (hn : n ≤ 65535) : NumI (portT n) n [] := .inr ⟨.inr rfl, 6, by omega, by omega, rfl⟩

theorem numI_len {R : List UInt8} {u : Nat} {T : List UInt8} (h : NumI R u T) : T.length ≤ R.length := by
 have key : ∀ f u T, T.length ≤ (deciN f u T).length := by
  intro f
  induction f with
  | zero => intro u T; exact Nat.le_refl _
  | succ f ih =>
   intro u T
   rw [deciN]
   split
   ·simp
   ·have := ih (u / 10) (UInt8.ofNat (48 + u % 10) :: T)
    rw [List.length_cons] at this
    omega
 rcases h with ⟨_, _, h⟩ | ⟨_, f, _, _, h⟩
 ·rw [h]; exact Nat.le_refl _
 ·rw [← h]; exact key _ _ _

theorem portT_len (p : Int) : (portT p).length ≤ 6 := by
 have key : ∀ f u T, (deciN f u T).length ≤ f + T.length := by
  intro f
  induction f with
  | zero => intro u T; simp [deciN]
  | succ f ih =>
   intro u T
   rw [deciN]
   split
   ·simp; omega
   ·have := ih (u / 10) (UInt8.ofNat (48 + u % 10) :: T)
    rw [List.length_cons] at this
    omega
 exact key 6 p.toNat []

set_option maxHeartbeats 2000000 in
theorem numeral3_any (n : Nat) (w : World) (hn : n ≤ 65535) :
  Calls Tryz.prog 72 #[.int .i64 n] w fun e w' => e = .returned (.string ⟨(portT n).toArray⟩) ∧ w = w' := by
 have H0 := hid (numI_start n hn)
 have hpl := portT_len n
 obtain ⟨R, hR⟩ : ∃ R, portT n = R := ⟨_, rfl⟩
 rw [hR] at H0 hpl
 rw [hR]
 clear hR
 go_enter Tryz.func72, Tryz.ntmps72
 go_wp2
 go_loopg [0, 3, 4] 20 (fun f nv sv _ wr => ∃ (u : Nat) (T : List UInt8) (q : Nat), nv = .int .i64 u ∧ sv = .string ⟨T.toArray⟩ ∧ u ≤ 65535 ∧ Hid (NumI R u T) ∧ T.length + q = 20 ∧ q = f ∧ wr = w)
 case atStart => exact ⟨n, [], 20, rfl, rfl, hn, H0, rfl, rfl, rfl⟩
 case round =>
  obtain ⟨u, T, q, rfl, rfl, hu, HI, hTf, hqf, rfl⟩ := hrel
  have hTl : T.length ≤ 6 := by have := numI_len HI.out; omega
  have hm : u % 10 < 10 := by omega
  by_cases hp : 0 < u ∨ T = []
  ·have HN := hid (numI_step HI.out hp)
   have HX := hid (xtens_app (u % 10) hm T)
   have hul : u / 10 ≤ 65535 := by omega
   obtain ⟨g, hgq⟩ : ∃ g, q = g + 1 := ⟨q - 1, by omega⟩
   have hTg : (decC (u % 10) :: T).length + g = 20 := by rw [List.length_cons]; omega
   have HTg := hid hTg
   have hgf := hid (hgq.symm.trans hqf)
   clear hTg hTf hgq hqf
   by_cases h0 : 0 < u
   ·have h0' : (0 : Int) < (u : Int) := by omega
    clear hp
    go_wp2
    go_roundg g
    case measure => have := hgf.out; omega
    case rel => exact ⟨_, _, g, by go_num, by rw [HX.out], hul, HN, HTg.out, rfl, rfl⟩
   ·have hT0 : T = [] := hp.resolve_left h0
    have hu0 : u = 0 := by omega
    subst hT0
    subst hu0
    clear hp h0
    go_wp2
    go_roundg g
    case measure => have := hgf.out; omega
    case rel => exact ⟨_, _, g, by go_num, by rw [HX.out], hul, HN, HTg.out, rfl, rfl⟩
  ·have hu0 : u = 0 := by omega
   have hT : T ≠ [] := fun h => hp (.inr h)
   have HD := hid (numI_done HI.out hp)
   have he : T.isEmpty = false := by simpa using hT
   subst hu0
   clear hp hT
   go_wp2
   go_ret
   exact ⟨by rw [HD.out]; rfl, rfl⟩

end Go.Proofs.YtpopljcmkbchcaaGreatDoor

namespace Go.Proofs.YtpopljcmkbchcaaGreatDoor
structure SpU (u : Adr) : Prop where
 spec : specV u.scheme = true
 str : Str u
 good : Good3 u

theorem SpU.host {u : Adr} (h : SpU u) : u.host ≠ [] ∧ u.hasHost = true ∧ u.opq = false ∧ u.path ≠ [] := by
 obtain ⟨h1, h2, h3⟩ := h.good.special h.spec
 refine ⟨h1, ?_, h3, h2⟩
 cases e : u.hasHost with
 | true => rfl
 | false => exact absurd (h.str.pre.noh e).2.2.1 h1

theorem hasP_port {u : Adr} (h : Str u) (hs : specV u.scheme = true) : 0 ≤ hasP u ∧ hasP u ≤ 65535 := by
 unfold hasP
 have h2 : ownV u.scheme ≤ 65535 := by unfold ownV; repeat' split; all_goals omega
 have h3 : 0 ≤ ownV u.scheme := of_decide_eq_true hs
 rcases h.pre.prt with e | ⟨e, e2, _⟩
 ·rw [if_pos e]; exact ⟨h3, h2⟩
 ·rw [if_neg (by omega)]; exact ⟨e, e2⟩

theorem SpU.read {u : Adr} (h : SpU u) (hl : (textV u).length ≤ 4096) : readV (textV u) none = .ok u :=
 text_read h.str h.good (fun e => by rw [h.host.2.2.1] at e; cases e) hl

theorem spec_len {s : List UInt8} (h : specV s = true) : s.length ≤ 5 ∧ s ≠ sBlob := by
 unfold specV ownV at h
 split at h
 ·rename_i e; rcases e with rfl | rfl <;> decide
 ·split at h
  ·rename_i e; rcases e with rfl | rfl <;> decide
  ·split at h
   ·rename_i e; subst e; decide
   ·exact absurd h (by decide)

theorem host_len {t a : List UInt8} (h : parseV t true = some a) : a.length ≤ max t.length 102 := by
 unfold parseV at h
 split at h
 ·unfold bracketV at h
  split at h
  ·cases hs : sixV (Lib.trimSuffix (t.drop 1) [93]) with
   | none => rw [hs] at h; cases h
   | some x =>
    rw [hs] at h
    simp only [Option.map_some, Option.some.injEq] at h
    have := text6_le x (sixV_ok hs).1
    rw [← h]; simp; omega
  ·cases h
 ·rw [if_pos rfl] at h
  unfold nameV at h
  split at h
  ·cases h
  ·split at h
   ·cases hf : fourV (low (unpct t)) with
    | none => rw [hf] at h; cases h
    | some n =>
     rw [hf] at h
     simp only [Option.map_some, Option.some.injEq] at h
     rw [← h]
     have := text4_le n
     omega
   ·simp only [Option.some.injEq] at h
    have h1 := unpct_le t
    rw [← h, show low (unpct t) = (unpct t).map lowC from rfl, List.length_map]
    omega

theorem at_le4 (l : List UInt8) : (atV l).2.length ≤ l.length := by
 unfold atV
 split
 ·simp only [List.length_reverse]
  have := (List.takeWhile_prefix (l := l.reverse) (fun x => x != 64)).length_le
  rw [List.length_reverse] at this
  exact this
 ·exact Nat.le_refl _

theorem auth_hlen {sc s a b h : List UInt8} {p : Int} (hs : specV sc = true) (e : authV sc s = .ok (a, b, h, p)) : h.length ≤ max s.length 102 := by
 unfold authV at e
 split at e
 ·cases e
 ·split at e
  ·cases e
  ·rename_i h' hh
   split at e
   ·cases e
   ·injection e with e
    simp only [Prod.mk.injEq] at e
    rw [hs] at hh
    have h1 := host_len hh
    have h2 := at_le4 s
    rw [← e.2.2.1]
    rw [List.length_take] at h1
    omega

theorem withPath_hosts (u : Adr) (L : List (List UInt8)) (r : List UInt8) : (withPath u L r).scheme = u.scheme ∧ (withPath u L r).host = u.host := by
 unfold withPath withQuery
 split <;> exact ⟨rfl, rfl⟩

theorem read_hlen {s : List UInt8} {u : Adr} (e : readV s none = .ok u) (hs : specV u.scheme = true) : u.host.length ≤ max s.length 102 := by
 have wa : ∀ {u v : Adr} {r : List UInt8}, withAuth u r = .ok v → v.scheme = u.scheme ∧ (specV u.scheme = true → v.host.length ≤ max r.length 102) := by
  intro u v r e
  unfold withAuth at e
  split at e
  ·cases e
  ·rename_i a b h p hh
   injection e with e
   subst e
   refine ⟨(withPath_hosts _ _ _).1, fun hs => ?_⟩
   rw [(withPath_hosts _ _ _).2]
   have h1 := auth_hlen hs hh
   have h2 := (List.takeWhile_prefix (l := r) (fun c => !([47, 63] : List UInt8).contains c)).length_le
   have h3 : (aheadV [47, 63] r).1.length ≤ r.length := h2
   show h.length ≤ _
   omega
 have hb : (beginU s).2.length ≤ s.length := by
  have c1 := part_le 35 (cleanV s)
  have c0 : (cleanV s).length ≤ s.length := by
   unfold cleanV trimV
   refine Nat.le_trans (List.length_filter_le _ _) ?_
   rw [List.length_reverse]
   refine Nat.le_trans (List.dropWhile_suffix _).length_le ?_
   rw [List.length_reverse]
   exact (List.dropWhile_suffix _).length_le
  have c2 := part_le 58 (part 35 (cleanV s)).1
  unfold beginU
  simp only
  unfold schemeV
  split
  ·simp only [Option.getD_some]; omega
  ·simp only [Option.getD_none]; omega
 unfold readV at e
 split at e
 ·cases e
 ·simp only at e
  split at e
  ·cases e
  ·unfold startV at e
   split at e
   ·rename_i hsp
    have h1 := (wa e).2 hsp
    have h2 : (skip47 (slashV (beginU s).2)).length ≤ (beginU s).2.length := by
     have h3 : (skip47 (slashV (beginU s).2)).length ≤ (slashV (beginU s).2).length := (List.dropWhile_suffix _).length_le
     have h4 : (slashV (beginU s).2).length = (beginU s).2.length := by
      unfold slashV aheadV
      simp only [List.length_append, List.length_map]
      rw [← List.length_append, List.takeWhile_append_dropWhile]
     omega
    omega
   ·rename_i hsp
    split at e
    ·rw [(wa e).1] at hs
     exact absurd hs hsp
    ·split at e
     ·injection e with e
      subst e
      rw [(withPath_hosts _ _ _).1] at hs
      exact absurd hs hsp
     ·injection e with e
      subst e
      have : (withQuery { (beginU s).1 with opq := true, path := [pct 1 (aheadV [63] (beginU s).2).1] } (aheadV [63] (beginU s).2).2).scheme = (beginU s).1.scheme := by
       unfold withQuery; split <;> rfl
      rw [this] at hs
      exact absurd hs hsp



end Go.Proofs.YtpopljcmkbchcaaGreatDoor

namespace Go.Proofs.YtpopljcmkbchcaaGreatDoor
theorem read_sp {s : List UInt8} {u : Adr} (e : readV s none = .ok u) (hs : specV u.scheme = true) : SpU u := ⟨hs, read_str e, read_good e⟩

end Go.Proofs.YtpopljcmkbchcaaGreatDoor
