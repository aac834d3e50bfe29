/-
  Walks and plain facts that this claim leans on, put together out of 4 texts: Yl, Ym, Yn, Yy.
-/
import Derived.Test.YtkhpemjjholneaaGreatDoorProg
import Derived.Test.YtkhpemjjholneaaGreatDoorQa1
import Derived.Test.YtkhpemjjholneaaGreatDoorQa2
import Derived.Test.YtkhpemjjholneaaGreatDoorQa3
import Derived.Test.YtkhpemjjholneaaGreatDoorQa4
import Derived.Test.YtkhpemjjholneaaGreatDoorQa5
import Derived.Test.YtkhpemjjholneaaGreatDoorQa6
import Derived.Test.YtkhpemjjholneaaGreatDoorQa7
import Derived.Test.YtkhpemjjholneaaGreatDoorQa8
import Derived.Test.YtkhpemjjholneaaGreatDoorQa9
import Derived.Test.YtkhpemjjholneaaGreatDoorQa10
import Derived.Test.YtkhpemjjholneaaGreatDoorQa11
import Derived.Test.YtkhpemjjholneaaGreatDoorQa12
import Derived.Test.YtkhpemjjholneaaGreatDoorQa13
import Derived.Test.YtkhpemjjholneaaGreatDoorQa14
import Derived.Test.YtkhpemjjholneaaGreatDoorQa15
import Derived.Test.YtkhpemjjholneaaGreatDoorQa16
import Derived.Test.YtkhpemjjholneaaGreatDoorQa17
import Derived.Test.YtkhpemjjholneaaGreatDoorQa18
import Derived.Test.YtkhpemjjholneaaGreatDoorQa19
import Derived.Test.YtkhpemjjholneaaGreatDoorQa20
import Derived.Test.YtkhpemjjholneaaGreatDoorQa21
import Derived.Test.YtkhpemjjholneaaGreatDoorQa22
import Derived.Test.YtkhpemjjholneaaGreatDoorQa23
import Derived.Test.YtkhpemjjholneaaGreatDoorQa24
import Derived.Test.YtkhpemjjholneaaGreatDoorQa25
import Derived.Test.YtkhpemjjholneaaGreatDoorQa26
import Derived.Test.YtkhpemjjholneaaGreatDoorQa27
import Derived.Test.YtkhpemjjholneaaGreatDoorQa28
import Derived.Test.YtkhpemjjholneaaGreatDoorQa29
import Derived.Test.YtkhpemjjholneaaGreatDoorQa30
import Derived.Test.YtkhpemjjholneaaGreatDoorQa31
import Derived.Test.YtkhpemjjholneaaGreatDoorQa32
import Derived.Lib.AppendIntMem
import Derived.Lib.SmallJoins
import Derived.WalkSmall
import Derived.Lib.LastIndexByte
import Derived.OwnWalk
import Derived.Deep.LoopGhost
import Derived.Laws.AppendOwn
import Derived.Deep.RegionWith
import Derived.Laws.CopyOwn
import Derived.Laws.ResultCell
import Derived.Deep.MidRow
import Derived.Shelf.Strings.Builder1
import Derived.Shelf.Strings.Builder2
import Derived.Shelf.Strings.OnBuilder
import Derived.Shelf.Strings.Trim
import Derived.Shelf.Small.Utf8
import Derived.Shelf.Small.Bits
import Derived.Shelf.Small.Strs
import Derived.Shelf.Small.Wraps
import Derived.Shelf.Strings.BuilderF
import Derived.Shelf.Strings.BuilderK
import Derived.Shelf.Strings.BuilderRune
import Derived.Shelf.Utf8.AppendRune
import Derived.Shelf.Utf8.AppendRunePlain
import Derived.Shelf.Strings.Builder2Cap
import Derived.Shelf.Strconv.Itoa0
import Derived.Shelf.Strconv.Itoa1
import Derived.Shelf.LaysM
import Derived.Shelf.Strconv.Itoa2
import Derived.Shelf.Strconv.Itoa3
import Derived.Shelf.Strings.Search1
import Derived.Shelf.Strings.Search2
import Derived.Shelf.Strings.Search3
import Derived.Shelf.Strings.Cut
import Derived.Shelf.Strings.Count
import Derived.Shelf.Strings.Shaped
import Derived.Shelf.Sort.Plain
import Derived.Shelf.Strings.LastIndex
import Derived.Shelf.Strings.Prefix
import Derived.Shelf.Strings.Split
import Derived.Shelf.Strings.Replace
import Derived.Shelf.Strings.Runes
import Derived.Shelf.Strings.IndexAny
import Derived.Shelf.Strings.AsciiSet
import Derived.Shelf.Strings.IndexAnyAll
import Derived.Shelf.Unicode.DecodeSlow
import Derived.Shelf.Unicode.DecodeAny
import Derived.Shelf.Unicode.DecodeLast
import Derived.Shelf.Strings.FieldsFuncAny
import Derived.Shelf.Strings.FieldsFuncGrows
import Derived.Shelf.Slices.Equal
import Derived.Ground.Names2Prog
import Derived.Shelf.Slices.Clone
import Derived.Ground.SlgnProg
import Derived.Shelf.SlicesE.Equal
import Derived.Shelf.SlicesE.Clone
import Derived.WalkKit
import Derived.WalkSpells
import Derived.WalkLawsBesides
import Derived.Lib.FrozenHead2
import Derived.Lib.OthersKept
import Derived.Lib.Builder
import Derived.Lib.Strings
import Derived.Lib.UnsafeStr
import Derived.Laws.IdiomStrings
import Derived.Lib.Bytealg
import Derived.Lib.IndexMore
import Derived.Lib.Join
import Derived.Laws.BitsAllLaws
import Derived.WalkMore
import Derived.Lib.BufferMore
import Derived.Lib.IndexAny
import Derived.Lib.Replace
import Derived.Lib.TrimByte
import Derived.Lib.ItoaNum
import Derived.Lib.SlTrimSet
import Derived.Laws.RangeAny
import Derived.Lib.DecodeN
import Derived.RegionTactic
import Derived.Deep.QuietTactic
import Derived.BigQuiet
import Derived.Laws.BytesString
import Derived.Deep.RegionHeld
import Derived.Laws.Runes
import Derived.Lib.AppendStr
import Derived.Lib.BufferRead
import Derived.Lib.RuneBytes
import Derived.Scope
import Derived.ScopeJumps
import Derived.BigRegion
import Derived.Laws.OwnMore
import Derived.Below
import Derived.Deep.RegionLaw
import Derived.Deep.RegionHeldLaw
import Derived.LoopN
import Derived.Shelf.Strings.SlTrimAscii
import Derived.Deep.WholeRow
import Derived.Maps.OwnSet
import Derived.Maps.OwnOps
import Derived.Maps.AppendAt
import Derived.StringKeys
import Derived.Laws.AppendOwnNone
import Derived.Deep.Cut
set_option linter.unusedSimpArgs false
set_option linter.unusedVariables false

namespace Go.Proofs.YtkhpemjjholneaaGreatDoor
def Leq (q r : List UInt8 → Bool) : Prop := ∀ s, q s = true → r s = true

theorem portR_mono {u : Adr} {q r : List UInt8 → Bool} (h : Leq q r) : Leq (portR u q) (portR u r) := fun s hs => by
  unfold portR at hs ⊢
  rw [Bool.and_eq_true] at hs ⊢
  exact ⟨hs.1, h _ hs.2⟩

theorem hostR_mono {u : Adr} {q r : List UInt8 → Bool} (h : Leq q r) : Leq (hostR u q) (hostR u r) := fun s hs => by
  unfold hostR at hs ⊢
  rw [Bool.and_eq_true] at hs ⊢
  exact ⟨hs.1, h _ hs.2⟩

theorem schR_mono {u p : Adr} {q r : List UInt8 → Bool} (h : Leq q r) : Leq (schR u p q) (schR u p r) := fun s hs => by
  unfold schR at hs ⊢
  split at hs
  · split at hs
    · rw [if_pos (by assumption)]; exact hs
    · rw [if_neg (by assumption)]
      split at hs
      · rw [if_pos (by assumption)]
        rw [Bool.and_eq_true] at hs ⊢
        exact ⟨hs.1, h _ hs.2⟩
      · rw [if_neg (by assumption)]
        rw [Bool.and_eq_true] at hs ⊢
        exact ⟨hs.1, h _ hs.2⟩
  · rw [Bool.and_eq_true] at hs ⊢
    exact ⟨hs.1, h _ hs.2⟩

theorem wordR_mono {u p : Adr} {q r : List UInt8 → Bool} (h : Leq q r) : Leq (wordR u p q) (wordR u p r) := fun s hs => by
  unfold wordR at hs ⊢
  split at hs
  · rw [if_pos (by assumption)]; exact hs
  · rw [if_neg (by assumption)]
    split at hs
    · rw [if_pos (by assumption)]; exact hs
    · rw [if_neg (by assumption)]
      rw [Bool.and_eq_true] at hs ⊢
      exact ⟨hs.1, h _ hs.2⟩

theorem one_later (u p : Adr) (s : List UInt8) (h : oneV u p 0 s = true) : oneV u p 1 s = true :=
  wordR_mono (schR_mono (hostR_mono (portR_mono (fun s _ => by unfold pathM; rw [if_pos (.inl (by decide))])))) s h

theorem text4_low (n : Nat) : low (text4 n) = text4 n := by
  have hd : ∀ k < 256, ∀ c ∈ dec8 k, lowC c = c := by decide +kernel
  refine low_plain _ fun c hc => ?_
  unfold text4 at hc
  simp only [List.mem_append, List.mem_cons] at hc
  rcases hc with hc | rfl | hc | rfl | hc | rfl | hc
  · exact hd _ (Nat.mod_lt _ (by decide)) c hc
  · decide
  · exact hd _ (Nat.mod_lt _ (by decide)) c hc
  · decide
  · exact hd _ (Nat.mod_lt _ (by decide)) c hc
  · decide
  · exact hd _ (Nat.mod_lt _ (by decide)) c hc

theorem host_plain (t a : List UInt8) (h : parseV t true = some a) (h0 : a.head? ≠ some 91) : low a = a ∧ 58 ∉ a ∧ 47 ∉ a := by
  have hb := parse_back t a true h
  have hp : Lib.hasPrefix a [91] = false := by
    cases a with
    | nil => rfl
    | cons c r =>
      simp [Lib.hasPrefix, List.isPrefixOf]
      exact fun e => h0 (by simp [e])
  unfold parseV at hb
  rw [hp, if_neg (by decide), if_pos rfl] at hb
  refine ⟨?_, fun e => ?_, fun e => ?_⟩
  · unfold nameV at hb
    split at hb
    · cases hb
    · split at hb
      · cases hf : fourV (low (unpct a)) with
        | none => rw [hf] at hb; cases hb
        | some n =>
          rw [hf] at hb
          have : text4 n = a := by simpa using hb
          rw [← this]; exact text4_low n
      · have : low (unpct a) = a := by simpa using hb
        rw [← this, low_low]
  · rw [name_refused a 58 (by decide) e] at hb; cases hb
  · rw [name_refused a 47 (by decide) e] at hb; cases hb

theorem auth_host11 {sc s a b h : List UInt8} {p : Int} (e : authV sc s = .ok (a, b, h, p)) : ∃ t, parseV t (specV sc) = some h := by
  unfold authV at e
  split at e
  · cases e
  · split at e
    · cases e
    · rename_i h' hh
      split at e
      · cases e
      · injection e with e
        simp only [Prod.mk.injEq] at e
        exact ⟨_, by rw [← e.2.2.1]; exact hh⟩

theorem withPath_host (u : Adr) (L : List (List UInt8)) (r : List UInt8) : (withPath u L r).scheme = u.scheme ∧ (withPath u L r).host = u.host := by
  unfold withPath withQuery
  split <;> exact ⟨rfl, rfl⟩

theorem withAuth_host {u v : Adr} {r : List UInt8} (e : withAuth u r = .ok v) : v.scheme = u.scheme ∧ ∃ t, parseV t (specV u.scheme) = some v.host := by
  unfold withAuth at e
  split at e
  · cases e
  · rename_i a b h p hh
    injection e with e
    subst e
    refine ⟨(withPath_host _ _ _).1, ?_⟩
    rw [(withPath_host _ _ _).2]
    exact auth_host11 hh

/-- Of an address with a Special scheme: the host is one that was parsed as such. -/
theorem read_host {s : List UInt8} {u : Adr} (e : readV s none = .ok u) (hs : specV u.scheme = true) : ∃ t, parseV t true = some u.host := by
  unfold readV at e
  split at e
  · cases e
  · simp only at e
    split at e
    · cases e
    · unfold startV at e
      split at e
      · rename_i hsp
        obtain ⟨h1, t, ht⟩ := withAuth_host e
        exact ⟨t, by rw [hsp] at ht; exact ht⟩
      · rename_i hsp
        split at e
        · obtain ⟨h1, t, ht⟩ := withAuth_host e
          rw [h1] at hs
          exact absurd hs hsp
        · split at e
          · injection e with e
            subst e
            rw [(withPath_host _ _ _).1] at hs
            exact absurd hs hsp
          · injection e with e
            subst e
            have : (withQuery { (beginU s).1 with opq := true, path := [pct 1 (aheadV [63] (beginU s).2).1] } (aheadV [63] (beginU s).2).2).scheme = (beginU s).1.scheme := by
              unfold withQuery; split <;> rfl
            rw [this] at hs
            exact absurd hs hsp

theorem host_self (h : List UInt8) (h0 : h ≠ []) : hostM h h = true := by
  unfold hostM
  split
  · simp [h0]
  · split
    · rename_i hx
      rw [Bool.and_eq_true] at hx
      obtain ⟨t, ht⟩ : ∃ t, h = 42 :: 46 :: t := by
        have := hx.1
        unfold Lib.hasPrefix at this
        rw [List.isPrefixOf_iff_prefix] at this
        obtain ⟨t, ht⟩ := this
        exact ⟨t, ht.symm⟩
      rw [ht]
      simp [Lib.hasSuffix]
    · simp

/-- The host's own address is meant by its text. -/
theorem one_self {s : List UInt8} {u p : Adr} (e : readV s none = .ok u) (hsc : u.scheme = sHttp ∨ u.scheme = sHttps) (hp : u.port = -1) (h0 : u.host ≠ []) (h1 : u.host.head? ≠ some 91) : oneV u p 0 (u.scheme ++ 58 :: 47 :: 47 :: u.host) = true := by
  obtain ⟨t, ht⟩ := read_host e (by rcases hsc with e | e <;> rw [e] <;> decide)
  obtain ⟨hl, h58, h47⟩ := host_plain t u.host ht h1
  have hs58 : 58 ∉ u.scheme := by rcases hsc with e | e <;> rw [e] <;> decide
  have hsch : schemeV (u.scheme ++ 58 :: 47 :: 47 :: u.host) = some (u.scheme, 47 :: 47 :: u.host) := by
    unfold schemeV
    rw [part_some 58 _ _ hs58]
    simp only
    have e1 : schOk u.scheme = true := by rcases hsc with e | e <;> rw [e] <;> decide
    have e2 : low u.scheme = u.scheme := by rcases hsc with e | e <;> rw [e] <;> decide
    rw [e1, e2]; rfl
  have hhd : ∃ r, u.scheme ++ 58 :: 47 :: 47 :: u.host = 104 :: 116 :: r := by
    rcases hsc with e | e <;> rw [e] <;> exact ⟨_, rfl⟩
  obtain ⟨r, hr⟩ := hhd
  unfold oneV wordR
  rw [if_neg (by rw [hr]; simp), if_neg (by rw [hr]; simp [low, tSelf, lowC])]
  have hq : Lib.hasPrefix (u.scheme ++ 58 :: 47 :: 47 :: u.host) [39] = false := by rw [hr]; rfl
  rw [hq]
  unfold schR
  rw [hsch]
  simp only
  have hm : schM u.scheme u.scheme = true := by unfold schM; simp
  rw [if_neg (by simp), if_pos (by rfl), hm]
  have hah : aheadV [58, 47] u.host = (u.host, []) := ahead_all _ _ fun c hc => by
    simp
    exact ⟨fun e => h58 (e ▸ hc), fun e => h47 (e ▸ hc)⟩
  show (!false && (true && hostR u (portR u (pathM 0 u)) (List.drop 2 (47 :: 47 :: u.host)))) = true
  unfold hostR portR
  rw [show List.drop 2 (47 :: 47 :: u.host) = u.host from rfl, hah]
  simp only
  rw [hl, host_self u.host h0]
  have ha2 : aheadV [47] [] = ([], []) := rfl
  rw [ha2]
  simp [portM, hp, pathM]

theorem one_none (u p : Adr) (hops : Int) : oneV u p hops [39, 110, 111, 110, 101, 39] = false := by
  unfold oneV wordR
  rw [if_neg (by decide), if_neg (by decide)]
  rfl

end Go.Proofs.YtkhpemjjholneaaGreatDoor

namespace Go.Proofs.YtkhpemjjholneaaGreatDoor
theorem lowC_39 (c : UInt8) (h : c ≠ 39) : lowC c ≠ 39 := by
  have key : ∀ n < 256, UInt8.ofNat n ≠ 39 → lowC (UInt8.ofNat n) ≠ 39 := by decide +kernel
  have e : UInt8.ofNat c.toNat = c := by simp
  have := key c.toNat c.toNat_lt
  rw [e] at this
  exact this h

/-- A source that is a host, a port (with its colon) and a path. -/
theorem one_plain (u p : Adr) (hops : Int) (h pt pa : List UInt8) (h0 : h ≠ []) (h42 : 2 ≤ h.length ∨ h.head? ≠ some 42) (h39 : h.head? ≠ some 39) (hh : ∀ c ∈ h, c ≠ 58 ∧ c ≠ 47)
    (hpt : pt = [] ∨ ∃ t, pt = 58 :: t ∧ t ≠ [] ∧ 47 ∉ t) (hpa : pa = [] ∨ ∃ t, pa = 47 :: t) (h58 : 58 ∉ pa) :
    oneV u p hops (h ++ (pt ++ pa)) = (schM p.scheme u.scheme && (hostM (low h) u.host && (portM pt u && pathM hops u pa))) := by
  obtain ⟨c, r, rfl⟩ : ∃ c r, h = c :: r := by
    cases h with
    | nil => exact absurd rfl h0
    | cons c r => exact ⟨c, r, rfl⟩
  have hc39 : c ≠ 39 := fun e => h39 (by simp [e])
  have hc47 : c ≠ 47 := (hh c (by simp)).2
  unfold oneV wordR
  have e1 : (c :: r ++ (pt ++ pa)) ≠ [42] := by
    intro e
    rw [List.cons_append] at e
    injection e with e1 e2
    rcases h42 with h | h
    · have : (r ++ (pt ++ pa)).length = 0 := by rw [e2]; rfl
      simp at h this
      rw [this.1] at h
      simp at h
    · exact h (by simp [e1])
  have e2 : low (c :: r ++ (pt ++ pa)) ≠ tSelf := by
    intro e
    rw [List.cons_append, low, List.map_cons] at e
    injection e with e1 _
    exact lowC_39 c hc39 e1
  have e3 : Lib.hasPrefix (c :: r ++ (pt ++ pa)) [39] = false := by
    simp [Lib.hasPrefix, List.isPrefixOf]
    exact fun e => hc39 e.symm
  rw [if_neg e1, if_neg e2, e3]
  have hs : schR u p (hostR u (portR u (pathM hops u))) (c :: r ++ (pt ++ pa)) = (schM p.scheme u.scheme && hostR u (portR u (pathM hops u)) (c :: r ++ (pt ++ pa))) := by
    unfold schR
    rcases hpt with rfl | ⟨t, rfl, ht, h47⟩
    · have hn : 58 ∉ c :: r ++ ([] ++ pa) := by
        intro e
        rw [List.nil_append] at e
        rcases List.mem_append.1 e with e | e
        · exact (hh 58 e).1 rfl
        · exact h58 e
      have : schemeV (c :: r ++ ([] ++ pa)) = none := by
        unfold schemeV
        rw [part_none 58 _ hn]
        rfl
      rw [this]
    · have hn : 58 ∉ c :: r := fun e => (hh 58 e).1 rfl
      have hpp : part 58 (c :: r ++ (58 :: t ++ pa)) = (c :: r, t ++ pa, true) := by
        rw [show (58 :: t ++ pa) = 58 :: (t ++ pa) from rfl]
        exact part_some 58 _ _ hn
      unfold schemeV
      rw [hpp]
      simp only
      split
      · rename_i m hm
        split at hm
        · injection hm with hm
          subst hm
          simp only
          rw [if_neg (by simp [ht]), if_neg]
          obtain ⟨x, y, rfl⟩ : ∃ x y, t = x :: y := by
            cases t with
            | nil => exact absurd rfl ht
            | cons x y => exact ⟨x, y, rfl⟩
          have hx : x ≠ 47 := fun e => h47 (by simp [e])
          simp [Lib.hasPrefix, List.isPrefixOf]
          exact fun e => absurd e.symm hx
        · cases hm
      · rfl
  rw [hs]
  have hno : ∀ x ∈ c :: r, x ∉ ([58, 47] : List UInt8) := fun x hx => by
    have := hh x hx
    simp [this.1, this.2]
  have ha : aheadV [58, 47] (c :: r ++ (pt ++ pa)) = (c :: r, pt ++ pa) := by
    rcases hpt with rfl | ⟨t, rfl, ht, h47⟩
    · rcases hpa with rfl | ⟨t, rfl⟩
      · simp only [List.append_nil]
        exact ahead_all _ _ hno
      · exact ahead_at _ _ _ _ hno (by simp)
    · rw [show (58 :: t ++ pa) = 58 :: (t ++ pa) from rfl]
      exact ahead_at _ _ _ _ hno (by simp)
  have hb : aheadV [47] (pt ++ pa) = (pt, pa) := by
    have hno2 : ∀ x ∈ pt, x ∉ ([47] : List UInt8) := fun x hx => by
      rcases hpt with rfl | ⟨t, rfl, ht, h47⟩
      · simp at hx
      · rcases List.mem_cons.1 hx with rfl | hx
        · decide
        · simp
          exact fun e => h47 (e ▸ hx)
    rcases hpa with rfl | ⟨t, rfl⟩
    · rw [List.append_nil]
      exact ahead_all _ _ hno2
    · exact ahead_at _ _ _ _ hno2 (by simp)
  unfold hostR portR
  rw [ha]
  simp only
  rw [hb]
  simp

/-- A word: q, and small letters behind it. -/
def WrQ (T : List UInt8) : Prop := ∃ r : List UInt8, T = 113 :: r ∧ ∀ c ∈ r, 97 ≤ c.toNat ∧ c.toNat ≤ 122

theorem WrQ.mem {T : List UInt8} (h : WrQ T) : ∀ c ∈ T, 97 ≤ c.toNat ∧ c.toNat ≤ 122 := fun c hc => by
  obtain ⟨r, rfl, hr⟩ := h
  rcases List.mem_cons.1 hc with rfl | hc
  · decide
  · exact hr c hc

theorem WrQ.ne {T : List UInt8} (h : WrQ T) : T ≠ [] := by
  obtain ⟨r, rfl, hr⟩ := h
  simp

theorem WrQ.start : WrQ [113] := ⟨[], rfl, fun c hc => by simp at hc⟩

theorem WrQ.snoc {T : List UInt8} {c : UInt8} (h : WrQ T) (h1 : 97 ≤ c.toNat) (h2 : c.toNat ≤ 122) : WrQ (T ++ [c]) := by
  obtain ⟨r, rfl, hr⟩ := h
  refine ⟨r ++ [c], rfl, fun d hd => ?_⟩
  rcases List.mem_append.1 hd with hd | hd
  · exact hr d hd
  · obtain rfl := List.mem_singleton.1 hd
    exact ⟨h1, h2⟩

/-- What is known of a small letter. -/
theorem small_facts (c : UInt8) (h : 97 ≤ c.toNat ∧ c.toNat ≤ 122) : lowC c = c ∧ hnC c = true ∧ c ≠ 46 ∧ c ≠ 47 ∧ c ≠ 58 ∧ c ≠ 37 ∧ paC c = true ∧ inSetI c.toNat 5 = false ∧ c ≠ 42 ∧ c ≠ 39 := by
  have key : ∀ n < 256, (97 ≤ n ∧ n ≤ 122) → lowC (UInt8.ofNat n) = UInt8.ofNat n ∧ hnC (UInt8.ofNat n) = true ∧ UInt8.ofNat n ≠ 46 ∧ UInt8.ofNat n ≠ 47 ∧ UInt8.ofNat n ≠ 58 ∧ UInt8.ofNat n ≠ 37 ∧ paC (UInt8.ofNat n) = true ∧ inSetI n 5 = false ∧ UInt8.ofNat n ≠ 42 ∧ UInt8.ofNat n ≠ 39 := by decide +kernel
  have e : UInt8.ofNat c.toNat = c := by simp
  have := key c.toNat c.toNat_lt h
  rw [e] at this
  exact this

theorem WrQ.low {T : List UInt8} (h : WrQ T) : low T = T := low_plain _ fun c hc => (small_facts c (h.mem c hc)).1

theorem low_app (a b : List UInt8) : low (a ++ b) = low a ++ low b := by simp [low]

def tCom : List UInt8 := [46, 99, 111, 109]

def tCOM : List UInt8 := [46, 67, 79, 77]

theorem hn_com : (∀ c ∈ tCom, hnC c = true) ∧ (∀ c ∈ tCOM, hnC c = true) ∧ low tCom = tCom ∧ low tCOM = tCom := by decide +kernel

theorem numbered_com (a : List UInt8) : numberedV (a ++ tCom) = false := numbered_no a [99, 111, 109] (by decide) (by decide) (by decide) (by decide)

/-- A name that ends with .com, of letters and points. -/
theorem com_parse (a t : List UInt8) (ha : ∀ c ∈ a, hnC c = true ∧ lowC c = c) (ht : t = tCom ∨ t = tCOM) : parseV (a ++ t) true = some (a ++ tCom) := by
  have hl : low (a ++ t) = a ++ tCom := by
    rw [low_app, low_plain a fun c hc => (ha c hc).2]
    rcases ht with rfl | rfl
    · rw [hn_com.2.2.1]
    · rw [hn_com.2.2.2]
  have := parse_name (a ++ t) (by rcases ht with rfl | rfl <;> simp [tCom, tCOM]) (fun c hc => by
    rcases List.mem_append.1 hc with hc | hc
    · exact (ha c hc).1
    · rcases ht with rfl | rfl
      · exact hn_com.1 c hc
      · exact hn_com.2.1 c hc) (by rw [hl]; exact numbered_com a)
  rw [this, hl]

/-- An address of such a host. -/
theorem com_url (sc a t pt : List UInt8) (port : Int) (hsc : sc = sHttp ∨ sc = sHttps) (ha : ∀ c ∈ a, hnC c = true ∧ lowC c = c) (h0 : a ≠ []) (ht : t = tCom ∨ t = tCOM)
    (hpt : (pt = [] ∧ port = -1) ∨ ∃ x, pt = 58 :: x ∧ (∀ c ∈ x, digP c = true) ∧ portV (ownV sc) x = some port) (hl : a.length + pt.length ≤ 200) :
    readV (sc ++ 58 :: 47 :: 47 :: ((a ++ t) ++ (pt ++ [47]))) none = .ok (wAdr sc (a ++ tCom) port [[]]) ∧ (sc ++ 58 :: 47 :: 47 :: ((a ++ t) ++ (pt ++ [47]))).length ≤ 300 := by
  have hn : ∀ c ∈ a ++ t, hnC c = true := fun c hc => by
    rcases List.mem_append.1 hc with hc | hc
    · exact (ha c hc).1
    · rcases ht with rfl | rfl
      · exact hn_com.1 c hc
      · exact hn_com.2.1 c hc
  have hd : ∀ n < 256, digP (UInt8.ofNat n) = true → auC (UInt8.ofNat n) = true ∧ UInt8.ofNat n ≠ 58 := by decide +kernel
  have hd2 : ∀ c, digP c = true → auC c = true ∧ c ≠ 58 := fun c hc => by
    have e : UInt8.ofNat c.toNat = c := by simp
    have := hd c.toNat c.toNat_lt
    rw [e] at this
    exact this hc
  have hlt : t.length = 4 := by rcases ht with rfl | rfl <;> rfl
  have := web_read sc (a ++ t) pt [47] (a ++ tCom) port hsc (fun c hc => by
    rcases List.mem_append.1 hc with hc | hc
    · exact (hnC_facts c (hn c hc)).1
    · rcases hpt with ⟨rfl, _⟩ | ⟨x, rfl, hx, _⟩
      · simp at hc
      · rcases List.mem_cons.1 hc with rfl | hc
        · decide
        · exact (hd2 c (hx c hc)).1) (by decide) (by rcases ht with rfl | rfl <;> simp [tCom, tCOM]) (by simp [tCom]) (fun e => (hnC_facts 58 (hn 58 e)).2.1 rfl) (by
      rcases hpt with h | ⟨x, rfl, hx, hp⟩
      · exact .inl h
      · exact .inr ⟨x, rfl, fun e => (hd2 58 (hx 58 e)).2 rfl, hp⟩) (.inr ⟨[], rfl⟩) (com_parse a t ha ht) (by simp [hlt]; omega)
  exact this

def pageS : Adr := wAdr sHttps [112] (-1) [[]]

def pageH : Adr := wAdr sHttp [112] (-1) [[]]

theorem star_below (x y : List UInt8) (hx : WrQ x) (hy : WrQ y) : hostM (low (42 :: 46 :: (x ++ tCom))) ((y ++ 46 :: x) ++ tCom) = true ∧ hostM (low (42 :: 46 :: (x ++ tCom))) (x ++ tCom) = false := by
  have e : low (42 :: 46 :: (x ++ tCom)) = 42 :: 46 :: (x ++ tCom) := by
    have h1 : low (42 :: 46 :: (x ++ tCom)) = 42 :: 46 :: low (x ++ tCom) := rfl
    rw [h1, low_app, hx.low, hn_com.2.2.1]
  rw [e]
  have hpre : Lib.hasPrefix (42 :: 46 :: (x ++ tCom)) [42, 46] = true := rfl
  have hne : decide ((42 :: 46 :: (x ++ tCom)) ≠ [42, 46]) = true := by simp [tCom]
  constructor
  · unfold hostM
    rw [if_neg (by simp [tCom]), hpre, hne]
    simp only [Bool.and_self, if_true, List.drop_succ_cons, List.drop_zero]
    have h1 : Lib.hasSuffix ((y ++ 46 :: x) ++ tCom) (46 :: (x ++ tCom)) = true := by
      unfold Lib.hasSuffix
      rw [List.isSuffixOf_iff_suffix]
      exact ⟨y, by simp⟩
    rw [h1]
    have : 0 < y.length := by
      obtain ⟨r, rfl, _⟩ := hy
      simp
    simp
    omega
  · unfold hostM
    rw [if_neg (by simp [tCom]), hpre, hne]
    simp only [Bool.and_self, if_true, List.drop_succ_cons, List.drop_zero]
    have : decide ((46 :: (x ++ tCom)).length < (x ++ tCom).length) = false := by simp
    rw [this, Bool.and_false]

/-- The six answers of the law SourceHosts. -/
theorem sh_1 (x y : List UInt8) (hx : WrQ x) (hy : WrQ y) : oneV (wAdr sHttps ((y ++ 46 :: x) ++ tCom) (-1) [[]]) pageS 0 (42 :: 46 :: (x ++ tCom)) = true := by
  have hh : ∀ c ∈ 42 :: 46 :: (x ++ tCom), c ≠ 58 ∧ c ≠ 47 := fun c hc => by
    rcases List.mem_cons.1 hc with rfl | hc
    · decide
    · rcases List.mem_cons.1 hc with rfl | hc
      · decide
      · rcases List.mem_append.1 hc with hc | hc
        · have := small_facts c (hx.mem c hc); exact ⟨this.2.2.2.2.1, this.2.2.2.1⟩
        · have : ∀ c ∈ tCom, c ≠ 58 ∧ c ≠ 47 := by decide
          exact this c hc
  have := one_plain (wAdr sHttps ((y ++ 46 :: x) ++ tCom) (-1) [[]]) pageS 0 (42 :: 46 :: (x ++ tCom)) [] [] (by simp) (.inl (by simp)) (by simp) hh (.inl rfl) (.inl rfl) (by simp)
  rw [List.append_nil, List.append_nil] at this
  rw [this, show (wAdr sHttps ((y ++ 46 :: x) ++ tCom) (-1) [[]]).host = (y ++ 46 :: x) ++ tCom from rfl, (star_below x y hx hy).1]
  rfl

theorem sh_2 (x : List UInt8) (hx : WrQ x) : oneV (wAdr sHttps (x ++ tCom) (-1) [[]]) pageS 0 (42 :: 46 :: (x ++ tCom)) = false := by
  have hh : ∀ c ∈ 42 :: 46 :: (x ++ tCom), c ≠ 58 ∧ c ≠ 47 := fun c hc => by
    rcases List.mem_cons.1 hc with rfl | hc
    · decide
    · rcases List.mem_cons.1 hc with rfl | hc
      · decide
      · rcases List.mem_append.1 hc with hc | hc
        · have := small_facts c (hx.mem c hc); exact ⟨this.2.2.2.2.1, this.2.2.2.1⟩
        · have : ∀ c ∈ tCom, c ≠ 58 ∧ c ≠ 47 := by decide
          exact this c hc
  have := one_plain (wAdr sHttps (x ++ tCom) (-1) [[]]) pageS 0 (42 :: 46 :: (x ++ tCom)) [] [] (by simp) (.inl (by simp)) (by simp) hh (.inl rfl) (.inl rfl) (by simp)
  rw [List.append_nil, List.append_nil] at this
  rw [this, show (wAdr sHttps (x ++ tCom) (-1) [[]]).host = x ++ tCom from rfl, (star_below x x hx hx).2]
  rfl

theorem hx_com (x : List UInt8) (hx : WrQ x) : (∀ c ∈ x ++ tCom, c ≠ 58 ∧ c ≠ 47) ∧ (x ++ tCom) ≠ [] ∧ (x ++ tCom).head? ≠ some 42 ∧ (x ++ tCom).head? ≠ some 39 ∧ low (x ++ tCom) = x ++ tCom ∧ 2 ≤ (x ++ tCom).length := by
  have h0 := hx
  obtain ⟨r, rfl, hr⟩ := hx
  refine ⟨fun c hc => ?_, by simp, by simp, by simp, by rw [low_app, h0.low, hn_com.2.2.1], by simp [tCom]⟩
  rcases List.mem_append.1 hc with hc | hc
  · have := small_facts c (h0.mem c hc); exact ⟨this.2.2.2.2.1, this.2.2.2.1⟩
  · have : ∀ c ∈ tCom, c ≠ 58 ∧ c ≠ 47 := by decide
    exact this c hc

theorem host_refl (h : List UInt8) (h0 : h ≠ []) : hostM h h = true := host_self h h0

theorem sh_3 (x : List UInt8) (hx : WrQ x) : oneV (wAdr sHttps (x ++ tCom) (-1) [[]]) pageH 0 (x ++ tCom) = true := by
  obtain ⟨h1, h2, h3, h4, h5, h6⟩ := hx_com x hx
  have := one_plain (wAdr sHttps (x ++ tCom) (-1) [[]]) pageH 0 (x ++ tCom) [] [] h2 (.inl h6) h4 h1 (.inl rfl) (.inl rfl) (by simp)
  rw [List.append_nil, List.append_nil] at this
  rw [this, h5, show (wAdr sHttps (x ++ tCom) (-1) [[]]).host = x ++ tCom from rfl, host_self _ h2]
  rfl

theorem sh_4 (x : List UInt8) (hx : WrQ x) : oneV (wAdr sHttp (x ++ tCom) (-1) [[]]) pageS 0 (x ++ tCom) = false := by
  obtain ⟨h1, h2, h3, h4, h5, h6⟩ := hx_com x hx
  have := one_plain (wAdr sHttp (x ++ tCom) (-1) [[]]) pageS 0 (x ++ tCom) [] [] h2 (.inl h6) h4 h1 (.inl rfl) (.inl rfl) (by simp)
  rw [List.append_nil, List.append_nil] at this
  rw [this]
  rfl

/-- The port that a number is read as, of https. -/
def prt (n : Nat) : Int := if (n : Int) = 443 then -1 else n

theorem dec_int {n : Nat} {T : List UInt8} (h : Dec n T) : intV T = n ∧ intOk T = true := by
  obtain ⟨h1, h2, h3, h4⟩ := h
  have he : T.isEmpty = false := by
    cases T with
    | nil => exact absurd rfl h1
    | cons c r => rfl
  unfold intV intOk
  rw [h2, he]
  exact ⟨h3, rfl⟩

theorem dec_port {n : Nat} {T : List UInt8} (h : Dec n T) (hn : n ≤ 65535) : portV (ownV sHttps) T = some (prt n) := by
  obtain ⟨h1, h2⟩ := dec_int h
  unfold portV
  rw [if_neg h.1, h2, h1]
  have : ownV sHttps = 443 := by decide
  rw [this, decide_eq_true (by omega)]
  rfl

theorem sh_5 (x T : List UInt8) (n : Nat) (hx : WrQ x) (hT : Dec n T) (hn : n ≤ 65535) : oneV (wAdr sHttps (x ++ tCom) (prt n) [[]]) pageS 0 ((x ++ tCom) ++ 58 :: T) = true := by
  obtain ⟨h1, h2, h3, h4, h5, h6⟩ := hx_com x hx
  have h47 : 47 ∉ T := fun e => by
    have := List.all_eq_true.1 hT.2.1 47 e
    revert this; decide
  have := one_plain (wAdr sHttps (x ++ tCom) (prt n) [[]]) pageS 0 (x ++ tCom) (58 :: T) [] h2 (.inl h6) h4 h1 (.inr ⟨T, rfl, hT.1, h47⟩) (.inl rfl) (by simp)
  rw [List.append_nil] at this
  rw [this, h5, show (wAdr sHttps (x ++ tCom) (prt n) [[]]).host = x ++ tCom from rfl, host_self _ h2]
  have hp : portM (58 :: T) (wAdr sHttps (x ++ tCom) (prt n) [[]]) = true := by
    unfold portM
    rw [if_neg (by simp)]
    split
    · rfl
    · obtain ⟨e1, e2⟩ := dec_int hT
      rw [List.drop_succ_cons, List.drop_zero, e1, e2]
      have : hasP (wAdr sHttps (x ++ tCom) (prt n) [[]]) = n := by
        unfold hasP wAdr prt
        simp only
        by_cases h : (n : Int) = 443
        · rw [if_pos h, if_pos rfl, h]; decide
        · rw [if_neg h, if_neg (by omega)]
      rw [this]
      simp
  rw [hp]
  rfl

theorem sh_6 (x : List UInt8) (port : Int) (hx : WrQ x) : oneV (wAdr sHttps (x ++ tCom) port [[]]) pageS 0 ((x ++ tCom) ++ [58, 42]) = true := by
  obtain ⟨h1, h2, h3, h4, h5, h6⟩ := hx_com x hx
  have := one_plain (wAdr sHttps (x ++ tCom) port [[]]) pageS 0 (x ++ tCom) [58, 42] [] h2 (.inl h6) h4 h1 (.inr ⟨[42], rfl, by simp, by decide⟩) (.inl rfl) (by simp)
  rw [List.append_nil] at this
  rw [this, h5, show (wAdr sHttps (x ++ tCom) port [[]]).host = x ++ tCom from rfl, host_self _ h2]
  rfl

end Go.Proofs.YtkhpemjjholneaaGreatDoor

namespace Go.Proofs.YtkhpemjjholneaaGreatDoor
/-- Small letters, one at least. -/
def Lets (T : List UInt8) : Prop := T ≠ [] ∧ ∀ c ∈ T, 97 ≤ c.toNat ∧ c.toNat ≤ 122

theorem WrQ.lets {T : List UInt8} (h : WrQ T) : Lets T := ⟨h.ne, h.mem⟩

theorem Lets.no {T : List UInt8} (h : Lets T) : 47 ∉ T ∧ 58 ∉ T ∧ 37 ∉ T := ⟨fun e => (small_facts 47 (h.2 47 e)).2.2.2.1 rfl, fun e => (small_facts 58 (h.2 58 e)).2.2.2.2.1 rfl, fun e => (small_facts 37 (h.2 37 e)).2.2.2.2.2.1 rfl⟩

theorem Lets.unpct {T : List UInt8} (h : Lets T) : unpct T = T := unpct_plain T h.no.2.2

theorem Lets.pct {T : List UInt8} (h : Lets T) : pct 5 T = T := by
  have key : ∀ l : List UInt8, (∀ c ∈ l, 97 ≤ c.toNat ∧ c.toNat ≤ 122) → Go.Proofs.YtkhpemjjholneaaGreatDoor.pct 5 l = l := by
    intro l
    induction l with
    | nil => intro _; rfl
    | cons c l ih =>
      intro hl
      unfold Go.Proofs.YtkhpemjjholneaaGreatDoor.pct at ih ⊢
      rw [List.flatMap_cons, ih fun d hd => hl d (by simp [hd])]
      unfold pct1
      rw [(small_facts c (hl c (by simp))).2.2.2.2.2.2.2.1]
      rfl
  exact key T h.2

theorem Lets.dots {T : List UInt8} (h : Lets T) : dotsV T = 0 := by
  unfold dotsV
  rw [h.unpct]
  have h46 : 46 ∉ T := fun e => (small_facts 46 (h.2 46 e)).2.2.1 rfl
  rw [if_neg (fun e => h46 (by rw [e]; simp)), if_neg (fun e => h46 (by rw [e]; simp))]

theorem two_path (x y : List UInt8) (hx : Lets x) (hy : Lets y) : pathV true [] (47 :: (x ++ 47 :: y)) = [x, y] := by
  unfold pathV
  rw [if_neg (by simp)]
  have : over1 (47 :: (x ++ 47 :: y)) = x ++ 47 :: y := by simp [over1]
  rw [this, cutL_some 47 x y hx.no.1, cutL_none 47 y hy.no.1]
  rw [pathL, hx.dots, if_neg (by decide), if_neg (by decide), pathL, hy.dots, if_neg (by decide), if_neg (by decide), hx.pct, hy.pct]
  rfl

theorem two_url (x y : List UInt8) (hx : Lets x) (hy : Lets y) (hl : x.length + y.length ≤ 100) :
    readV (sHttps ++ 58 :: 47 :: 47 :: ([104] ++ ([] ++ 47 :: (x ++ 47 :: y)))) none = .ok (wAdr sHttps [104] (-1) [x, y]) ∧ (sHttps ++ 58 :: 47 :: 47 :: ([104] ++ ([] ++ 47 :: (x ++ 47 :: y)))).length ≤ 300 := by
  have hp : ∀ c ∈ 47 :: (x ++ 47 :: y), paC c = true := fun c hc => by
    rcases List.mem_cons.1 hc with rfl | hc
    · decide
    · rcases List.mem_append.1 hc with hc | hc
      · exact (small_facts c (hx.2 c hc)).2.2.2.2.2.2.1
      · rcases List.mem_cons.1 hc with rfl | hc
        · decide
        · exact (small_facts c (hy.2 c hc)).2.2.2.2.2.2.1
  have := web_read sHttps [104] [] (47 :: (x ++ 47 :: y)) [104] (-1) (.inr rfl) (by decide) hp (by simp) (by simp) (by decide) (.inl ⟨rfl, rfl⟩) (.inr ⟨_, rfl⟩) (by decide +kernel) (by simp; omega)
  rw [two_path x y hx hy] at this
  exact this

theorem one_h (x y pa : List UInt8) (hops : Int) (hpa : ∃ t, pa = 47 :: t) (h58 : 58 ∉ pa) : oneV (wAdr sHttps [104] (-1) [x, y]) pageS hops (104 :: pa) = pathM hops (wAdr sHttps [104] (-1) [x, y]) pa := by
  have := one_plain (wAdr sHttps [104] (-1) [x, y]) pageS hops [104] [] pa (by simp) (.inr (by decide)) (by decide) (by decide) (.inl rfl) (.inr hpa) h58
  rw [show (104 :: pa : List UInt8) = [104] ++ ([] ++ pa) from rfl, this]
  have e1 : schM pageS.scheme (wAdr sHttps [104] (-1) [x, y]).scheme = true := by show schM sHttps sHttps = true; decide
  have e2 : hostM (low [104]) (wAdr sHttps [104] (-1) [x, y]).host = true := by show hostM (low [104]) [104] = true; decide
  have e3 : portM [] (wAdr sHttps [104] (-1) [x, y]) = true := rfl
  rw [e1, e2, e3]
  rfl

theorem suffix_slash (a : List UInt8) : Lib.hasSuffix (a ++ [47]) [47] = true := by
  unfold Lib.hasSuffix
  rw [List.isSuffixOf_iff_suffix]
  exact ⟨a, rfl⟩

theorem suffix_let (a T : List UInt8) (h : Lets T) : Lib.hasSuffix (a ++ T) [47] = false := by
  rw [Bool.eq_false_iff]
  intro e
  unfold Lib.hasSuffix at e
  rw [List.isSuffixOf_iff_suffix] at e
  obtain ⟨t, ht⟩ := e
  have h1 : (a ++ T).getLast? = some 47 := by rw [← ht]; simp
  cases hT : T.getLast? with
  | none => exact h.1 (by simpa using hT)
  | some z =>
    rw [List.getLast?_append, hT] at h1
    simp at h1
    exact h.no.1 (h1 ▸ List.mem_of_getLast? hT)

theorem sp_1 (x y : List UInt8) (hx : Lets x) (hy : Lets y) : oneV (wAdr sHttps [104] (-1) [x, y]) pageS 0 (104 :: 47 :: (x ++ [47])) = true := by
  rw [one_h x y _ 0 ⟨_, rfl⟩ (by simp [hx.no.2.1])]
  unfold pathM
  rw [if_neg (by simp), if_neg (by simp [wAdr]), show (47 :: (x ++ [47])) = (47 :: x) ++ [47] from rfl, suffix_slash, if_pos rfl]
  have : List.drop 1 (47 :: x ++ [47]) = x ++ 47 :: [] := rfl
  rw [this, cutL_some 47 x [] hx.no.1, cutL_none 47 [] (by simp)]
  show begN ([unpct x, unpct []].dropLast) ([x, y].map unpct) = true
  simp [begN, hx.unpct, hy.unpct]

theorem sp_2 (x y : List UInt8) (hx : Lets x) (hy : Lets y) : oneV (wAdr sHttps [104] (-1) [x, y]) pageS 0 (104 :: 47 :: x) = false := by
  rw [one_h x y _ 0 ⟨_, rfl⟩ (by simp [hx.no.2.1])]
  unfold pathM
  rw [if_neg (by simp [hx.1]), if_neg (by simp [wAdr]), show (47 :: x) = [47] ++ x from rfl, suffix_let _ x hx, if_neg (by decide)]
  have : List.drop 1 ([47] ++ x) = x := rfl
  rw [this, cutL_none 47 x hx.no.1]
  show ([unpct x] == [unpct x, unpct y]) = false
  simp

theorem sp_3 (x y : List UInt8) (hx : Lets x) (hy : Lets y) : oneV (wAdr sHttps [104] (-1) [x, y]) pageS 0 (104 :: 47 :: (x ++ 47 :: y)) = true := by
  rw [one_h x y _ 0 ⟨_, rfl⟩ (by simp [hx.no.2.1, hy.no.2.1])]
  unfold pathM
  rw [if_neg (by simp), if_neg (by simp [wAdr]), show (47 :: (x ++ 47 :: y)) = (47 :: (x ++ [47])) ++ y by simp, suffix_let _ y hy, if_neg (by decide)]
  have : List.drop 1 ((47 :: (x ++ [47])) ++ y) = x ++ 47 :: y := by simp
  rw [this, cutL_some 47 x y hx.no.1, cutL_none 47 y hy.no.1]
  show ([unpct x, unpct y] == [unpct x, unpct y]) = true
  simp

theorem sp_4 (x y : List UInt8) (hx : Lets x) (hy : Lets y) : oneV (wAdr sHttps [104] (-1) [x, y]) pageS 0 (104 :: 47 :: (x ++ 47 :: (y ++ [47]))) = false := by
  rw [one_h x y _ 0 ⟨_, rfl⟩ (by simp [hx.no.2.1, hy.no.2.1])]
  unfold pathM
  rw [if_neg (by simp), if_neg (by simp [wAdr]), show (47 :: (x ++ 47 :: (y ++ [47]))) = (47 :: (x ++ 47 :: y)) ++ [47] by simp, suffix_slash, if_pos rfl]
  have : List.drop 1 (47 :: (x ++ 47 :: y) ++ [47]) = x ++ 47 :: (y ++ 47 :: []) := by simp
  rw [this, cutL_some 47 x _ hx.no.1, cutL_some 47 y [] hy.no.1, cutL_none 47 [] (by simp)]
  show begN ([unpct x, unpct y, unpct []].dropLast) ([x, y].map unpct) = false
  simp [begN]

theorem sp_56 (x y : List UInt8) (hx : WrQ x) (hy : Lets y) : oneV (wAdr sHttps [104] (-1) [x, y]) pageS 0 (104 :: 47 :: 119 :: (y ++ [47])) = false ∧ oneV (wAdr sHttps [104] (-1) [x, y]) pageS 1 (104 :: 47 :: 119 :: (y ++ [47])) = true := by
  have hwy : Lets (119 :: y) := ⟨by simp, fun c hc => by
    rcases List.mem_cons.1 hc with rfl | hc
    · decide
    · exact hy.2 c hc⟩
  constructor
  · rw [one_h x y _ 0 ⟨_, rfl⟩ (by simp [hy.no.2.1])]
    unfold pathM
    rw [if_neg (by simp), if_neg (by simp [wAdr]), show (47 :: 119 :: (y ++ [47])) = (47 :: 119 :: y) ++ [47] by simp, suffix_slash, if_pos rfl]
    have : List.drop 1 (47 :: 119 :: y ++ [47]) = (119 :: y) ++ 47 :: [] := by simp
    rw [this, cutL_some 47 (119 :: y) [] hwy.no.1, cutL_none 47 [] (by simp)]
    show begN ([unpct (119 :: y), unpct []].dropLast) ([x, y].map unpct) = false
    simp only [List.map_cons, List.map_nil, hwy.unpct, hx.lets.unpct, hy.unpct]
    obtain ⟨r, rfl, _⟩ := hx
    simp [begN]
  · rw [one_h x y _ 1 ⟨_, rfl⟩ (by simp [hy.no.2.1])]
    unfold pathM
    rw [if_pos (.inl (by decide))]

theorem sp_7 (x y : List UInt8) : oneV (wAdr sHttps [104] (-1) [x, y]) pageS 0 [104, 47] = true := by
  rw [one_h x y _ 0 ⟨_, rfl⟩ (by decide)]
  rfl

end Go.Proofs.YtkhpemjjholneaaGreatDoor

namespace Go.Proofs.YtkhpemjjholneaaGreatDoor
open Go.RowKit

set_option maxHeartbeats 2000000 in
theorem digits11_any (n : Nat) (w : World) (hn : n ≤ 4294967296) :
    Calls Tryz.prog 36 #[.int .i64 n] w fun e w' => ∃ T, e = .returned (.string ⟨T.toArray⟩) ∧ Dec n T ∧ w = w' := by
  have H0 := hid (decI_start n (by omega))
  go_enter Tryz.func36, Tryz.ntmps36
  go_wp2
  go_loopg [0, 3, 4] 20 (fun f nv sv _ wr => ∃ (u : Nat) (T : List UInt8), nv = .int .i64 u ∧ sv = .string ⟨T.toArray⟩ ∧ u ≤ 4294967296 ∧ DecI n f u T ∧ wr = w)
  case atStart => exact ⟨n, [], rfl, rfl, hn, H0.out, rfl⟩
  case round =>
    obtain ⟨u, T, rfl, rfl, hu, hinv, rfl⟩ := hrel
    have hTl : T.length ≤ 20 := by have := hinv.2.1; omega
    have HI := hid hinv
    clear hinv
    have hm : u % 10 < 10 := by omega
    by_cases hp : 0 < u ∨ T = []
    · obtain ⟨g, rfl, hnext⟩ := decI_step n _ u T hn hu HI.out hp
      have HN := hid hnext
      have HX := hid (xtens_app (u % 10) hm T)
      have hul : u / 10 ≤ 4294967296 := by omega
      clear hnext
      by_cases h0 : 0 < u
      · have h0' : (0 : Int) < (u : Int) := by omega
        clear hp
        go_wp2
        go_roundg g
        case measure => omega
        case rel => exact ⟨_, _, by go_num, by rw [HX.out], hul, HN.out, rfl⟩
      · have hT0 : T = [] := hp.resolve_left h0
        have hu0 : u = 0 := by omega
        subst hT0
        subst hu0
        clear hp h0
        go_wp2
        go_roundg g
        case measure => omega
        case rel => exact ⟨_, _, by go_num, by rw [HX.out], hul, HN.out, rfl⟩
    · have hu0 : u = 0 := by omega
      have hT : T ≠ [] := fun h => hp (.inr h)
      have HD := hid (decI_done n _ u T HI.out hu0 hT)
      have he : T.isEmpty = false := by simpa using hT
      subst hu0
      clear hp hT
      go_wp2
      go_ret
      exact ⟨T, rfl, HD.out, rfl⟩

set_option maxHeartbeats 2000000 in
theorem word11_any (s : ByteArray) (w : World) (hs : s.size ≤ 9223372036854775807) :
    Calls Tryz.prog 35 #[.string s] w fun e w' => ∃ T, e = .returned (.string ⟨T.toArray⟩) ∧ WrQ T ∧ T.length ≤ 12 ∧ w = w' := by
  go_enter Tryz.func35, Tryz.ntmps35
  go_wp2
  go_loop [3, 4] (fun o i => ∃ (k : Nat) (T : List UInt8), k ≤ s.size ∧ i = .int .i64 k ∧ o = .string ⟨T.toArray⟩ ∧ WrQ T ∧ T.length ≤ 12) (fun o i => s.size - (intOf i).toNat)
  case atStart => exact ⟨0, [113], Nat.zero_le _, rfl, rfl, WrQ.start, by decide⟩
  case round =>
    obtain ⟨k, T, hk, rfl, rfl, hT, hTl⟩ := hrel
    have HT := hid hT
    clear hT
    by_cases hlt : k < s.size
    · have hlt' : (k : Int) < (s.size : Int) := by omega
      have HW := hid (word_app s k hlt T)
      by_cases h12 : T.length < 12
      · have h12' : (T.length : Int) < 12 := by omega
        have hb := s[k].toNat_lt
        by_cases ha : 97 ≤ s[k].toNat
        · by_cases hz : s[k].toNat ≤ 122
          · have hwk : k + 1 ≤ s.size := by omega
            have HN := hid (HT.out.snoc ha hz)
            go_wp2
            go_round
            case rel => exact ⟨k + 1, T ++ [s[k]], by omega, by go_num, by rw [HW.out], HN.out, by simp; omega⟩
            case measure => simp [intOf]; omega
          · go_wp2
            go_round
            case rel => exact ⟨k + 1, T, by omega, by go_num, rfl, HT.out, hTl⟩
            case measure => simp [intOf]; omega
        · have ha' : decide ((97 : Int) ≤ (s[k].toNat : Int)) = false := by rw [decide_eq_false_iff_not]; omega
          go_wp2
          go_round
          case rel => exact ⟨k + 1, T, by omega, by go_num, rfl, HT.out, hTl⟩
          case measure => simp [intOf]; omega
      · go_wp2
        go_ret
        exact ⟨T, rfl, HT.out, hTl, rfl⟩
    · have hlt' : decide ((k : Int) < (s.size : Int)) = false := by rw [decide_eq_false_iff_not]; omega
      go_wp2
      go_ret
      exact ⟨T, rfl, HT.out, hTl, rfl⟩

theorem known_1 : lawOne [42, 46, 98, 46, 99, 111, 109] [104, 116, 116, 112, 115, 58, 47, 47, 97, 46, 98, 46, 99, 111, 109, 47] [104, 116, 116, 112, 115, 58, 47, 47, 112, 47] 0 = true := by decide +kernel

theorem known_2 : lawOne [98, 46, 99, 111, 109] [104, 116, 116, 112, 115, 58, 47, 47, 98, 46, 99, 111, 109, 58, 52, 52, 52, 47] [104, 116, 116, 112, 115, 58, 47, 47, 112, 47] 0 = false := by decide +kernel

theorem known_3 : lawOne [104, 116, 116, 112, 58, 47, 47, 98, 46, 99, 111, 109, 47, 120, 47] [104, 116, 116, 112, 115, 58, 47, 47, 98, 46, 99, 111, 109, 47, 120, 47, 121] [104, 116, 116, 112, 115, 58, 47, 47, 112, 47] 0 = true := by decide +kernel

theorem known_4 : lawOne [104, 116, 116, 112, 115, 58] [104, 116, 116, 112, 58, 47, 47, 97, 47] [104, 116, 116, 112, 58, 47, 47, 112, 47] 0 = false := by decide +kernel

/-- A call of one at given texts. -/
theorem lawOne_at (s u p : ByteArray) (hops : Int) (b : Bool) (w : World) (hg : Gd w) (hs : s.size ≤ 4000000000) (hu : u.size ≤ 1000000) (hp : p.size ≤ 1000000) (h : lawOne s.data.toList u.data.toList p.data.toList hops = b) :
    Calls Tryz.prog 30 #[.string s, .string u, .string p, .int .i64 hops] w fun e w' => e = .returned (.bool b) ∧ Below w.heap.size w w' := by
  rw [← h]
  exact lawOne_any s u p hops w hg hs (by omega) (by omega)

set_option maxHeartbeats 2000000 in
set_option maxRecDepth 100000 in
theorem known11_any (w : World) (hg : Gd w) :
    Calls Tryz.prog 33 #[] w fun e w' => e = .returned (.bool true) ∧ Below w.heap.size w w' := by
  have H1 := hid (fun w hg => lawOne_at ⟨#[42, 46, 98, 46, 99, 111, 109]⟩ ⟨#[104, 116, 116, 112, 115, 58, 47, 47, 97, 46, 98, 46, 99, 111, 109, 47]⟩ ⟨#[104, 116, 116, 112, 115, 58, 47, 47, 112, 47]⟩ 0 true w hg (by decide) (by decide) (by decide) known_1)
  have H2 := hid (fun w hg => lawOne_at ⟨#[98, 46, 99, 111, 109]⟩ ⟨#[104, 116, 116, 112, 115, 58, 47, 47, 98, 46, 99, 111, 109, 58, 52, 52, 52, 47]⟩ ⟨#[104, 116, 116, 112, 115, 58, 47, 47, 112, 47]⟩ 0 false w hg (by decide) (by decide) (by decide) known_2)
  have H3 := hid (fun w hg => lawOne_at ⟨#[104, 116, 116, 112, 58, 47, 47, 98, 46, 99, 111, 109, 47, 120, 47]⟩ ⟨#[104, 116, 116, 112, 115, 58, 47, 47, 98, 46, 99, 111, 109, 47, 120, 47, 121]⟩ ⟨#[104, 116, 116, 112, 115, 58, 47, 47, 112, 47]⟩ 0 true w hg (by decide) (by decide) (by decide) known_3)
  have H4 := hid (fun w hg => lawOne_at ⟨#[104, 116, 116, 112, 115, 58]⟩ ⟨#[104, 116, 116, 112, 58, 47, 47, 97, 47]⟩ ⟨#[104, 116, 116, 112, 58, 47, 47, 112, 47]⟩ 0 false w hg (by decide) (by decide) (by decide) known_4)
  have HG := hid hg
  clear hg
  go_enter Tryz.func33, Tryz.ntmps33
  go_wp2_with fail
  refine (H1.out _ HG.out).mono ?_
  rintro e w1 ⟨rfl, hb1⟩
  have HB1 := hid hb1
  clear hb1
  go_wp2_with fail
  refine (H2.out _ (HG.out.kept HB1.out)).mono ?_
  rintro e w2 ⟨rfl, hb2⟩
  have HB2 := hid (below2 HB1.out hb2)
  clear hb2
  go_wp2_with fail
  refine (H3.out _ (HG.out.kept HB2.out)).mono ?_
  rintro e w3 ⟨rfl, hb3⟩
  have HB3 := hid (below2 HB2.out hb3)
  clear hb3
  go_wp2_with fail
  refine (H4.out _ (HG.out.kept HB3.out)).mono ?_
  rintro e w4 ⟨rfl, hb4⟩
  have HB4 := hid (below2 HB3.out hb4)
  clear hb4
  go_wp2
  go_ret
  exact ⟨rfl, HB4.out⟩

end Go.Proofs.YtkhpemjjholneaaGreatDoor
