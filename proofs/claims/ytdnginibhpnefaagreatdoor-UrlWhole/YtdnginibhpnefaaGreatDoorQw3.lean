/-
  Walks and plain facts that this claim leans on, put together out of 6 texts: Erud, Eruf, Xc, Xh, Ere, Erw.
-/
import Derived.Test.YtdnginibhpnefaaGreatDoorProg
import Derived.Test.YtdnginibhpnefaaGreatDoorQa1
import Derived.Test.YtdnginibhpnefaaGreatDoorQa2
import Derived.Test.YtdnginibhpnefaaGreatDoorQa3
import Derived.Test.YtdnginibhpnefaaGreatDoorQa4
import Derived.Test.YtdnginibhpnefaaGreatDoorQa5
import Derived.Test.YtdnginibhpnefaaGreatDoorQa6
import Derived.Test.YtdnginibhpnefaaGreatDoorQa7
import Derived.Test.YtdnginibhpnefaaGreatDoorQa8
import Derived.Test.YtdnginibhpnefaaGreatDoorQa9
import Derived.Test.YtdnginibhpnefaaGreatDoorQa10
import Derived.Test.YtdnginibhpnefaaGreatDoorQa11
import Derived.Test.YtdnginibhpnefaaGreatDoorQa12
import Derived.Test.YtdnginibhpnefaaGreatDoorQa13
import Derived.Test.YtdnginibhpnefaaGreatDoorQa14
import Derived.Test.YtdnginibhpnefaaGreatDoorQa15
import Derived.Test.YtdnginibhpnefaaGreatDoorQa16
import Derived.Test.YtdnginibhpnefaaGreatDoorQa17
import Derived.Test.YtdnginibhpnefaaGreatDoorQa18
import Derived.Test.YtdnginibhpnefaaGreatDoorQa19
import Derived.Test.YtdnginibhpnefaaGreatDoorQa20
import Derived.Test.YtdnginibhpnefaaGreatDoorQa21
import Derived.Test.YtdnginibhpnefaaGreatDoorQa22
import Derived.Test.YtdnginibhpnefaaGreatDoorQa23
import Derived.Test.YtdnginibhpnefaaGreatDoorQa24
import Derived.Test.YtdnginibhpnefaaGreatDoorQa25
import Derived.Test.YtdnginibhpnefaaGreatDoorQa26
import Derived.Test.YtdnginibhpnefaaGreatDoorQa27
import Derived.Test.YtdnginibhpnefaaGreatDoorQa28
import Derived.Test.YtdnginibhpnefaaGreatDoorQa29
import Derived.Test.YtdnginibhpnefaaGreatDoorQa30
import Derived.Test.YtdnginibhpnefaaGreatDoorQa31
import Derived.Test.YtdnginibhpnefaaGreatDoorQa32
import Derived.Test.YtdnginibhpnefaaGreatDoorQa33
import Derived.Test.YtdnginibhpnefaaGreatDoorQw1
import Derived.Test.YtdnginibhpnefaaGreatDoorQw2
import Derived.WalkKit
import Derived.Laws.IdiomStrings
import Derived.Laws.BytesString
import Derived.Laws.AppendOwn
import Derived.OwnWalk
import Derived.Laws.CopyOwn
import Derived.Laws.ResultCell
import Derived.Deep.MidRow
import Derived.Lib.Bytealg
import Derived.WalkSpells
import Derived.WalkLawsBesides
import Derived.Lib.IndexMore
import Derived.Lib.Join
import Derived.Lib.BufferMore
import Derived.LoopN
import Derived.RegionTactic
import Derived.Deep.RegionWith
import Derived.Deep.QuietTactic
import Derived.BigQuiet
import Derived.Laws.BitsAllLaws
import Derived.Deep.LoopGhost
import Derived.Deep.WholeRow
import Derived.Lib.Strings
import Derived.Lib.UnsafeStr
import Derived.WalkMore
import Derived.Deep.RegionLaw
import Derived.Scope
import Derived.ScopeJumps
import Derived.Laws.RangeAny
import Derived.Lib.DecodeN
import Derived.Lib.OthersKept
import Derived.Lib.AppendStr
import Derived.Laws.OwnMore
import Derived.Lib.AppendIntMem
import Derived.Lib.SmallJoins
import Derived.WalkSmall
import Derived.Shelf.Strings.Builder1
import Derived.Shelf.Strings.Builder2
import Derived.Shelf.Strings.OnBuilder
import Derived.Shelf.Strings.Trim
import Derived.Shelf.Small.Utf8
import Derived.Shelf.Small.Strs
import Derived.Shelf.Small.Wraps
import Derived.Shelf.Strings.BuilderF
import Derived.Shelf.Strings.BuilderK
import Derived.Shelf.Strings.Builder2Cap
import Derived.Shelf.Strconv.Itoa0
import Derived.Shelf.Strconv.Itoa1
import Derived.Shelf.LaysM
import Derived.Shelf.Strconv.Itoa2
import Derived.Shelf.Strconv.Itoa3
import Derived.Shelf.Strings.Search1
import Derived.Shelf.Strings.Search2
import Derived.Shelf.Strings.Search3
import Derived.Shelf.Strings.Cut
import Derived.Shelf.Strings.Count
import Derived.Shelf.Strings.Shaped
import Derived.Shelf.Strings.LastIndex
import Derived.Shelf.Strings.Prefix
import Derived.Shelf.Strings.Split
import Derived.Shelf.Strings.Replace
import Derived.Shelf.Strings.Runes
import Derived.Shelf.Strings.IndexAny
import Derived.Shelf.Strings.AsciiSet
import Derived.Shelf.Strings.IndexAnyAll
import Derived.Shelf.Unicode.DecodeSlow
import Derived.Ground.Names2Prog
import Derived.Shelf.Slices.Clone
import Derived.Ground.SlgnProg
import Derived.Shelf.SlicesE.Clone
import Derived.Lib.IndexAny
import Derived.Lib.Replace
import Derived.Lib.TrimByte
import Derived.Lib.ItoaNum
import Derived.Lib.FrozenHead2
import Derived.Lib.Builder
import Derived.Lib.SlTrimSet
import Derived.Deep.RegionHeld
import Derived.Lib.LastIndexByte
import Derived.BigRegion
import Derived.Below
import Derived.Deep.Cut
import Derived.Lib.BufferRead
import Derived.Lib.RuneBytes
import Derived.Laws.AppendOwnNone
import Derived.Deep.CutRange
set_option linter.unusedSimpArgs false
set_option linter.unusedVariables false

namespace Go.Proofs.YtdnginibhpnefaaGreatDoor
theorem clean_mid (c z : UInt8) (t a : List UInt8) (e : c :: t = a ++ [z]) (hc : 33 ≤ c.toNat) (hz : 33 ≤ z.toNat) (hall : ∀ x ∈ c :: t, 32 ≤ x.toNat) : cleanV (c :: t) = c :: t := by
  have w : ∀ x : UInt8, 33 ≤ x.toNat → wsC x = false := fun x hx => by unfold wsC; rw [decide_eq_false]; omega
  have h1 : (c :: t).dropWhile wsC = c :: t := by rw [List.dropWhile_cons, w c hc]; rfl
  have h2 : (c :: t).reverse.dropWhile wsC = (c :: t).reverse := by
    rw [e, List.reverse_append, List.reverse_singleton, List.singleton_append, List.dropWhile_cons, w z hz]; rfl
  unfold cleanV trimV
  rw [h1, h2, List.reverse_reverse, List.filter_eq_self]
  intro x hx
  have := hall x hx
  unfold eyeC
  simp only [Bool.not_eq_true', Bool.or_eq_false_iff, beq_eq_false_iff_ne]
  refine ⟨?_, ?_, ?_⟩ <;> (intro e; subst e; revert this; decide)

theorem text_split (u : Adr) : textV u = (u.scheme ++ 58 :: rT u) ++ fT u := rfl

theorem bare_no35 {u : Adr} (h : Str u) (hg : Good3 u) : 35 ∉ u.scheme ++ 58 :: rT u := by
  have hq : 35 ∉ qT u := by
    unfold qT
    split
    · intro e
      rcases List.mem_cons.1 e with e | e
      · cases e
      · have hm : 35 ∈ querV (specV u.scheme) u.query := by rw [h.pre.qry]; exact e
        unfold querV at hm
        have := pct_mem _ _ _ hm
        cases hs : specV u.scheme with
        | true => rw [hs] at this; exact absurd this (by decide)
        | false => rw [hs] at this; exact absurd this (by decide)
    · simp
  have hpa : 35 ∉ pathT u := by
    cases ho : u.opq with
    | true =>
      obtain ⟨-, -, x, hx, -, -, -, h35⟩ := h.opq ho
      have : pathT u = x := by unfold pathT; rw [ho, hx]; simp
      rw [this]; exact h35
    | false =>
      have : pathT u = (if u.hasHost = false ∧ 1 < u.path.length ∧ u.path.head? = some [] then [47, 46] else []) ++ paT u := by unfold pathT paT; rw [ho]; rfl
      rw [this]
      intro e
      rcases List.mem_append.1 e with e | e
      · split at e
        · revert e; decide
        · simp at e
      · exact (pa_no h ho).2.2 e
  have hau : 35 ∉ authT u := by
    cases hh : u.hasHost with
    | true =>
      rw [authT_eq u hh]
      intro e
      simp at e
      exact (au_ne h.pre hg.pre.host 35 e).2.2.2 rfl
    | false => unfold authT; rw [hh]; simp
  intro e
  rcases List.mem_append.1 e with e | e
  · have := h.pre.sch.1
    unfold schOk at this
    rw [Bool.and_eq_true] at this
    exact absurd (List.all_eq_true.1 this.2 35 e) (by decide)
  · rcases List.mem_cons.1 e with e | e
    · cases e
    · unfold rT at e
      rcases List.mem_append.1 e with e | e
      · exact hau e
      · rcases List.mem_append.1 e with e | e
        · exact hpa e
        · exact hq e

theorem sch_no58 {u : Adr} (h : Str0 u) : 58 ∉ u.scheme ∧ ∃ c t, u.scheme = c :: t := by
  have := h.sch.1
  unfold schOk at this
  rw [Bool.and_eq_true] at this
  refine ⟨fun e => absurd (List.all_eq_true.1 this.2 58 e) (by decide), ?_⟩
  cases hs : u.scheme with
  | nil => rw [hs] at this; cases this.1
  | cons c t => exact ⟨c, t, rfl⟩

/-- What is written has no blanks at its ends. -/
theorem clean_text {u : Adr} (h : Str u) (hg : Good3 u) (hl : u.opq = true → u.hasQuery = false → u.hasFragment = false → u.path.flatten.getLast? ≠ some 32) : cleanV (textV u) = textV u := by
  have see := text_see hg
  have s33 : ∀ c : UInt8, seeC c = true → 33 ≤ c.toNat := fun c hc => by unfold seeC at hc; rw [Bool.and_eq_true, decide_eq_true_iff] at hc; exact hc.1
  have s32 : ∀ c : UInt8, seeB c = true → 32 ≤ c.toNat := fun c hc => by unfold seeB at hc; rw [Bool.and_eq_true, decide_eq_true_iff] at hc; exact hc.1
  cases ho : u.opq with
  | false => exact w_clean_id _ fun c hc => s33 c ((see c hc).2 ho)
  | true =>
    obtain ⟨-, c, t, hs⟩ := sch_no58 h.pre
    obtain ⟨hh, -, x, hx, -, -, -, -⟩ := h.opq ho
    have hau : authT u = [] := by unfold authT; rw [hh]; rfl
    have hpt : pathT u = x := by unfold pathT; rw [ho, hx]; simp
    have hT : textV u = u.scheme ++ 58 :: (x ++ (qT u ++ fT u)) := by rw [text_split]; unfold rT; rw [hau, hpt]; simp
    have hlast : ∃ a z, 58 :: (x ++ (qT u ++ fT u)) = a ++ [z] ∧ 33 ≤ z.toNat := by
      have key : ∀ (l m : List UInt8), m ≠ [] → AllS m → ∃ a z, l ++ m = a ++ [z] ∧ 33 ≤ z.toNat := fun l m hm hs => by
        refine ⟨l ++ m.dropLast, m.getLast hm, ?_, s33 _ (hs _ (List.getLast_mem hm))⟩
        rw [List.append_assoc, List.dropLast_concat_getLast]
      by_cases hf : fT u = []
      · by_cases hq : qT u = []
        · have hq' : u.hasQuery = false := by
            cases e : u.hasQuery with
            | false => rfl
            | true => unfold qT at hq; rw [e] at hq; cases hq
          have hf' : u.hasFragment = false := by
            cases e : u.hasFragment with
            | false => rfl
            | true => unfold fT at hf; rw [e] at hf; cases hf
          have h32 := hl ho hq' hf'
          rw [hx] at h32
          simp only [List.flatten_cons, List.flatten_nil, List.append_nil] at h32
          rw [hq, hf, List.append_nil, List.append_nil]
          by_cases hx0 : x = []
          · rw [hx0]; exact ⟨[], 58, rfl, by decide⟩
          · refine ⟨58 :: x.dropLast, x.getLast hx0, by rw [List.cons_append, List.dropLast_concat_getLast], ?_⟩
            have h1 : 32 ≤ (x.getLast hx0).toNat := s32 _ (see _ (by rw [hT]; simp [List.getLast_mem hx0])).1
            have h2 : (x.getLast hx0) ≠ 32 := fun e => h32 (by rw [List.getLast?_eq_some_getLast hx0, e])
            have h3 : (x.getLast hx0).toNat ≠ 32 := fun e => h2 (UInt8.toNat_inj.1 e)
            omega
        · rw [hf, List.append_nil, ← List.cons_append]
          refine key _ _ hq ?_
          unfold qT at hq ⊢
          split
          · exact allS_cons (by decide) hg.pre.query
          · exact allS_nil
      · rw [← List.append_assoc, ← List.cons_append]
        refine key _ _ hf ?_
        unfold fT at hf ⊢
        split
        · exact allS_cons (by decide) hg.pre.fragment
        · exact allS_nil
    obtain ⟨a, z, hz, hz33⟩ := hlast
    have hT2 : textV u = c :: (t ++ 58 :: (x ++ (qT u ++ fT u))) := by rw [hT, hs]; rfl
    rw [hT2]
    refine clean_mid c z _ (u.scheme ++ a) ?_ ?_ hz33 ?_
    · rw [← hT2, hT, hz, List.append_assoc]
    · exact s33 c (hg.pre.scheme c (by rw [hs]; simp))
    · intro y hy
      rw [← hT2] at hy
      exact s32 y (see y hy).1

theorem begin_text {u : Adr} (h : Str u) (hg : Good3 u) (hl : u.opq = true → u.hasQuery = false → u.hasFragment = false → u.path.flatten.getLast? ≠ some 32) : beginU (textV u) = (un0 u, rT u) := by
  have hp35 : part 35 (textV u) = (u.scheme ++ 58 :: rT u, u.fragment, u.hasFragment) := by
    rw [text_split]
    unfold fT
    cases hf : u.hasFragment with
    | true => simp only [if_true]; exact part_some 35 _ _ (bare_no35 h hg)
    | false =>
      simp only [Bool.false_eq_true, if_false]
      rw [List.append_nil, part_none 35 _ (bare_no35 h hg), hg.pre.noF hf]
  have hsch : schemeV (u.scheme ++ 58 :: rT u) = some (u.scheme, rT u) := by
    unfold schemeV
    rw [part_some 58 _ _ (sch_no58 h.pre).1]
    simp only
    rw [h.pre.sch.1, h.pre.sch.2]
    rfl
  unfold beginU
  simp only [clean_text h hg hl, hp35, hsch, Option.getD_some]
  unfold un0
  rw [h.pre.frg]

end Go.Proofs.YtdnginibhpnefaaGreatDoor

namespace Go.Proofs.YtdnginibhpnefaaGreatDoor
/-! ### The last byte -/

theorem clean_last (s : List UInt8) : (cleanV s).getLast? ≠ some 32 := by
  unfold cleanV trimV
  have hd := List.head?_dropWhile_not wsC (s.dropWhile wsC).reverse
  generalize ((s.dropWhile wsC).reverse.dropWhile wsC) = r at hd ⊢
  rw [List.filter_reverse, List.getLast?_reverse]
  cases r with
  | nil => simp
  | cons x r =>
    have hx : wsC x = false := by simpa using hd
    have h33 : 33 ≤ x.toNat := by
      unfold wsC at hx
      rw [decide_eq_false_iff_not] at hx
      omega
    have he : (!eyeC x) = true := by
      unfold eyeC
      simp only [Bool.not_eq_true', Bool.or_eq_false_iff, beq_eq_false_iff_ne]
      refine ⟨?_, ?_, ?_⟩ <;> (intro e; subst e; revert h33; decide)
    rw [List.filter_cons, if_pos he]
    simp
    rintro rfl
    revert h33; decide

theorem start_opq {u v : Adr} {r : List UInt8} (ho : u.opq = false) (e : startV u r = .ok v) (hv : v.opq = true) (hq : v.hasQuery = false) : v.path = [pct 1 r] := by
  have hW : ∀ (x : Adr) (q : List UInt8), x.opq = false → (withQuery x q).opq = false := fun x q hx => by
    rcases withQuery_cases x q with e | e <;> rw [e] <;> exact hx
  have hA : ∀ (x y : Adr) (q : List UInt8), x.opq = false → withAuth x q = .ok y → y.opq = false := fun x y q hx e => by
    unfold withAuth at e
    split at e
    · cases e
    · injection e with e
      rw [← e]
      exact hW _ _ hx
  unfold startV at e
  split at e
  · rw [hA _ _ _ ho e] at hv; cases hv
  · split at e
    · rw [hA _ _ _ ho e] at hv; cases hv
    · split at e
      · injection e with e
        rw [← e] at hv
        have : (withPath u [] r).opq = false := hW _ _ ho
        rw [this] at hv; cases hv
      · injection e with e
        by_cases h0 : (aheadV [63] r).2 = []
        · have hr : (aheadV [63] r).1 = r := by
            have := List.takeWhile_append_dropWhile (p := fun c : UInt8 => !([63] : List UInt8).contains c) (l := r)
            have h2 : r.dropWhile (fun c : UInt8 => !([63] : List UInt8).contains c) = [] := h0
            rw [h2, List.append_nil] at this
            exact this
          rw [← e, h0]
          show [pct 1 (aheadV [63] r).1] = _
          rw [hr]
        · rw [← e] at hq
          unfold withQuery at hq
          rw [if_neg h0] at hq
          cases hq

theorem part_all (c : UInt8) : ∀ l : List UInt8, (part c l).2.2 = false → (part c l).1 = l
  | [] => fun _ => rfl
  | x :: l => by
    rw [part]
    split
    · intro h; cases h
    · intro h; exact congrArg (List.cons x) (part_all c l h)

theorem part_suf (c : UInt8) : ∀ l : List UInt8, ∃ a, (part c l).2.1 = [] ∨ l = a ++ (part c l).2.1
  | [] => ⟨[], .inl rfl⟩
  | x :: l => by
    rw [part]
    split
    · exact ⟨[x], .inr rfl⟩
    · obtain ⟨a, h | h⟩ := part_suf c l
      · exact ⟨[], .inl h⟩
      · exact ⟨x :: a, .inr (congrArg (List.cons x) h)⟩

theorem pct1_last (z : UInt8) (h : z ≠ 32) : (pct1 1 z).getLast? ≠ some 32 := by
  have := u8_all (P := fun c => c == 32 || (pct1 1 c).getLast? != some 32) (by decide +kernel) z
  simpa [h] using this

theorem read_last {s : List UInt8} {u : Adr} (e : readV s none = .ok u) : u.opq = true → u.hasQuery = false → u.hasFragment = false → u.path.flatten.getLast? ≠ some 32 := by
  intro ho hq hf
  unfold readV at e
  split at e
  · cases e
  · simp only at e
    split at e
    · cases e
    · rename_i hne
      have hp := start_opq rfl e ho hq
      obtain ⟨-, h2⟩ := startV_keep e
      have hf2 : (part 35 (cleanV s)).2.2 = false := by rw [← hf, h2]; rfl
      have hc := part_all 35 _ hf2
      rw [hp]
      simp only [List.flatten_cons, List.flatten_nil, List.append_nil]
      have hrest : ∃ a, (beginU s).2 = [] ∨ cleanV s = a ++ (beginU s).2 := by
        unfold beginU at hne ⊢
        simp only at hne ⊢
        rw [hc] at hne ⊢
        revert hne
        unfold schemeV
        split
        · intro _; exact part_suf 58 (cleanV s)
        · intro hne; exact absurd rfl hne
      obtain ⟨a, h0 | h0⟩ := hrest
      · rw [h0]; simp [pct]
      · by_cases hr : (beginU s).2 = []
        · rw [hr]; simp [pct]
        · have hl := clean_last s
          rw [h0, List.getLast?_append, List.getLast?_eq_some_getLast hr] at hl
          have hz : (beginU s).2.getLast hr ≠ 32 := by simpa using hl
          have hsn : (beginU s).2 = (beginU s).2.dropLast ++ [(beginU s).2.getLast hr] := (List.dropLast_concat_getLast hr).symm
          rw [hsn, pct_snoc, List.getLast?_append]
          have h3 := pct1_last _ hz
          cases h4 : (pct1 1 ((beginU s).2.getLast hr)).getLast? with
          | none =>
            have : pct1 1 ((beginU s).2.getLast hr) = [] := by simpa using h4
            unfold pct1 at this
            split at this
            · simp [esc] at this
            · simp at this
          | some y => rw [h4] at h3; simpa using h3

/-! ### The length -/

def tlen (u : Adr) : Nat := u.scheme.length + u.user.length + u.pass.length + u.host.length + (slL u.path).length + u.query.length + u.fragment.length

theorem text_le (u : Adr) : (textV u).length ≤ tlen u + 120 := by
  have h6 := portT_le u.port
  rw [Lib.size_eq] at h6
  have h7 : (portT u.port).length ≤ 100 := h6
  have ha : (authT u).length ≤ u.user.length + u.pass.length + u.host.length + 106 := by
    unfold authT
    split
    · simp only [List.length_append]
      have e1 : (if u.pass = [] then ([] : List UInt8) else 58 :: u.pass).length ≤ u.pass.length + 1 := by split <;> simp
      have e2 : (if u.user = [] ∧ u.pass = [] then ([] : List UInt8) else [64]).length ≤ 1 := by split <;> simp
      have e3 : (if u.port = -1 then ([] : List UInt8) else 58 :: portT u.port).length ≤ 101 := by split <;> simp <;> omega
      have e4 : ([47, 47] : List UInt8).length = 2 := rfl
      omega
    · simp
  have hp : (pathT u).length ≤ (slL u.path).length + 2 := by
    unfold pathT
    split
    · have := slL_flat u.path; omega
    · rw [List.length_append]
      have e1 : (if u.hasHost = false ∧ 1 < u.path.length ∧ u.path.head? = some [] then ([47, 46] : List UInt8) else []).length ≤ 2 := by split <;> simp
      have e2 : (u.path.flatMap (fun p => 47 :: p)).length = (slL u.path).length := rfl
      omega
  have hq : (if u.hasQuery then 63 :: u.query else []).length ≤ u.query.length + 1 := by split <;> simp
  have hf : (if u.hasFragment then 35 :: u.fragment else []).length ≤ u.fragment.length + 1 := by split <;> simp
  unfold textV bareV tlen
  simp only [List.length_append, List.length_cons]
  omega

theorem wq_len {u : Adr} (q : List UInt8) (h : u.query = []) : tlen (withQuery u q) ≤ tlen u + 3 * q.length := by
  unfold withQuery
  split
  · omega
  · unfold tlen querV
    simp only
    have := pct_le (if specV u.scheme = true then 4 else 3) (q.drop 1)
    rw [List.length_drop] at this
    rw [h]
    simp only [List.length_nil]
    omega

theorem ahead_sum (ends l : List UInt8) : (aheadV ends l).1.length + (aheadV ends l).2.length = l.length := by
  have := congrArg List.length (List.takeWhile_append_dropWhile (p := fun c : UInt8 => !ends.contains c) (l := l))
  rw [List.length_append] at this
  exact this

theorem wp_len {u : Adr} (r : List UInt8) (h : u.query = []) (hp : u.path = []) : tlen (withPath u [] r) ≤ tlen u + 3 * r.length + 3 := by
  unfold withPath
  refine Nat.le_trans (wq_len (u := { u with path := pathV (specV u.scheme) [] (aheadV [63] r).1 }) _ h) ?_
  have h1 := pathV_sl (specV u.scheme) [] (aheadV [63] r).1
  have h2 := ahead_sum [63] r
  unfold tlen
  simp only
  rw [hp]
  have h3 : (slL []).length = 0 := rfl
  omega

theorem part_sum (c : UInt8) : ∀ l : List UInt8, (part c l).1.length + (part c l).2.1.length ≤ l.length
  | [] => by simp [part]
  | x :: l => by
    have := part_sum c l
    rw [part]
    split
    · simp
    · simp only [List.length_cons]; omega

theorem at_sum (l : List UInt8) : (atV l).1.length + (atV l).2.length ≤ l.length := by
  unfold atV
  split
  · have := congrArg List.length (List.takeWhile_append_dropWhile (p := fun x : UInt8 => x != 64) (l := l.reverse))
    simp only [List.length_append, List.length_reverse, List.length_drop] at this ⊢
    omega
  · simp

theorem auth_len {sc s a b h : List UInt8} {p : Int} (e : authV sc s = .ok (a, b, h, p)) : a.length + b.length + h.length ≤ 3 * s.length + 1000 := by
  unfold authV at e
  split at e
  · cases e
  · split at e
    · cases e
    · rename_i hh hhe
      split at e
      · cases e
      · injection e with e
        injection e with e1 e
        injection e with e2 e
        injection e with e3 e4
        subst e1 e2 e3 e4
        have h1 := pct_le 6 (part 58 (atV s).1).1
        have h2 := pct_le 6 (part 58 (atV s).1).2.1
        have h3 := hostV_len _ _ _ hhe
        have h4 := part_sum 58 (atV s).1
        have h5 := at_sum s
        rw [List.length_take] at h3
        omega

theorem wa_len {u v : Adr} {r : List UInt8} (hu : u.user = [] ∧ u.pass = [] ∧ u.host = [] ∧ u.path = [] ∧ u.query = []) (e : withAuth u r = .ok v) : tlen v ≤ u.scheme.length + u.fragment.length + 3 * r.length + 1003 := by
  unfold withAuth at e
  split at e
  · cases e
  · rename_i a b hh p hau
    injection e with e
    rw [← e]
    have h1 := auth_len hau
    have h2 := wp_len (u := { u with user := a, pass := b, host := hh, hasHost := true, port := p }) (aheadV [47, 63] r).2 hu.2.2.2.2 hu.2.2.2.1
    have h3 := ahead_sum [47, 63] r
    refine Nat.le_trans h2 ?_
    unfold tlen
    simp only
    rw [hu.2.2.2.1, hu.2.2.2.2]
    have h4 : (slL []).length = 0 := rfl
    simp only [List.length_nil]
    omega

theorem start_len {u v : Adr} {r : List UInt8} (hu : u.user = [] ∧ u.pass = [] ∧ u.host = [] ∧ u.path = [] ∧ u.query = []) (e : startV u r = .ok v) : tlen v ≤ u.scheme.length + u.fragment.length + 3 * r.length + 1010 := by
  have ht : tlen u = u.scheme.length + u.fragment.length := by
    unfold tlen
    rw [hu.1, hu.2.1, hu.2.2.1, hu.2.2.2.1, hu.2.2.2.2]
    have h4 : (slL []).length = 0 := rfl
    simp only [List.length_nil]
    omega
  unfold startV at e
  split at e
  · have h1 := wa_len hu e
    have h2 : (skip47 (slashV r)).length ≤ r.length := by
      have h3 : (skip47 (slashV r)).length ≤ (slashV r).length := (List.dropWhile_suffix _).length_le
      have h4 : (slashV r).length = r.length := by
        unfold slashV
        rw [List.length_append, List.length_map, ahead_sum]
      omega
    omega
  · split at e
    · have h1 := wa_len hu e
      rw [List.length_drop] at h1
      omega
    · split at e
      · injection e with e
        rw [← e]
        have := wp_len r hu.2.2.2.2 hu.2.2.2.1
        omega
      · injection e with e
        rw [← e]
        have h1 := wq_len (u := { u with opq := true, path := [pct 1 (aheadV [63] r).1] }) (aheadV [63] r).2 hu.2.2.2.2
        have h2 := pct_le 1 (aheadV [63] r).1
        have h3 := ahead_sum [63] r
        refine Nat.le_trans h1 ?_
        have h5 : (slL [pct 1 (aheadV [63] r).1]).length = (pct 1 (aheadV [63] r).1).length + 1 := by simp [slL]
        unfold tlen at ht ⊢
        simp only
        rw [hu.2.2.2.1] at ht
        have h4 : (slL []).length = 0 := rfl
        omega

theorem read_len {s : List UInt8} {u : Adr} (e : readV s none = .ok u) : (textV u).length ≤ 3 * s.length + 1130 := by
  refine Nat.le_trans (text_le u) ?_
  unfold readV at e
  split at e
  · cases e
  · simp only at e
    split at e
    · cases e
    · rename_i hne
      have h1 := start_len ⟨rfl, rfl, rfl, rfl, rfl⟩ e
      have h2 : (beginU s).1.scheme.length + (beginU s).1.fragment.length + 3 * (beginU s).2.length ≤ 3 * s.length := by
        have c1 := part_sum 35 (cleanV s)
        have c0 : (cleanV s).length ≤ s.length := by
          unfold cleanV trimV
          refine Nat.le_trans (List.length_filter_le _ _) ?_
          rw [List.length_reverse]
          refine Nat.le_trans (List.dropWhile_suffix _).length_le ?_
          rw [List.length_reverse]
          exact (List.dropWhile_suffix _).length_le
        have c2 := part_sum 58 (part 35 (cleanV s)).1
        have c3 := pct_le 2 (part 35 (cleanV s)).2.1
        unfold beginU at hne ⊢
        simp only at hne ⊢
        revert hne
        unfold schemeV
        split
        · intro _
          simp only [Option.getD_some]
          have c4 : (low (part 58 (part 35 (cleanV s)).1).1).length = (part 58 (part 35 (cleanV s)).1).1.length := by unfold low; rw [List.length_map]
          omega
        · intro hne; exact absurd rfl hne
      omega

end Go.Proofs.YtdnginibhpnefaaGreatDoor

namespace Go.Proofs.YtdnginibhpnefaaGreatDoor
open Go.RowKit

theorem TxAt.view {w : World} {v : Value} {L : List (List UInt8)} (h : TxAt w v L) : ∃ a cap, v = .slice a L.length cap ∧ L.length ≤ cap ∧ cap ≤ maxLen ∧ ∀ j (hj : j < L.length), ∃ b off, a = some ⟨b, off, none⟩ ∧ w.cell? ⟨b, off + j, none⟩ = some (.string ⟨L[j].toArray⟩) := h

theorem tx_nil (w : World) : TxAt w (.slice none 0 0) [] := ⟨none, 0, rfl, Nat.le_refl _, by decide, fun j hj => by simp at hj⟩

theorem HdAt.view {w : World} {v : Value} {L : List Hd} (h : HdAt w v L) : ∃ a cap, v = .slice a L.length cap ∧ L.length ≤ cap ∧ cap ≤ maxLen ∧ ∀ j (hj : j < L.length), ∃ b off, a = some ⟨b, off, none⟩ ∧ w.cell? ⟨b, off + j * 2, none⟩ = some (.string ⟨L[j].name.toArray⟩) ∧ w.cell? ⟨b, off + j * 2 + 1, none⟩ = some (.string ⟨L[j].value.toArray⟩) := h

end Go.Proofs.YtdnginibhpnefaaGreatDoor

namespace Go.Proofs.YtdnginibhpnefaaGreatDoor
open Go.RowKit

theorem list_eq_of {α : Type} {A B : List α} (hl : A.length = B.length) (h : ∀ j (h1 : j < A.length) (h2 : j < B.length), A[j] = B[j]) : A = B :=
  List.ext_getElem hl fun j h1 h2 => h j h1 h2

set_option maxHeartbeats 2000000 in
theorem sameT_any (v1 v2 : Value) (L1 L2 : List (List UInt8)) (w : World) (h1 : TxAt w v1 L1) (h2 : TxAt w v2 L2) (hl1 : L1.length ≤ 1000000) (hl2 : L2.length ≤ 1000000) :
    Calls Tryz.prog 39 #[v1, v2] w fun e w' => e = .returned (.bool (decide (L1 = L2))) ∧ Below w.heap.size w w' := by
  obtain ⟨a1, c1, rfl, hc1, hm1, hv1⟩ := h1.view
  obtain ⟨a2, c2, rfl, hc2, hm2, hv2⟩ := h2.view
  have H1 := hid h1
  have H2 := hid h2
  have V1 := hid hv1
  have V2 := hid hv2
  clear h1 h2 hv1 hv2
  by_cases hl : L1.length = L2.length
  · have hl' : ((L1.length : Int) == (L2.length : Int)) = true := by rw [beq_iff_eq]; omega
    go_enter Tryz.func39, Tryz.ntmps39
    go_wp2
    go_loopw [5] (fun i wr => ∃ k : Nat, k ≤ L1.length ∧ i = .int .i64 k ∧ (∀ j (h1 : j < L1.length) (h2 : j < L2.length), j < k → L1[j] = L2[j]) ∧ Below w.heap.size w wr) (fun i _ => L1.length - (intOf i).toNat)
    case atStart => exact ⟨0, Nat.zero_le _, rfl, fun j _ _ h => absurd h (by omega), Below.refl _ _⟩
    case round =>
      obtain ⟨k, hk, rfl, hall, hb⟩ := hrel
      have HA := hid hall
      clear hall
      by_cases hlt : k < L1.length
      · have hlt' : (k : Int) < (L1.length : Int) := by omega
        have hlt2' : (k : Int) < (L2.length : Int) := by omega
        obtain ⟨b1, o1, rfl, e1⟩ := V1.out k hlt
        obtain ⟨b2, o2, rfl, e2⟩ := V2.out k (by omega)
        have f1 : wr.cell? ⟨b1, o1 + k, none⟩ = some (.string ⟨L1[k].toArray⟩) := (hb.cell (World.block_lt_of_cell? w _ e1)).trans e1
        have f2 : wr.cell? ⟨b2, o2 + k, none⟩ = some (.string ⟨(L2[k]'(by omega)).toArray⟩) := (hb.cell (World.block_lt_of_cell? w _ e2)).trans e2
        clear e1 e2
        obtain ⟨x, hx⟩ : ∃ x, x = L1[k] := ⟨_, rfl⟩
        obtain ⟨y, hy⟩ : ∃ y, y = L2[k]'(by omega) := ⟨_, rfl⟩
        rw [← hx] at f1
        rw [← hy] at f2
        have HX := hid hx
        have HY := hid hy
        clear hx hy
        by_cases hxy : x = y
        · subst hxy
          go_wp2
          go_quiet (fail)
          go_wp2
          go_roundw
          case rel =>
            refine ⟨k + 1, by omega, by go_num, fun j h1 h2 hj => ?_, Go.below_drewN hb _⟩
            by_cases he : j = k
            · subst he; rw [← HX.out, ← HY.out]
            · exact HA.out j h1 h2 (by omega)
          case measure => simp [intOf]; omega
        · have hne : (x == y) = false := by simpa using hxy
          have HN := hid (show ¬ L1 = L2 from fun e => hxy (by rw [HX.out, HY.out]; subst e; rfl))
          go_wp2
          go_quiet (fail)
          go_wp2
          go_ret
          exact ⟨ret_bool (by simp [HN.out]), Go.below_drewN hb _⟩
      · have HE := hid (show L1 = L2 from list_eq_of hl fun j h1 h2 => HA.out j h1 h2 (by omega))
        go_wp2
        go_ret
        exact ⟨ret_bool (by simp [HE.out]), hb⟩
  · have hl' : ((L1.length : Int) == (L2.length : Int)) = false := by rw [beq_eq_false_iff_ne]; omega
    have HN := hid (show ¬ L1 = L2 from fun e => hl (by rw [e]))
    go_enter Tryz.func39, Tryz.ntmps39
    go_wp2
    go_ret
    exact ⟨ret_bool (by simp [HN.out]), Below.refl _ _⟩

end Go.Proofs.YtdnginibhpnefaaGreatDoor

namespace Go.Proofs.YtdnginibhpnefaaGreatDoor
open Go.RowKit

theorem path_tx {w : World} {v : Value} {L : List (List UInt8)} (h : PathAt w v L) : TxAt w v L := by
  rcases h with ⟨rfl, rfl⟩ | ⟨b, cap, rfl, h2, h3, h4, h5⟩
  · exact tx_nil _
  · exact ⟨some ⟨b, 0, none⟩, cap, rfl, h3, h4, fun j hj => ⟨b, 0, rfl, by rw [Nat.zero_add]; exact h5 j hj⟩⟩

set_option maxHeartbeats 8000000 in
set_option maxRecDepth 100000 in
theorem same3_any (A : Adr) (av bv : Value) (w : World) (ha : PathAt w av A.path) (hb : PathAt w bv A.path) (hl : A.path.length ≤ 1000000) :
    Calls Tryz.prog 22 #[adrVal A av, adrVal A bv] w fun e w' => e = .returned (.bool true) ∧ Below w.heap.size w w' := by
  obtain ⟨ua, un, uc, rfl⟩ := path_sl ha
  obtain ⟨va, vn, vc, rfl⟩ := path_sl hb
  obtain ⟨u0, u1, u2, u3, u4, u5, u6, u8, u9, u10, u11, hxu, hxv⟩ : ∃ u0 u1 u2 u3 u4 u5 u6 u8 u9 u10 u11, adrCells A (.slice ua un uc) = [.string u0, .string u1, .string u2, .string u3, .bool u4, .int .i64 u5, .bool u6, .slice ua un uc, .string u8, .string u9, .bool u10, .bool u11] ∧ adrCells A (.slice va vn vc) = [.string u0, .string u1, .string u2, .string u3, .bool u4, .int .i64 u5, .bool u6, .slice va vn vc, .string u8, .string u9, .bool u10, .bool u11] := ⟨_, _, _, _, _, _, _, _, _, _, _, rfl, rfl⟩
  have hvu : adrVal A (.slice ua un uc) = .agg #[.string u0, .string u1, .string u2, .string u3, .bool u4, .int .i64 u5, .bool u6, .slice ua un uc, .string u8, .string u9, .bool u10, .bool u11] := by unfold adrVal; rw [hxu]
  have hvv : adrVal A (.slice va vn vc) = .agg #[.string u0, .string u1, .string u2, .string u3, .bool u4, .int .i64 u5, .bool u6, .slice va vn vc, .string u8, .string u9, .bool u10, .bool u11] := by unfold adrVal; rw [hxv]
  rw [hvu, hvv]
  obtain ⟨W1, hW1⟩ : ∃ X, (w.alloc (.cells #[.string u0, .string u1, .string u2, .string u3, .bool u4, .int .i64 u5, .bool u6, .slice ua un uc, .string u8, .string u9, .bool u10, .bool u11] 24)) = X := ⟨_, rfl⟩
  have hbW1 : Below w.heap.size w W1 := by rw [← hW1]; exact (Below.refl _ w).alloc (Nat.le_refl _) _
  have hsW1 : W1.heap.size = w.heap.size + 1 := by rw [← hW1]; simp
  have hAW1 : AdrIn W1 w.heap.size A (.slice ua un uc) := by
    unfold AdrIn
    rw [hxu, ← hW1]
    exact heap_alloc_new w _
  obtain ⟨W2, hW2⟩ : ∃ X, (W1.alloc (.cells #[.string u0, .string u1, .string u2, .string u3, .bool u4, .int .i64 u5, .bool u6, .slice va vn vc, .string u8, .string u9, .bool u10, .bool u11] 24)) = X := ⟨_, rfl⟩
  have hbW2 : Below W1.heap.size W1 W2 := by rw [← hW2]; exact (Below.refl _ W1).alloc (Nat.le_refl _) _
  have hsW2 : W2.heap.size = W1.heap.size + 1 := by rw [← hW2]; simp
  have hAW2 : AdrIn W2 W1.heap.size A (.slice va vn vc) := by
    unfold AdrIn
    rw [hxv, ← hW2]
    exact heap_alloc_new W1 _
  have HSm := hid (fun (Z : World) (hZ : Below W2.heap.size W2 Z) => sameT_any (.slice ua un uc) (.slice va vn vc) A.path A.path Z (path_tx (((ha.kept hbW1).kept hbW2).kept hZ)) (path_tx (((hb.kept hbW1).kept hbW2).kept hZ)) hl hl)
  rw [show decide (A.path = A.path) = true by simp] at HSm
  have HBW := hid (below2 hbW1 hbW2)
  have hAW1' := hAW1.kept hbW2
  rw [hsW1] at hAW2
  have HCu := hid (fun (Z : World) (hZ : Below W2.heap.size W2 Z) => adr_twelve hxu (hAW1'.kept hZ))
  have HCv := hid (fun (Z : World) (hZ : Below W2.heap.size W2 Z) => adr_twelve hxv (hAW2.kept hZ))
  have HQ0 := hid ((Below.refl W2.heap.size W2).drew)
  clear hAW1 hAW1' hAW2 hxu hxv hvu hvv hbW1 hbW2 ha hb hl
  go_enter Tryz.func22, Tryz.ntmps22
  obtain ⟨y0, y1, y2, y3, y4, y5, y6, y7, y8, y9, y10, y11⟩ := HCu.out W2 (Below.refl _ _)
  obtain ⟨z0, z1, z2, z3, z4, z5, z6, z7, z8, z9, z10, z11⟩ := HCv.out W2 (Below.refl _ _)
  go_wp2_with fail
  refine (HSm.out _ (Below.refl _ _)).mono ?_
  rintro e w3 ⟨rfl, hb3⟩
  clear y0 z0 y1 z1 y2 z2 y3 z3 y4 z4 y5 z5 y6 z6 y7 z7 y8 z8 y9 z9 y10 z10 y11 z11
  obtain ⟨y0, y1, y2, y3, y4, y5, y6, y7, y8, y9, y10, y11⟩ := HCu.out w3 hb3
  obtain ⟨z0, z1, z2, z3, z4, z5, z6, z7, z8, z9, z10, z11⟩ := HCv.out w3 hb3
  go_wp2
  go_ret
  exact ⟨by simp, below2 HBW.out hb3⟩

end Go.Proofs.YtdnginibhpnefaaGreatDoor

namespace Go.Proofs.YtdnginibhpnefaaGreatDoor
open Go.RowKit

theorem adr_named3 (A : Adr) (a : Option Addr) (n c : Nat) : ∃ s0 s1 s2 s3 b4 i5 b6 s8 s9 b10 b11, adrCells A (.slice a n c) = [.string s0, .string s1, .string s2, .string s3, .bool b4, .int .i64 i5, .bool b6, .slice a n c, .string s8, .string s9, .bool b10, .bool b11] ∧ s0 = (⟨A.scheme.toArray⟩ : ByteArray) ∧ s3 = (⟨A.host.toArray⟩ : ByteArray) ∧ b4 = A.hasHost ∧ i5 = A.port ∧ b6 = A.opq ∧ s8 = (⟨A.query.toArray⟩ : ByteArray) ∧ s9 = (⟨A.fragment.toArray⟩ : ByteArray) ∧ b10 = A.hasQuery ∧ b11 = A.hasFragment := ⟨_, _, _, _, _, _, _, _, _, _, _, rfl, rfl, rfl, rfl, rfl, rfl, rfl, rfl, rfl, rfl⟩

end Go.Proofs.YtdnginibhpnefaaGreatDoor
