/-
  Walks and plain facts that this claim leans on, put together out of 6 texts: Ysm, Yk, Yl, Ym, Yn, Yy.
-/
import Derived.Test.YtkhpemjjholneaaGreatDoorProg
import Derived.Test.YtkhpemjjholneaaGreatDoorQa1
import Derived.Test.YtkhpemjjholneaaGreatDoorQa2
import Derived.Test.YtkhpemjjholneaaGreatDoorQa3
import Derived.Test.YtkhpemjjholneaaGreatDoorQa4
import Derived.Test.YtkhpemjjholneaaGreatDoorQa5
import Derived.Test.YtkhpemjjholneaaGreatDoorQa6
import Derived.Test.YtkhpemjjholneaaGreatDoorQa7
import Derived.Test.YtkhpemjjholneaaGreatDoorQa8
import Derived.Test.YtkhpemjjholneaaGreatDoorQa9
import Derived.Test.YtkhpemjjholneaaGreatDoorQa10
import Derived.Test.YtkhpemjjholneaaGreatDoorQa11
import Derived.Test.YtkhpemjjholneaaGreatDoorQa12
import Derived.Test.YtkhpemjjholneaaGreatDoorQa13
import Derived.Test.YtkhpemjjholneaaGreatDoorQa14
import Derived.Test.YtkhpemjjholneaaGreatDoorQa15
import Derived.Test.YtkhpemjjholneaaGreatDoorQa16
import Derived.Test.YtkhpemjjholneaaGreatDoorQa17
import Derived.Test.YtkhpemjjholneaaGreatDoorQa18
import Derived.Test.YtkhpemjjholneaaGreatDoorQa19
import Derived.Test.YtkhpemjjholneaaGreatDoorQa20
import Derived.Test.YtkhpemjjholneaaGreatDoorQa21
import Derived.Test.YtkhpemjjholneaaGreatDoorQa22
import Derived.Test.YtkhpemjjholneaaGreatDoorQa23
import Derived.Test.YtkhpemjjholneaaGreatDoorQa24
import Derived.Test.YtkhpemjjholneaaGreatDoorQa25
import Derived.Test.YtkhpemjjholneaaGreatDoorQa26
import Derived.Test.YtkhpemjjholneaaGreatDoorQa27
import Derived.Test.YtkhpemjjholneaaGreatDoorQa28
import Derived.Test.YtkhpemjjholneaaGreatDoorQa29
import Derived.Test.YtkhpemjjholneaaGreatDoorQa30
import Derived.Test.YtkhpemjjholneaaGreatDoorQa31
import Derived.Test.YtkhpemjjholneaaGreatDoorQy1
import Derived.Test.YtkhpemjjholneaaGreatDoorQe1
import Derived.Test.YtkhpemjjholneaaGreatDoorQe2
import Derived.Deep.LoopGhost
import Derived.Lib.IndexAny
import Derived.Lib.Replace
import Derived.Lib.TrimByte
import Derived.Lib.ItoaNum
import Derived.Laws.Runes
import Derived.Laws.RangeAny
import Derived.Lib.DecodeN
import Derived.Lib.OthersKept
import Derived.RegionTactic
import Derived.Deep.RegionWith
import Derived.Deep.QuietTactic
import Derived.BigQuiet
import Derived.WalkKit
import Derived.WalkSpells
import Derived.WalkLawsBesides
import Derived.Lib.FrozenHead2
import Derived.Lib.Builder
import Derived.Shelf.Slices.In.SortNone
import Derived.Sort.OwnSorted
import Derived.Laws.OwnMore
import Derived.Below
import Derived.WalkSmall
import Derived.Lib.SmallJoins
import Derived.Laws.AppendOwn
import Derived.Lib.AppendStr
import Derived.Lib.UnsafeStr
import Derived.Deep.RegionHeld
import Derived.Laws.CopyOwn
import Derived.Laws.ResultCell
import Derived.Deep.MidRow
import Derived.Shelf.Strings.Builder1
import Derived.Shelf.Strings.Builder2
import Derived.Shelf.Strings.OnBuilder
import Derived.Shelf.Strings.Trim
import Derived.Shelf.Small.Utf8
import Derived.Shelf.Small.Bits
import Derived.Shelf.Small.Strs
import Derived.Shelf.Small.Wraps
import Derived.Shelf.Strings.BuilderF
import Derived.Shelf.Strings.BuilderK
import Derived.Shelf.Strings.BuilderRune
import Derived.Shelf.Utf8.AppendRune
import Derived.Shelf.Utf8.AppendRunePlain
import Derived.Shelf.Strings.Builder2Cap
import Derived.Shelf.Strconv.Itoa0
import Derived.Shelf.Strconv.Itoa1
import Derived.Shelf.LaysM
import Derived.Shelf.Strconv.Itoa2
import Derived.Shelf.Strconv.Itoa3
import Derived.Shelf.Strings.Search1
import Derived.Shelf.Strings.Search2
import Derived.Shelf.Strings.Search3
import Derived.Shelf.Strings.Cut
import Derived.Shelf.Strings.Count
import Derived.Shelf.Strings.Shaped
import Derived.Shelf.Sort.Plain
import Derived.Shelf.Strings.LastIndex
import Derived.Shelf.Strings.Prefix
import Derived.Shelf.Strings.Split
import Derived.Shelf.Strings.Replace
import Derived.Shelf.Strings.Runes
import Derived.Shelf.Strings.IndexAny
import Derived.Shelf.Strings.AsciiSet
import Derived.Shelf.Strings.IndexAnyAll
import Derived.Shelf.Unicode.DecodeSlow
import Derived.Shelf.Unicode.DecodeAny
import Derived.Shelf.Unicode.DecodeLast
import Derived.Shelf.Strings.FieldsFuncAny
import Derived.Shelf.Strings.FieldsFuncGrows
import Derived.Shelf.Slices.Equal
import Derived.Ground.Names2Prog
import Derived.Shelf.Slices.Clone
import Derived.Ground.SlgnProg
import Derived.Shelf.SlicesE.Equal
import Derived.Shelf.SlicesE.Clone
import Derived.Lib.AppendIntMem
import Derived.Lib.SlTrimSet
import Derived.Lib.Join
import Derived.Lib.IndexMore
import Derived.Lib.Bytealg
import Derived.Lib.Strings
import Derived.Laws.IdiomStrings
import Derived.LoopN
import Derived.Shelf.GgClosure.GivesRunes
import Derived.BigRegion
import Derived.Lib.BufferMore
import Derived.Deep.RegionHeldLaw
import Derived.Laws.AppendOwnNone
import Derived.Lib.BufferRead
import Derived.Lib.RuneBytes
import Derived.Shelf.Strings.SlTrimAscii
import Derived.OwnWalk
import Derived.Lib.FieldsP
import Derived.Deep.Cut
import Derived.Laws.BytesString
import Derived.Deep.RegionLaw
import Derived.Scope
import Derived.ScopeJumps
import Derived.WalkMore
import Derived.Lib.LastIndexByte
import Derived.Laws.BitsAllLaws
import Derived.Laws.EntriesVeiled
import Derived.Deep.WholeRow
import Derived.Maps.OwnSet
import Derived.Maps.OwnOps
import Derived.Maps.AppendAt
import Derived.StringKeys
set_option linter.unusedSimpArgs false
set_option linter.unusedVariables false

namespace Go.Proofs.YtkhpemjjholneaaGreatDoor
open Go.RowKit

set_option maxHeartbeats 4000000 in
theorem indexS_any (f : Nat) (lb : Array Value) (eg : ∀ args w, (callFunc f args).run Tryz.prog w = .ok (.enter f args) w) (q : List UInt8 → Bool) (v : Value) (L : List (List UInt8)) (w : World) (hv : TxAt w v L) (hl : L.length ≤ 1000000) (hq : ∀ (X : World) (x : List UInt8), x ∈ L → Below w.heap.size w X → Calls Tryz.prog f (#[.string ⟨x.toArray⟩] ++ lb) X fun e w' => e = .returned (.bool (q x)) ∧ Below X.heap.size X w') :
    Calls Tryz.prog 83 #[v, .func (.func f) #[] lb] w fun e w' => ∃ z : Int, e = .returned (.int .i64 z) ∧ decide (0 ≤ z) = L.any q ∧ Below w.heap.size w w' := by
  obtain ⟨a1, c1, rfl, hc1, hm1, hv1⟩ := hv.view
  have HV := hid hv1
  have HQ := hid hq
  obtain ⟨n, hn⟩ : ∃ n, n = L.length := ⟨_, rfl⟩
  have HN := hid hn
  rw [← hn] at hc1 hl ⊢
  clear hv hv1 hq hn
  go_enter Tryz.func83, Tryz.ntmps83
  go_wp2_with fail
  go_loopw [8] (fun v8 wr => ∃ k : Nat, k ≤ n ∧ v8 = .int .i64 k ∧ Hid (((L.take k).any q) = false ∧ Below w.heap.size w wr)) (fun v8 _ => n - (intOf v8).toNat)
  case atStart => exact ⟨0, Nat.zero_le _, rfl, rfl, Below.refl _ w⟩
  case round =>
    obtain ⟨k, hk, rfl, HR⟩ := hrel
    by_cases hlt : k < n
    · have hkL : k < L.length := by have := HN.out; omega
      obtain ⟨b1, o1, rfl, e1⟩ := HV.out k hkL
      obtain ⟨x, hx⟩ : ∃ x, x = L[k] := ⟨_, rfl⟩
      rw [← hx] at e1
      have HXM := hid (show x ∈ L by rw [hx]; exact List.getElem_mem hkL)
      obtain ⟨V, hVx⟩ : ∃ V : ByteArray, V = ⟨x.toArray⟩ := ⟨_, rfl⟩
      rw [← hVx] at e1
      have f1 := keptC e1 HR.out.2
      have HCL := hid (show Calls Tryz.prog f (#[.string V] ++ lb) wr fun e w' => e = .returned (.bool (q x)) ∧ Below wr.heap.size wr w' by
        rw [hVx]
        exact HQ.out wr x HXM.out HR.out.2)
      have HT := hid (show (L.take (k + 1)).any q = q x by rw [List.take_succ_eq_append_getElem hkL, List.any_append, HR.out.1, ← hx]; simp)
      have HTA := hid (show q x = true → L.any q = true from fun h => List.any_eq_true.2 ⟨x, HXM.out, h⟩)
      obtain ⟨y, hy⟩ : ∃ y, y = q x := ⟨_, rfl⟩
      rw [← hy] at HCL HT HTA
      have hin : (k : Int) < (n : Int) := by omega
      clear e1 hx hVx hkL hy
      go_wp2_with fail
      refine HCL.out.mono ?_
      rintro e w2 ⟨rfl, hb2⟩
      have HB2 := hid (below2 HR.out.2 hb2)
      clear hb2
      cases y with
      | false =>
        go_wp2_with fail
        go_roundw
        case rel =>
          have e4 : ((L.take (k + 1)).any q) = false ∧ Below w.heap.size w w2 := ⟨HT.out, HB2.out⟩
          first
            | exact ⟨k + 1, by omega, by go_num, e4⟩
            | ((repeat apply Exists.intro); refine ⟨?_, rfl⟩; exact ⟨k + 1, by omega, by go_num, e4⟩)
            | ((repeat apply Exists.intro); exact ⟨⟨k + 1, by omega, by go_num, e4⟩, rfl⟩)
        case measure => simp [intOf]; omega
      | true =>
        go_wp2_with fail
        go_ret
        exact ⟨(k : Int), rfl, by rw [HTA.out (by trivial)]; simp, HB2.out⟩
    · obtain rfl : k = n := by omega
      have HA := hid (show L.any q = false by have h := HR.out.1; rwa [List.take_of_length_le (by have := HN.out; omega)] at h)
      have HB := hid HR.out.2
      clear HR hk hlt
      go_wp2_with fail
      go_ret
      exact ⟨-1, rfl, by rw [HA.out]; rfl, HB.out⟩

set_option maxHeartbeats 1000000 in
theorem containsS_any (q : List UInt8 → Bool) (v fv : Value) (L : List (List UInt8)) (w : World) (hv : TxAt w v L) (hl : L.length ≤ 1000000) (hs : ∀ x ∈ L, x.length ≤ 1000000) (hr : Rdr11 w fv q) :
    Calls Tryz.prog 57 #[v, fv] w fun e w' => e = .returned (.bool (L.any q)) ∧ Below w.heap.size w w' := by
  obtain ⟨f, lb, rfl, eg, hc⟩ := hr
  have HI := hid (indexS_any f lb eg q v L w hv hl (fun X x hx hX => hc X ⟨x.toArray⟩ hX (by have := hs x hx; rw [Lib.size_eq]; show x.length ≤ _; omega)))
  clear hv hl hc hs
  go_enter Tryz.func57, Tryz.ntmps57
  go_wp2_with fail
  refine HI.out.mono ?_
  rintro e w2 ⟨z, rfl, hz, hb⟩
  have HZ := hid hz
  have HB := hid hb
  clear hz hb
  go_wp2_with fail
  go_ret
  exact ⟨ret_bool HZ.out, HB.out⟩

set_option maxHeartbeats 2000000 in
set_option maxRecDepth 100000 in
theorem named_none (v : Value) (L : List (List UInt8)) (w : World) (hg : Gd w) (hm : Gm w) (hv : TxAt w v L) (hl : L.length ≤ 1000000) (hs : ∀ x ∈ L, x.length ≤ 1000000) :
    Calls Tryz.prog 59 #[v, .string ⟨#[]⟩, .string ⟨#[]⟩] w fun e w' => e = .returned (.bool false) ∧ Below w.heap.size w w' := by
  have hmf : ∀ (fn : Fn) (first cap : Array Value) (w : World), (Instr.makeFunc fn first cap).run Tryz.prog w = .ok (.func fn first cap) w := fun _ _ _ _ => rfl
  have HL := hid (listed_loop v L w hg hv hl hs)
  have HPa := hid (fun (w : World) (hg : Gm w) => parse9_any ⟨#[]⟩ w hg (by decide))
  have HM := hid hm
  clear hg hm hv hl hs
  go_enter Tryz.func59, Tryz.ntmps59
  go_wp2_with fail
  refine HL.out.mono ?_
  rintro e w1 ⟨p, sv, rfl, _, _, hb1⟩
  have HB2 := hid (below2 hb1 ((Below.refl _ w1).alloc (Nat.le_refl _) (.cells #[.func (.func 140) #[] #[.pointer (some ⟨p, 0, none⟩)]] 27)))
  clear hb1
  go_wp2_with fail
  refine (HPa.out _ (HM.out.kept HB2.out)).mono ?_
  rintro e w3 ⟨iv, rfl, hown, hb3⟩
  have HB3 := hid (below2 HB2.out hb3)
  have hpe : (parse9 (⟨#[]⟩ : ByteArray).data.toList) = [] := by decide
  rw [hpe] at hown
  obtain ⟨a, c, rfl⟩ : ∃ a c, iv = .slice a 0 c := by
    rcases hown.2 with ⟨hv, _⟩ | ⟨g, cap, cur, hv, _⟩
    · exact ⟨_, _, hv⟩
    · exact ⟨_, _, hv⟩
  clear hown hb3 hpe
  go_wp2
  go_ret
  exact ⟨rfl, HB3.out⟩

end Go.Proofs.YtkhpemjjholneaaGreatDoor

namespace Go.Proofs.YtkhpemjjholneaaGreatDoor
theorem w_take_yes (p : UInt8 → Bool) (l : List UInt8) (h : ∀ c ∈ l, p c = true) : l.takeWhile p = l := by
  induction l with
  | nil => rfl
  | cons c l ih => rw [List.takeWhile_cons, h c (by simp), if_pos rfl, ih fun d hd => h d (by simp [hd])]

theorem w_drop_yes (p : UInt8 → Bool) (l : List UInt8) (h : ∀ c ∈ l, p c = true) : l.dropWhile p = [] := by
  induction l with
  | nil => rfl
  | cons c l ih => rw [List.dropWhile_cons, h c (by simp), if_pos rfl, ih fun d hd => h d (by simp [hd])]

theorem ahead_all (ends l : List UInt8) (h : ∀ c ∈ l, c ∉ ends) : aheadV ends l = (l, []) := by
  have key : ∀ c ∈ l, (!ends.contains c) = true := fun c hc => by simp [h c hc]
  unfold aheadV
  rw [w_take_yes _ l key, w_drop_yes _ l key]

/-- A byte that may stand in a plain path. -/
def paC (c : UInt8) : Bool := decide (33 ≤ c.toNat) && (c != 35 && (c != 63 && c != 92))

/-- Letters of either size, digits and the point. -/
def hnC (c : UInt8) : Bool := (decide (97 ≤ c.toNat) && decide (c.toNat ≤ 122)) || ((decide (65 ≤ c.toNat) && decide (c.toNat ≤ 90)) || ((decide (48 ≤ c.toNat) && decide (c.toNat ≤ 57)) || c == 46))

end Go.Proofs.YtkhpemjjholneaaGreatDoor

namespace Go.Proofs.YtkhpemjjholneaaGreatDoor
def Leq (q r : List UInt8 → Bool) : Prop := ∀ s, q s = true → r s = true

theorem portR_mono {u : Adr} {q r : List UInt8 → Bool} (h : Leq q r) : Leq (portR u q) (portR u r) := fun s hs => by
  unfold portR at hs ⊢
  rw [Bool.and_eq_true] at hs ⊢
  exact ⟨hs.1, h _ hs.2⟩

theorem hostR_mono {u : Adr} {q r : List UInt8 → Bool} (h : Leq q r) : Leq (hostR u q) (hostR u r) := fun s hs => by
  unfold hostR at hs ⊢
  rw [Bool.and_eq_true] at hs ⊢
  exact ⟨hs.1, h _ hs.2⟩

theorem schR_mono {u p : Adr} {q r : List UInt8 → Bool} (h : Leq q r) : Leq (schR u p q) (schR u p r) := fun s hs => by
  unfold schR at hs ⊢
  split at hs
  · split at hs
    · rw [if_pos (by assumption)]; exact hs
    · rw [if_neg (by assumption)]
      split at hs
      · rw [if_pos (by assumption)]
        rw [Bool.and_eq_true] at hs ⊢
        exact ⟨hs.1, h _ hs.2⟩
      · rw [if_neg (by assumption)]
        rw [Bool.and_eq_true] at hs ⊢
        exact ⟨hs.1, h _ hs.2⟩
  · rw [Bool.and_eq_true] at hs ⊢
    exact ⟨hs.1, h _ hs.2⟩

theorem wordR_mono {u p : Adr} {q r : List UInt8 → Bool} (h : Leq q r) : Leq (wordR u p q) (wordR u p r) := fun s hs => by
  unfold wordR at hs ⊢
  split at hs
  · rw [if_pos (by assumption)]; exact hs
  · rw [if_neg (by assumption)]
    split at hs
    · rw [if_pos (by assumption)]; exact hs
    · rw [if_neg (by assumption)]
      rw [Bool.and_eq_true] at hs ⊢
      exact ⟨hs.1, h _ hs.2⟩

theorem one_later (u p : Adr) (s : List UInt8) (h : oneV u p 0 s = true) : oneV u p 1 s = true :=
  wordR_mono (schR_mono (hostR_mono (portR_mono (fun s _ => by unfold pathM; rw [if_pos (.inl (by decide))])))) s h

theorem text4_low (n : Nat) : low (text4 n) = text4 n := by
  have hd : ∀ k < 256, ∀ c ∈ dec8 k, lowC c = c := by decide +kernel
  refine low_plain _ fun c hc => ?_
  unfold text4 at hc
  simp only [List.mem_append, List.mem_cons] at hc
  rcases hc with hc | rfl | hc | rfl | hc | rfl | hc
  · exact hd _ (Nat.mod_lt _ (by decide)) c hc
  · decide
  · exact hd _ (Nat.mod_lt _ (by decide)) c hc
  · decide
  · exact hd _ (Nat.mod_lt _ (by decide)) c hc
  · decide
  · exact hd _ (Nat.mod_lt _ (by decide)) c hc

theorem host_plain (t a : List UInt8) (h : parseV t true = some a) (h0 : a.head? ≠ some 91) : low a = a ∧ 58 ∉ a ∧ 47 ∉ a := by
  have hb := parse_back t a true h
  have hp : Lib.hasPrefix a [91] = false := by
    cases a with
    | nil => rfl
    | cons c r =>
      simp [Lib.hasPrefix, List.isPrefixOf]
      exact fun e => h0 (by simp [e])
  unfold parseV at hb
  rw [hp, if_neg (by decide), if_pos rfl] at hb
  refine ⟨?_, fun e => ?_, fun e => ?_⟩
  · unfold nameV at hb
    split at hb
    · cases hb
    · split at hb
      · cases hf : fourV (low (unpct a)) with
        | none => rw [hf] at hb; cases hb
        | some n =>
          rw [hf] at hb
          have : text4 n = a := by simpa using hb
          rw [← this]; exact text4_low n
      · have : low (unpct a) = a := by simpa using hb
        rw [← this, low_low]
  · rw [name_refused a 58 (by decide) e] at hb; cases hb
  · rw [name_refused a 47 (by decide) e] at hb; cases hb

theorem auth_host11 {sc s a b h : List UInt8} {p : Int} (e : authV sc s = .ok (a, b, h, p)) : ∃ t, parseV t (specV sc) = some h := by
  unfold authV at e
  split at e
  · cases e
  · split at e
    · cases e
    · rename_i h' hh
      split at e
      · cases e
      · injection e with e
        simp only [Prod.mk.injEq] at e
        exact ⟨_, by rw [← e.2.2.1]; exact hh⟩

theorem withPath_host (u : Adr) (L : List (List UInt8)) (r : List UInt8) : (withPath u L r).scheme = u.scheme ∧ (withPath u L r).host = u.host := by
  unfold withPath withQuery
  split <;> exact ⟨rfl, rfl⟩

theorem withAuth_host {u v : Adr} {r : List UInt8} (e : withAuth u r = .ok v) : v.scheme = u.scheme ∧ ∃ t, parseV t (specV u.scheme) = some v.host := by
  unfold withAuth at e
  split at e
  · cases e
  · rename_i a b h p hh
    injection e with e
    subst e
    refine ⟨(withPath_host _ _ _).1, ?_⟩
    rw [(withPath_host _ _ _).2]
    exact auth_host11 hh

/-- Of an address with a Special scheme: the host is one that was parsed as such. -/
theorem read_host {s : List UInt8} {u : Adr} (e : readV s none = .ok u) (hs : specV u.scheme = true) : ∃ t, parseV t true = some u.host := by
  unfold readV at e
  split at e
  · cases e
  · simp only at e
    split at e
    · cases e
    · unfold startV at e
      split at e
      · rename_i hsp
        obtain ⟨h1, t, ht⟩ := withAuth_host e
        exact ⟨t, by rw [hsp] at ht; exact ht⟩
      · rename_i hsp
        split at e
        · obtain ⟨h1, t, ht⟩ := withAuth_host e
          rw [h1] at hs
          exact absurd hs hsp
        · split at e
          · injection e with e
            subst e
            rw [(withPath_host _ _ _).1] at hs
            exact absurd hs hsp
          · injection e with e
            subst e
            have : (withQuery { (beginU s).1 with opq := true, path := [pct 1 (aheadV [63] (beginU s).2).1] } (aheadV [63] (beginU s).2).2).scheme = (beginU s).1.scheme := by
              unfold withQuery; split <;> rfl
            rw [this] at hs
            exact absurd hs hsp

theorem host_self (h : List UInt8) (h0 : h ≠ []) : hostM h h = true := by
  unfold hostM
  split
  · simp [h0]
  · split
    · rename_i hx
      rw [Bool.and_eq_true] at hx
      obtain ⟨t, ht⟩ : ∃ t, h = 42 :: 46 :: t := by
        have := hx.1
        unfold Lib.hasPrefix at this
        rw [List.isPrefixOf_iff_prefix] at this
        obtain ⟨t, ht⟩ := this
        exact ⟨t, ht.symm⟩
      rw [ht]
      simp [Lib.hasSuffix]
    · simp

/-- The host's own address is meant by its text. -/
theorem one_self {s : List UInt8} {u p : Adr} (e : readV s none = .ok u) (hsc : u.scheme = sHttp ∨ u.scheme = sHttps) (hp : u.port = -1) (h0 : u.host ≠ []) (h1 : u.host.head? ≠ some 91) : oneV u p 0 (u.scheme ++ 58 :: 47 :: 47 :: u.host) = true := by
  obtain ⟨t, ht⟩ := read_host e (by rcases hsc with e | e <;> rw [e] <;> decide)
  obtain ⟨hl, h58, h47⟩ := host_plain t u.host ht h1
  have hs58 : 58 ∉ u.scheme := by rcases hsc with e | e <;> rw [e] <;> decide
  have hsch : schemeV (u.scheme ++ 58 :: 47 :: 47 :: u.host) = some (u.scheme, 47 :: 47 :: u.host) := by
    unfold schemeV
    rw [part_some 58 _ _ hs58]
    simp only
    have e1 : schOk u.scheme = true := by rcases hsc with e | e <;> rw [e] <;> decide
    have e2 : low u.scheme = u.scheme := by rcases hsc with e | e <;> rw [e] <;> decide
    rw [e1, e2]; rfl
  have hhd : ∃ r, u.scheme ++ 58 :: 47 :: 47 :: u.host = 104 :: 116 :: r := by
    rcases hsc with e | e <;> rw [e] <;> exact ⟨_, rfl⟩
  obtain ⟨r, hr⟩ := hhd
  unfold oneV wordR
  rw [if_neg (by rw [hr]; simp), if_neg (by rw [hr]; simp [low, tSelf, lowC])]
  have hq : Lib.hasPrefix (u.scheme ++ 58 :: 47 :: 47 :: u.host) [39] = false := by rw [hr]; rfl
  rw [hq]
  unfold schR
  rw [hsch]
  simp only
  have hm : schM u.scheme u.scheme = true := by unfold schM; simp
  rw [if_neg (by simp), if_pos (by rfl), hm]
  have hah : aheadV [58, 47] u.host = (u.host, []) := ahead_all _ _ fun c hc => by
    simp
    exact ⟨fun e => h58 (e ▸ hc), fun e => h47 (e ▸ hc)⟩
  show (!false && (true && hostR u (portR u (pathM 0 u)) (List.drop 2 (47 :: 47 :: u.host)))) = true
  unfold hostR portR
  rw [show List.drop 2 (47 :: 47 :: u.host) = u.host from rfl, hah]
  simp only
  rw [hl, host_self u.host h0]
  have ha2 : aheadV [47] [] = ([], []) := rfl
  rw [ha2]
  simp [portM, hp, pathM]

theorem one_none (u p : Adr) (hops : Int) : oneV u p hops [39, 110, 111, 110, 101, 39] = false := by
  unfold oneV wordR
  rw [if_neg (by decide), if_neg (by decide)]
  rfl

end Go.Proofs.YtkhpemjjholneaaGreatDoor

namespace Go.Proofs.YtkhpemjjholneaaGreatDoor
/-- A word: q, and small letters behind it. -/
def WrQ (T : List UInt8) : Prop := ∃ r : List UInt8, T = 113 :: r ∧ ∀ c ∈ r, 97 ≤ c.toNat ∧ c.toNat ≤ 122

theorem WrQ.mem {T : List UInt8} (h : WrQ T) : ∀ c ∈ T, 97 ≤ c.toNat ∧ c.toNat ≤ 122 := fun c hc => by
  obtain ⟨r, rfl, hr⟩ := h
  rcases List.mem_cons.1 hc with rfl | hc
  · decide
  · exact hr c hc

theorem WrQ.start : WrQ [113] := ⟨[], rfl, fun c hc => by simp at hc⟩

/-- What is known of a small letter. -/
theorem small_facts (c : UInt8) (h : 97 ≤ c.toNat ∧ c.toNat ≤ 122) : lowC c = c ∧ hnC c = true ∧ c ≠ 46 ∧ c ≠ 47 ∧ c ≠ 58 ∧ c ≠ 37 ∧ paC c = true ∧ inSetI c.toNat 5 = false ∧ c ≠ 42 ∧ c ≠ 39 := by
  have key : ∀ n < 256, (97 ≤ n ∧ n ≤ 122) → lowC (UInt8.ofNat n) = UInt8.ofNat n ∧ hnC (UInt8.ofNat n) = true ∧ UInt8.ofNat n ≠ 46 ∧ UInt8.ofNat n ≠ 47 ∧ UInt8.ofNat n ≠ 58 ∧ UInt8.ofNat n ≠ 37 ∧ paC (UInt8.ofNat n) = true ∧ inSetI n 5 = false ∧ UInt8.ofNat n ≠ 42 ∧ UInt8.ofNat n ≠ 39 := by decide +kernel
  have e : UInt8.ofNat c.toNat = c := by simp
  have := key c.toNat c.toNat_lt h
  rw [e] at this
  exact this

theorem WrQ.low {T : List UInt8} (h : WrQ T) : low T = T := low_plain _ fun c hc => (small_facts c (h.mem c hc)).1

end Go.Proofs.YtkhpemjjholneaaGreatDoor

namespace Go.Proofs.YtkhpemjjholneaaGreatDoor
/-- Small letters, one at least. -/
def Lets (T : List UInt8) : Prop := T ≠ [] ∧ ∀ c ∈ T, 97 ≤ c.toNat ∧ c.toNat ≤ 122

theorem Lets.no {T : List UInt8} (h : Lets T) : 47 ∉ T ∧ 58 ∉ T ∧ 37 ∉ T := ⟨fun e => (small_facts 47 (h.2 47 e)).2.2.2.1 rfl, fun e => (small_facts 58 (h.2 58 e)).2.2.2.2.1 rfl, fun e => (small_facts 37 (h.2 37 e)).2.2.2.2.2.1 rfl⟩

theorem Lets.unpct {T : List UInt8} (h : Lets T) : unpct T = T := unpct_plain T h.no.2.2

theorem Lets.pct {T : List UInt8} (h : Lets T) : pct 5 T = T := by
  have key : ∀ l : List UInt8, (∀ c ∈ l, 97 ≤ c.toNat ∧ c.toNat ≤ 122) → Go.Proofs.YtkhpemjjholneaaGreatDoor.pct 5 l = l := by
    intro l
    induction l with
    | nil => intro _; rfl
    | cons c l ih =>
      intro hl
      unfold Go.Proofs.YtkhpemjjholneaaGreatDoor.pct at ih ⊢
      rw [List.flatMap_cons, ih fun d hd => hl d (by simp [hd])]
      unfold pct1
      rw [(small_facts c (hl c (by simp))).2.2.2.2.2.2.2.1]
      rfl
  exact key T h.2

end Go.Proofs.YtkhpemjjholneaaGreatDoor

namespace Go.Proofs.YtkhpemjjholneaaGreatDoor
open Go.RowKit

theorem known_1 : lawOne [42, 46, 98, 46, 99, 111, 109] [104, 116, 116, 112, 115, 58, 47, 47, 97, 46, 98, 46, 99, 111, 109, 47] [104, 116, 116, 112, 115, 58, 47, 47, 112, 47] 0 = true := by decide +kernel

theorem known_2 : lawOne [98, 46, 99, 111, 109] [104, 116, 116, 112, 115, 58, 47, 47, 98, 46, 99, 111, 109, 58, 52, 52, 52, 47] [104, 116, 116, 112, 115, 58, 47, 47, 112, 47] 0 = false := by decide +kernel

theorem known_3 : lawOne [104, 116, 116, 112, 58, 47, 47, 98, 46, 99, 111, 109, 47, 120, 47] [104, 116, 116, 112, 115, 58, 47, 47, 98, 46, 99, 111, 109, 47, 120, 47, 121] [104, 116, 116, 112, 115, 58, 47, 47, 112, 47] 0 = true := by decide +kernel

theorem known_4 : lawOne [104, 116, 116, 112, 115, 58] [104, 116, 116, 112, 58, 47, 47, 97, 47] [104, 116, 116, 112, 58, 47, 47, 112, 47] 0 = false := by decide +kernel

/-- A call of one at given texts. -/
theorem lawOne_at (s u p : ByteArray) (hops : Int) (b : Bool) (w : World) (hg : Gd w) (hs : s.size ≤ 4000000000) (hu : u.size ≤ 1000000) (hp : p.size ≤ 1000000) (h : lawOne s.data.toList u.data.toList p.data.toList hops = b) :
    Calls Tryz.prog 30 #[.string s, .string u, .string p, .int .i64 hops] w fun e w' => e = .returned (.bool b) ∧ Below w.heap.size w w' := by
  rw [← h]
  exact lawOne_any s u p hops w hg hs (by omega) (by omega)

set_option maxHeartbeats 2000000 in
set_option maxRecDepth 100000 in
theorem known11_any (w : World) (hg : Gd w) :
    Calls Tryz.prog 33 #[] w fun e w' => e = .returned (.bool true) ∧ Below w.heap.size w w' := by
  have H1 := hid (fun w hg => lawOne_at ⟨#[42, 46, 98, 46, 99, 111, 109]⟩ ⟨#[104, 116, 116, 112, 115, 58, 47, 47, 97, 46, 98, 46, 99, 111, 109, 47]⟩ ⟨#[104, 116, 116, 112, 115, 58, 47, 47, 112, 47]⟩ 0 true w hg (by decide) (by decide) (by decide) known_1)
  have H2 := hid (fun w hg => lawOne_at ⟨#[98, 46, 99, 111, 109]⟩ ⟨#[104, 116, 116, 112, 115, 58, 47, 47, 98, 46, 99, 111, 109, 58, 52, 52, 52, 47]⟩ ⟨#[104, 116, 116, 112, 115, 58, 47, 47, 112, 47]⟩ 0 false w hg (by decide) (by decide) (by decide) known_2)
  have H3 := hid (fun w hg => lawOne_at ⟨#[104, 116, 116, 112, 58, 47, 47, 98, 46, 99, 111, 109, 47, 120, 47]⟩ ⟨#[104, 116, 116, 112, 115, 58, 47, 47, 98, 46, 99, 111, 109, 47, 120, 47, 121]⟩ ⟨#[104, 116, 116, 112, 115, 58, 47, 47, 112, 47]⟩ 0 true w hg (by decide) (by decide) (by decide) known_3)
  have H4 := hid (fun w hg => lawOne_at ⟨#[104, 116, 116, 112, 115, 58]⟩ ⟨#[104, 116, 116, 112, 58, 47, 47, 97, 47]⟩ ⟨#[104, 116, 116, 112, 58, 47, 47, 112, 47]⟩ 0 false w hg (by decide) (by decide) (by decide) known_4)
  have HG := hid hg
  clear hg
  go_enter Tryz.func33, Tryz.ntmps33
  go_wp2_with fail
  refine (H1.out _ HG.out).mono ?_
  rintro e w1 ⟨rfl, hb1⟩
  have HB1 := hid hb1
  clear hb1
  go_wp2_with fail
  refine (H2.out _ (HG.out.kept HB1.out)).mono ?_
  rintro e w2 ⟨rfl, hb2⟩
  have HB2 := hid (below2 HB1.out hb2)
  clear hb2
  go_wp2_with fail
  refine (H3.out _ (HG.out.kept HB2.out)).mono ?_
  rintro e w3 ⟨rfl, hb3⟩
  have HB3 := hid (below2 HB2.out hb3)
  clear hb3
  go_wp2_with fail
  refine (H4.out _ (HG.out.kept HB3.out)).mono ?_
  rintro e w4 ⟨rfl, hb4⟩
  have HB4 := hid (below2 HB3.out hb4)
  clear hb4
  go_wp2
  go_ret
  exact ⟨rfl, HB4.out⟩

end Go.Proofs.YtkhpemjjholneaaGreatDoor
