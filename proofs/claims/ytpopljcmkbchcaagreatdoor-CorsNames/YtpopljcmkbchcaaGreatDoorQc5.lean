/-
  Walks and plain facts that this claim leans on, put together out of 4 texts: Bg, Bi, Bj, Ca.
-/
import Derived.Test.YtpopljcmkbchcaaGreatDoorProg
import Derived.Test.YtpopljcmkbchcaaGreatDoorQc1
import Derived.Test.YtpopljcmkbchcaaGreatDoorQc3
import Derived.Test.YtpopljcmkbchcaaGreatDoorQc4
import Derived.BigRegion
import Derived.Deep.RegionHeld
import Derived.Deep.RegionHeldLaw
import Derived.WalkKit
import Derived.Lib.Strings
import Derived.Lib.UnsafeStr
import Derived.Laws.IdiomStrings
import Derived.Laws.AppendOwn
import Derived.Laws.BitsAllLaws
import Derived.Lib.Bytealg
import Derived.Lib.BufferMore
import Derived.LoopN
import Derived.Shelf.Strings.Builder1
import Derived.Shelf.Strings.Builder2
import Derived.Shelf.Strings.OnBuilder
import Derived.Shelf.Strings.Trim
import Derived.Shelf.Small.Utf8
import Derived.Shelf.Small.Bits
import Derived.Shelf.Small.Strs
import Derived.Shelf.Small.Wraps
import Derived.Shelf.Strings.BuilderF
import Derived.Shelf.Strings.BuilderK
import Derived.Shelf.Strings.BuilderRune
import Derived.Shelf.Utf8.AppendRune
import Derived.Shelf.Utf8.AppendRunePlain
import Derived.Shelf.Strings.Builder2Cap
import Derived.Shelf.Strconv.Itoa0
import Derived.Shelf.Strconv.Itoa1
import Derived.Shelf.LaysM
import Derived.Shelf.Strconv.Itoa2
import Derived.Shelf.Strconv.Itoa3
import Derived.Shelf.Strings.Search1
import Derived.Shelf.Strings.Search2
import Derived.Shelf.Strings.Cut
import Derived.Shelf.Strings.Shaped
import Derived.Shelf.Sort.Plain
import Derived.Shelf.Strings.Prefix
import Derived.Shelf.Unicode.Latin
import Derived.Shelf.Strings.Runes
import Derived.Shelf.Strings.IndexAny
import Derived.Shelf.Strings.AsciiSet
import Derived.Shelf.Strings.IndexAnyAll
import Derived.Shelf.Unicode.DecodeSlow
import Derived.Shelf.Unicode.DecodeAny
import Derived.Shelf.Unicode.DecodeLast
import Derived.Shelf.Unicode.CaseLookup
import Derived.Shelf.Unicode.CaseConvert
import Derived.Shelf.Unicode.CaseTo
import Derived.Shelf.Unicode.CaseLaid
import Derived.Shelf.Slices.CompactS
import Derived.Shelf.Slices.In.SortNone
import Derived.WalkSpells
import Derived.WalkLawsBesides
import Derived.Lib.SlTrimSet
import Derived.Lib.Join
import Derived.Lib.IndexMore
import Derived.Laws.OwnMore
import Derived.Below
import Derived.WalkSmall
import Derived.Lib.SmallJoins
import Derived.Deep.QuietTactic
import Derived.BigQuiet
import Derived.Deep.LoopGhost
import Derived.Deep.MidRow
import Derived.Shelf.Strings.SlTrimAscii
import Derived.Deep.CutRange
import Derived.Laws.Rows
import Derived.Laws.CopyOwn
import Derived.Laws.MakeOwn
import Derived.Laws.RangeAny
import Derived.Lib.DecodeN
import Derived.Lib.OthersKept
import Derived.RegionTactic
import Derived.Deep.RegionWith
import Derived.Laws.Runes
import Derived.Deep.WholeRow
import Derived.Deep.RegionLaw
import Derived.Laws.AppendOwnNone
set_option linter.unusedSimpArgs false
set_option linter.unusedVariables false

namespace Go.Proofs.YtpopljcmkbchcaaGreatDoor
open Go.RowKit

def LeH (x y : Hd) : Prop := ltN y.name x.name = false

theorem ltN_eq {a b : List UInt8} (h1 : ltN a b = false) (h2 : ltN b a = false) : a = b := by
 rcases ltN_total a b with h | h | h
 ·rw [h1] at h; cases h
 ·exact h
 ·rw [h2] at h; cases h

theorem Srt.pair {M : List Hd} (h : Srt M M.length) : M.Pairwise LeH := by
 rw [List.pairwise_iff_getElem]
 intro i j hi hj hij
 have := h i j hij hj
 unfold nmAt at this
 rw [show M.getD j ⟨[], []⟩ = M[j] by simp [List.getD, hj], show M.getD i ⟨[], []⟩ = M[i] by simp [List.getD, hi]] at this
 exact this

theorem same_of_stab : ∀ {A B : List Hd}, A.Pairwise LeH → B.Pairwise LeH → Stab A B → A = B
 | [], B, _, _, hs => by
  cases B with
  | nil => rfl
  | cons b B => exact absurd (hs.mem List.mem_cons_self) (by simp)
 | a :: A, B, ha, hb, hs => by
  cases B with
  | nil =>
   have := hs a.name
   simp at this
  | cons b B =>
   have h1 : b ∈ a :: A := hs.mem List.mem_cons_self
   have hs' : Stab (b :: B) (a :: A) := fun x => (hs x).symm
   have h2 : a ∈ b :: B := hs'.mem List.mem_cons_self
   have e1 : ltN b.name a.name = false := by
    rcases List.mem_cons.1 h1 with e | e
    ·rw [e]; exact ltN_irrefl _
    ·exact (List.pairwise_cons.1 ha).1 b e
   have e2 : ltN a.name b.name = false := by
    rcases List.mem_cons.1 h2 with e | e
    ·rw [e]; exact ltN_irrefl _
    ·exact (List.pairwise_cons.1 hb).1 a e
   have en := ltN_eq e2 e1
   have hh := hs a.name
   rw [List.filter_cons_of_pos (by simp [en]), List.filter_cons_of_pos (by simp)] at hh
   have eab : b = a := (List.cons.inj hh).1
   subst eab
   congr 1
   refine same_of_stab (List.pairwise_cons.1 ha).2 (List.pairwise_cons.1 hb).2 fun x => ?_
   have := hs x
   by_cases hx : b.name = x
   ·rw [List.filter_cons_of_pos (by simp [hx]), List.filter_cons_of_pos (by simp [hx])] at this
    exact (List.cons.inj this).2
   ·rw [List.filter_cons_of_neg (by simp [hx]), List.filter_cons_of_neg (by simp [hx])] at this
    exact this

def LtH (x y : Hd) : Prop := ltN y.name x.name = false ∧ (x.name = y.name → x.name = scN)

structure Told (R O : List Hd) : Prop where
 ordered : O.Pairwise LtH
 named : ∀ x ∈ O, ∃ y ∈ R, y.name = x.name
 valued : ∀ x ∈ O, x.name ≠ scN → x.value = Lib.join ((R.filter (fun y => y.name == x.name)).map (·.value)) [44, 32]
 few : O.length ≤ R.length
 small : ∀ x ∈ O, x.value.length ≤ bulkV R

theorem bulkV_app (A B : List Hd) : bulkV (A ++ B) = bulkV A + bulkV B := by simp [bulkV]

theorem nmAt_get {M : List Hd} {j : Nat} (h : j < M.length) : nmAt M j = M[j].name := by simp [nmAt, List.getD, h]

theorem Bld.told : ∀ {R O : List Hd}, Bld R O → R.Pairwise LeH → Told R O := by
 intro R O h
 induction h with
 | nil => exact fun _ => ⟨.nil, by simp, by simp, Nat.le_refl _, by simp⟩
 | @step R O k h hO ih =>
  intro hp
  obtain ⟨hk1, hkl, hall, hk2, hend⟩ := h
  have hsp : R.take k ++ R.drop k = R := List.take_append_drop k R
  have hp' := hp
  rw [← hsp, List.pairwise_append] at hp'
  obtain ⟨hpt, hpd, hcr⟩ := hp'
  have T := ih hpd
  have h0 : 0 < R.length := by omega
  have hR0 : R[0] ∈ R.take k := List.mem_take_iff_getElem.2 ⟨0, by omega, rfl⟩
  have hn0 : nmAt R 0 = R[0].name := nmAt_get h0
  have hck : ∀ z ∈ R.drop k, z.name = nmAt R 0 → nmAt R 0 = scN := by
   intro z hz hzn
   rcases hend with e | e | e
   ·rw [e, List.drop_length] at hz; cases hz
   ·exfalso
    have hkR : k < R.length := by
     by_cases q : k < R.length
     ·exact q
     ·rw [List.drop_eq_nil_of_le (by omega)] at hz; cases hz
    have hd : R.drop k = R[k] :: R.drop (k + 1) := List.drop_eq_getElem_cons hkR
    have l1 : ltN R[k].name R[0].name = false := hcr R[0] hR0 R[k] (by rw [hd]; exact List.mem_cons_self)
    have l2 : ltN z.name R[k].name = false := by
     rw [hd] at hz hpd
     rcases List.mem_cons.1 hz with q | q
     ·rw [q]; exact ltN_irrefl _
     ·exact (List.pairwise_cons.1 hpd).1 z q
    rw [hzn, hn0] at l2
    apply e
    rw [nmAt_get hkR, hn0]
    exact ltN_eq l1 l2
   ·exact e
  have hta : ∀ y ∈ R.take k, y.name = nmAt R 0 := by
   intro y hy
   obtain ⟨j, hj, rfl⟩ := List.mem_take_iff_getElem.1 hy
   have := hall j (by omega)
   rw [nmAt_get (by omega)] at this
   exact this
  refine ⟨List.pairwise_cons.2 ⟨?_, T.ordered⟩, ?_, ?_, ?_, ?_⟩
  ·intro y hy
   obtain ⟨z, hz, hzn⟩ := T.named y hy
   refine ⟨?_, fun e => ?_⟩
   ·show ltN y.name (nmAt R 0) = false
    rw [← hzn, hn0]
    exact hcr R[0] hR0 z hz
   ·exact hck z hz (hzn.trans e.symm)
  ·intro x hx
   rcases List.mem_cons.1 hx with e | e
   ·subst e
    exact ⟨R[0], List.getElem_mem _, hn0.symm⟩
   ·obtain ⟨z, hz, hzn⟩ := T.named x e
    exact ⟨z, List.mem_of_mem_drop hz, hzn⟩
  ·intro x hx hne
   rcases List.mem_cons.1 hx with e | e
   ·subst e
    show getT (R.take k) (nmAt R 0) = _
    have e1 : R.filter (fun y => y.name == nmAt R 0) = R.take k := by
     conv => lhs; rw [← hsp]
     rw [List.filter_append, List.filter_eq_self.2 (fun y hy => by simp [hta y hy]), List.filter_eq_nil_iff.2, List.append_nil]
     intro z hz q
     exact hne (hck z hz (by simpa using q))
    show _ = Lib.join ((R.filter (fun y => y.name == nmAt R 0)).map (·.value)) [44, 32]
    rw [e1]
    unfold getT selV
    rw [List.filter_eq_self.2 (fun y hy => by rw [isN, hta y hy]; simp)]
   ·rw [T.valued x e hne]
    congr 2
    conv => rhs; rw [← hsp]
    have e2 : (R.take k).filter (fun y => y.name == x.name) = [] := List.filter_eq_nil_iff.2 (by
     intro y hy q
     obtain ⟨z, hz, hzn⟩ := T.named x e
     have q' : y.name = x.name := by simpa using q
     have := hck z hz (by rw [hzn, ← q', hta y hy])
     exact hne (by rw [← q', hta y hy, this]))
    rw [List.filter_append, e2, List.nil_append]
  ·have := T.few
   rw [List.length_drop] at this
   simp only [List.length_cons]
   omega
  ·intro x hx
   rw [← hsp, bulkV_app]
   rcases List.mem_cons.1 hx with e | e
   ·subst e
    have := getT_len (R.take k) (nmAt R 0)
    show (getT (R.take k) (nmAt R 0)).length ≤ _
    omega
   ·have := T.small x e
    omega

theorem join_one (x : List UInt8) (s : List UInt8) : Lib.join [x] s = x := by simp [Lib.join, List.intercalate]

theorem Bld.same : ∀ {R O : List Hd}, Bld R O → R.Pairwise LtH → O = R := by
 intro R O h
 induction h with
 | nil => exact fun _ => rfl
 | @step R O k h hO ih =>
  intro hp
  obtain ⟨hk1, hkl, hall, hk2, hend⟩ := h
  have h0 : 0 < R.length := by omega
  have hk : k = 1 := by
   rcases hk2 with e | e
   ·exact e
   ·by_cases q : k = 1
    ·exact q
    ·exfalso
     have h1 : 1 < R.length := by omega
     have := List.pairwise_iff_getElem.1 hp 0 1 h0 h1 (by omega)
     have q2 := hall 1 (by omega)
     rw [nmAt_get h1, nmAt_get h0] at q2
     exact e (by rw [nmAt_get h0]; exact this.2 q2.symm)
  subst hk
  cases R with
  | nil => simp at h0
  | cons x R =>
   have := ih (List.pairwise_cons.1 hp).2
   rw [this]
   show (⟨x.name, getT [x] x.name⟩ : Hd) :: R = x :: R
   have : getT [x] x.name = x.value := by simp [getT, selV, isN, join_one]
   rw [this]

end Go.Proofs.YtpopljcmkbchcaaGreatDoor

namespace Go.Proofs.YtpopljcmkbchcaaGreatDoor
open Go.RowKit

theorem Tog.le {M : List Hd} {k n : Nat} (h : Tog M k) (h' : Tog M n) : n ≤ k := by
 by_cases hl : n ≤ k
 ·exact hl
 ·exfalso
  obtain ⟨a1, a2, a3, a4, a5⟩ := h
  obtain ⟨b1, b2, b3, b4, b5⟩ := h'
  rcases a5 with e | e | e
  ·omega
  ·exact e (b3 k (by omega))
  ·rcases b4 with q | q
   ·omega
   ·exact q e

theorem Tog.one {M : List Hd} {k n : Nat} (h : Tog M k) (h' : Tog M n) : k = n := Nat.le_antisymm (h'.le h) (h.le h')

theorem Bld.one : ∀ {R O : List Hd}, Bld R O → ∀ {Q : List Hd}, Bld R Q → O = Q := by
 intro R O h
 induction h with
 | nil =>
  intro Q h'
  cases h' with
  | nil => rfl
  | step k h _ => obtain ⟨h1, h2, _⟩ := h; simp at h2; omega
 | @step R O k h hO ih =>
  intro Q h'
  cases h' with
  | nil => obtain ⟨h1, h2, _⟩ := h; simp at h2; omega
  | step n h2 hQ =>
   obtain rfl := h.one h2
   rw [ih hQ]

theorem SortsTo.one {L O Q : List Hd} (h : SortsTo L O) (h' : SortsTo L Q) : O = Q := by
 obtain ⟨M, _, hst, hsr, hb⟩ := h
 obtain ⟨M', _, hst', hsr', hb'⟩ := h'
 have : M = M' := same_of_stab hsr.pair hsr'.pair (fun x => (hst' x).trans (hst x).symm)
 subst this
 exact hb.one hb'

theorem Bld.all : ∀ {R O : List Hd}, Bld R O → ∀ y ∈ R, ∃ x ∈ O, x.name = y.name := by
 intro R O h
 induction h with
 | nil => intro y hy; cases hy
 | @step R O k h hO ih =>
  intro y hy
  obtain ⟨hk1, hkl, hall, _, _⟩ := h
  rw [← List.take_append_drop k R, List.mem_append] at hy
  rcases hy with hy | hy
  ·obtain ⟨j, hj, rfl⟩ := List.mem_take_iff_getElem.1 hy
   refine ⟨_, List.mem_cons_self, ?_⟩
   have := hall j (by omega)
   rw [nmAt_get (by omega)] at this
   exact this.symm
  ·obtain ⟨x, hx, e⟩ := ih y hy
   exact ⟨x, List.mem_cons_of_mem _ hx, e⟩

theorem Bld.cookies : ∀ {R O : List Hd}, Bld R O → O.filter (fun x => x.name == scN) = R.filter (fun x => x.name == scN) := by
 intro R O h
 induction h with
 | nil => rfl
 | @step R O k h hO ih =>
  obtain ⟨hk1, hkl, hall, hk2, _⟩ := h
  have h0 : 0 < R.length := by omega
  by_cases hs : nmAt R 0 = scN
  ·have hk : k = 1 := by
    rcases hk2 with e | e
    ·exact e
    ·exact absurd hs e
   subst hk
   cases R with
   | nil => simp at h0
   | cons x R =>
    have hx : x.name = scN := hs
    have e1 : getT [x] x.name = x.value := by simp [getT, selV, isN, join_one]
    show List.filter _ ((⟨x.name, getT [x] x.name⟩ : Hd) :: O) = _
    rw [e1, List.filter_cons_of_pos (by simp [hx]), List.filter_cons_of_pos (by simp [hx]), ih]
    rfl
  ·rw [List.filter_cons_of_neg (by simpa using hs), ih]
   conv => rhs; rw [← List.take_append_drop k R]
   have e2 : (R.take k).filter (fun x => x.name == scN) = [] := List.filter_eq_nil_iff.2 (by
    intro y hy q
    obtain ⟨j, hj, rfl⟩ := List.mem_take_iff_getElem.1 hy
    have := hall j (by omega)
    rw [nmAt_get (by omega)] at this
    exact hs (by rw [← this]; simpa using q))
   rw [List.filter_append, e2, List.nil_append]

end Go.Proofs.YtpopljcmkbchcaaGreatDoor

namespace Go.Proofs.YtpopljcmkbchcaaGreatDoor
open Go.RowKit

theorem join_snoc : ∀ (A : List (List UInt8)) (x s : List UInt8), A ≠ [] → Lib.join (A ++ [x]) s = Lib.join A s ++ s ++ x
 | [], _, _, h => absurd rfl h
 | [a], x, s, _ => by simp [Lib.join, List.intercalate]
 | a :: b :: A, x, s, _ => by
  have ih := join_snoc (b :: A) x s (by simp)
  simp only [Lib.join, List.intercalate] at ih ⊢
  simp at ih ⊢
  exact ih

theorem getB_snoc (L : List Hd) (h : Hd) (n : List UInt8) : getB (L ++ [h]) n = (getB L n || isN n h) := by
 unfold getB
 rw [selV_snoc]
 cases hh : isN n h <;> cases hs : selV L n <;> simp

theorem getT_snoc (L : List Hd) (h : Hd) (n : List UInt8) : getT (L ++ [h]) n = if isN n h then (if getB L n then getT L n ++ [44, 32] ++ h.value else getT L n ++ h.value) else getT L n := by
 unfold getT getB
 rw [selV_snoc]
 cases hh : isN n h with
 | false => simp
 | true =>
  cases hs : selV L n with
  | nil => simp [Lib.join, List.intercalate]
  | cons a A =>
   rw [if_pos rfl, join_snoc _ _ _ (by simp)]
   simp

def SpI (s : List UInt8) (f i : Nat) (q : Bool) : Prop := f ≤ i ∧ i ≤ s.length ∧ cutQ false (s.drop f) = (cutQ q (s.drop i)).map (· + (i - f))

theorem SpI.start (s : List UInt8) (f : Nat) (h : f ≤ s.length) : SpI s f f false := ⟨Nat.le_refl _, h, by simp⟩

theorem SpI.last {s : List UInt8} {f : Nat} {q : Bool} (h : SpI s f s.length q) : pcs (s.drop f) = [s.drop f] := by
 obtain ⟨_, _, h3⟩ := h
 rw [List.drop_length] at h3
 refine pcs_none _ (h3.trans ?_)
 cases q <;> simp [cutQ]

theorem SpI.comma {s : List UInt8} {f i : Nat} (h : SpI s f i false) (hi : i < s.length) (hc : s[i] = 44) : pcs (s.drop f) = (s.drop f).take (i - f) :: pcs (s.drop (i + 1)) := by
 obtain ⟨h1, _, h3⟩ := h
 rw [List.drop_eq_getElem_cons hi, hc, cutQ_comma] at h3
 rw [pcs_some _ (i - f) (by rw [h3]; simp), List.drop_drop, show f + (i - f + 1) = i + 1 by omega]

theorem map_add {o : Option Nat} {a b c : Nat} (h : a + b = c) : (o.map (· + a)).map (· + b) = o.map (· + c) := by rw [map_map_add, h]

theorem SpI.step {s : List UInt8} {f i d : Nat} {q r : Bool} (h : SpI s f i q) (hd : i + d ≤ s.length) (hc : cutQ q (s.drop i) = (cutQ r (s.drop (i + d))).map (· + d)) : SpI s f (i + d) r := by
 obtain ⟨h1, h2, h3⟩ := h
 refine ⟨by omega, hd, ?_⟩
 rw [h3, hc]
 exact map_add (by omega)

theorem SpI.back {s : List UInt8} {f i : Nat} (h : SpI s f i true) (hi : i + 1 < s.length) (hc : s[i] = 92) : SpI s f (i + 2) true := by
 refine h.step (by omega) ?_
 rw [List.drop_eq_getElem_cons (show i < s.length by omega), hc, cutQ_back, List.drop_drop]

theorem SpI.back_last {s : List UInt8} {f i : Nat} (h : SpI s f i true) (hi : i + 1 = s.length) (hc : s[i] = 92) : SpI s f (i + 1) true := by
 refine h.step (by omega) ?_
 rw [List.drop_eq_getElem_cons (show i < s.length by omega), hc, List.drop_eq_nil_of_le (show s.length ≤ i + 1 by omega)]
 rfl

theorem SpI.quote {s : List UInt8} {f i : Nat} {q : Bool} (h : SpI s f i q) (hi : i < s.length) (hc : s[i] = 34) : SpI s f (i + 1) (!q) := by
 refine h.step (by omega) ?_
 rw [List.drop_eq_getElem_cons hi, hc]
 cases q
 ·exact cutQ_open _
 ·exact cutQ_close _

theorem SpI.other {s : List UInt8} {f i : Nat} {q : Bool} (h : SpI s f i q) (hi : i < s.length) (h1 : s[i] ≠ 34) (h2 : q = false → s[i] ≠ 44) (h3 : q = true → s[i] ≠ 92) : SpI s f (i + 1) q := by
 refine h.step (by omega) ?_
 rw [List.drop_eq_getElem_cons hi]
 cases q
 ·exact cutQ_other _ _ (h2 rfl) h1
 ·exact cutQ_in _ _ h1 (h3 rfl)

def rdOk (l : List UInt8) : Bool := rUnit l && (Lib.cut (rRest l) [45]).2.2 && !(rL l == [] && rR l == []) && bndOk (rL l) && bndOk (rR l) && !(decide (0 ≤ bndV (rL l)) && decide (0 ≤ bndV (rR l)) && decide (bndV (rR l) < bndV (rL l)))

theorem rdOk_eq (l : List UInt8) (hp : ∀ x : List UInt8, 0 ≤ intV x) : rdOk l = rOk l := by
 unfold rdOk rOk
 generalize rL l = A
 generalize rR l = B
 cases rUnit l <;> cases (Lib.cut (rRest l) [45]).2.2 <;> simp only [Bool.true_and, Bool.false_and]
 by_cases hA : A = []
 ·subst hA
  by_cases hB : B = []
  ·subst hB; decide
  ·have h2 : 0 ≤ bndV B := by unfold bndV; rw [if_neg hB]; exact hp B
   have e : (B == []) = false := by simp [hB]
   have e3 : bndV [] = -1 := rfl
   rw [e, e3]
   cases bndOk [] <;> cases bndOk B <;> simp [spansI] <;> omega
 ·have h1 : 0 ≤ bndV A := by unfold bndV; rw [if_neg hA]; exact hp A
  have e : (A == []) = false := by simp [hA]
  rw [e]
  by_cases hB : B = []
  ·subst hB
   have e3 : bndV [] = -1 := rfl
   rw [e3]
   cases bndOk A <;> cases bndOk [] <;> simp [spansI, h1]
  ·have h2 : 0 ≤ bndV B := by unfold bndV; rw [if_neg hB]; exact hp B
   have hn : ¬ bndV B < 0 := by omega
   unfold spansI
   rw [if_neg hn]
   by_cases q : bndV A ≤ bndV B
   ·have q2 : ¬ bndV B < bndV A := by omega
    cases bndOk A <;> cases bndOk B <;> simp [h1, h2, q, q2]
   ·have q2 : bndV B < bndV A := by omega
    cases bndOk A <;> cases bndOk B <;> simp [h1, h2, q, q2]

end Go.Proofs.YtpopljcmkbchcaaGreatDoor

namespace Go.Proofs.YtpopljcmkbchcaaGreatDoor
open Go.RowKit

set_option maxHeartbeats 2000000 in
set_option maxRecDepth 100000 in
theorem rget_any (v : Value) (L : List Hd) (n : ByteArray) (w : World) (h : HdAt w v L) (hs : n.size ≤ 140737488351232) (hz : Szd 140737488351232 L) (hl : L.length ≤ 1000000) (hb : bulkV L ≤ 140737488355328) :
  Calls Tryz.prog 62 #[v, .string n] w fun e w' => e = .returned (.tuple #[.string ⟨(getT L n.data.toList).toArray⟩, .bool (getB L n.data.toList)]) ∧ Below w.heap.size w w' := by
 obtain ⟨a1, c1, rfl, hc1, hm1, hv1⟩ := h.view
 have V1 := hid hv1
 have HZ := hid hz
 have HB := hid hb
 clear h hv1 hz hb
 go_enter Tryz.func62, Tryz.ntmps62
 go_wp2
 go_loopw [6, 7, 8] (fun sv bv i wr => ∃ k : Nat, k ≤ L.length ∧ i = .int .i64 k ∧ sv = .string ⟨(getT (L.take k) n.data.toList).toArray⟩ ∧ bv = .bool (getB (L.take k) n.data.toList) ∧ Below w.heap.size w wr)
  (fun _ _ i _ => L.length - (intOf i).toNat)
 case atStart => exact ⟨0, Nat.zero_le _, rfl, rfl, rfl, Below.refl _ _⟩
 case round =>
  obtain ⟨k, hk, rfl, rfl, rfl, hbw⟩ := hrel
  obtain ⟨S, hS⟩ : ∃ x : ByteArray, x = ⟨(getT (L.take k) n.data.toList).toArray⟩ := ⟨_, rfl⟩
  obtain ⟨b, hB⟩ : ∃ x, x = getB (L.take k) n.data.toList := ⟨_, rfl⟩
  have hSs : S.size ≤ 140737488355328 := by
   rw [hS, xsize]
   refine Nat.le_trans (getT_len _ _) (Nat.le_trans ?_ HB.out)
   have := bulkV_app (L.take k) (L.drop k)
   rw [List.take_append_drop] at this
   omega
  rw [← hS, ← hB]
  have HS := hid hS
  have HBb := hid hB
  clear hS hB
  by_cases hlt : k < L.length
  ·have hlt' : (k : Int) < (L.length : Int) := by omega
   obtain ⟨b1, o1, rfl, e1, e2⟩ := V1.out k hlt
   have hblk : b1 < w.heap.size := World.block_lt_of_cell? w _ e1
   obtain ⟨nm, hnm⟩ : ∃ x : ByteArray, x = ⟨L[k].name.toArray⟩ := ⟨_, rfl⟩
   obtain ⟨vl, hvl⟩ : ∃ x : ByteArray, x = ⟨L[k].value.toArray⟩ := ⟨_, rfl⟩
   rw [← hnm] at e1
   rw [← hvl] at e2
   have f1 : wr.cell? ⟨b1, o1 + k * 2, none⟩ = some (.string nm) := (hbw.cell hblk).trans e1
   have f2 : wr.cell? ⟨b1, o1 + k * 2 + 1, none⟩ = some (.string vl) := (hbw.cell hblk).trans e2
   have hsz : nm.size ≤ 140737488351232 := by rw [hnm, xsize]; exact (HZ.out _ (List.getElem_mem hlt)).1
   have hvz : vl.size ≤ 140737488351232 := by rw [hvl, xsize]; exact (HZ.out _ (List.getElem_mem hlt)).2
   have HT := hid (show L.take (k + 1) = L.take k ++ [L[k]] by rw [List.take_add_one, List.getElem?_eq_getElem hlt]; rfl)
   have HV := hid (show vl.data.toList = L[k].value by rw [hvl])
   have HD := hid (show isN n.data.toList L[k] = decide (low nm.data.toList = low n.data.toList) by rw [isN, hnm]; simp [Bool.beq_eq_decide_eq])
   have HNm : Hid (∀ X : World, Calls Tryz.prog 114 #[.agg #[.string nm, .string vl], .string n] X fun e w' => e = .returned (.bool (decide (low nm.data.toList = low n.data.toList))) ∧ Below X.heap.size X w') := hid (fun X => named_any nm vl n X hsz hs)
   obtain ⟨c, hc⟩ : ∃ c, c = decide (low nm.data.toList = low n.data.toList) := ⟨_, rfl⟩
   rw [← hc] at HNm HD
   clear hnm hvl hc
   go_wp2_with fail
   refine (HNm.out _).mono ?_
   rintro e w1 ⟨rfl, hb1⟩
   have hbw1 : Below w.heap.size w w1 := hbw.trans (hb1.mono hbw.size)
   have g2 : w1.cell? ⟨b1, o1 + k * 2 + 1, none⟩ = some (.string vl) := (hbw1.cell hblk).trans e2
   clear e1 e2 f1 f2 hb1
   cases c with
   | false =>
    have HS2 := hid (show S = ⟨(getT (L.take (k + 1)) n.data.toList).toArray⟩ ∧ b = getB (L.take (k + 1)) n.data.toList by
     rw [HT.out, getT_snoc, getB_snoc, HD.out, HS.out, HBb.out]; simp)
    go_wp2
    go_roundw
    case rel => exact ⟨k + 1, by omega, by go_num, by rw [← HS2.out.1], by rw [← HS2.out.2], hbw1⟩
    case measure => simp [intOf]; omega
   | true =>
    cases b with
    | false =>
     have HS2 := hid (show S ++ vl = ⟨(getT (L.take (k + 1)) n.data.toList).toArray⟩ ∧ true = getB (L.take (k + 1)) n.data.toList by
      rw [HT.out, getT_snoc, getB_snoc, HD.out, ← HBb.out]
      refine ⟨xext ?_, rfl⟩
      rw [if_pos rfl, if_neg (by simp), HS.out]
      simp [HV.out])
     go_wp2
     go_roundw
     case rel => exact ⟨k + 1, by omega, by go_num, by rw [← HS2.out.1], by rw [← HS2.out.2], hbw1⟩
     case measure => simp [intOf]; omega
    | true =>
     have HS2 := hid (show S ++ ⟨#[44, 32]⟩ ++ vl = ⟨(getT (L.take (k + 1)) n.data.toList).toArray⟩ ∧ true = getB (L.take (k + 1)) n.data.toList by
      rw [HT.out, getT_snoc, getB_snoc, HD.out, ← HBb.out]
      refine ⟨xext ?_, rfl⟩
      rw [if_pos rfl, if_pos rfl, HS.out]
      simp [HV.out])
     go_wp2
     go_roundw
     case rel => exact ⟨k + 1, by omega, by go_num, by rw [← HS2.out.1], by rw [← HS2.out.2], hbw1⟩
     case measure => simp [intOf]; omega
  ·have hke : k = L.length := by omega
   subst hke
   have HF := hid (show S = ⟨(getT L n.data.toList).toArray⟩ ∧ b = getB L n.data.toList by rw [HS.out, HBb.out, List.take_length]; exact ⟨rfl, rfl⟩)
   go_wp2
   go_ret2
   rw [← HF.out.1, ← HF.out.2]
   exact ⟨rfl, hbw⟩

end Go.Proofs.YtpopljcmkbchcaaGreatDoor
