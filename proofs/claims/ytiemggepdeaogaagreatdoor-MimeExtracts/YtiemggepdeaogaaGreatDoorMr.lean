/-
  The walk of the law MimeCharset.
-/
import Derived.Test.YtiemggepdeaogaaGreatDoorMq
set_option linter.unusedSimpArgs false
set_option linter.unusedVariables false
namespace Go.Proofs.YtiemggepdeaogaaGreatDoor
open Go.RowKit

/-- No comma, no quotes, no blank. -/
def plC (c : UInt8) : Bool := freeC c && !bl2 c
def PlT (p : List UInt8) : Prop := p ≠ [] ∧ p.all plC = true

theorem pl_closed {p : List UInt8} (h : PlT p) : Closed p := by
  refine closed_free p ?_
  rw [List.all_eq_true]
  intro c hc
  have := List.all_eq_true.1 h.2 c hc
  unfold plC at this
  simp only [Bool.and_eq_true] at this
  exact this.1
theorem pl_ends {p : List UInt8} (h : PlT p) : Ends p := by
  have key : ∀ c ∈ p, bl2 c = false := fun c hc => by
    have := List.all_eq_true.1 h.2 c hc
    unfold plC at this
    simp only [Bool.and_eq_true, Bool.not_eq_true'] at this
    exact this.2
  exact ⟨h.1, fun c hc => key c (List.mem_of_mem_head? (by rw [hc]; rfl)), fun c hc => key c (List.mem_of_getLast? hc)⟩

theorem join6_snoc : ∀ (A : List (List UInt8)) (x s : List UInt8), A ≠ [] → Lib.join (A ++ [x]) s = Lib.join A s ++ s ++ x
  | [], x, s, h => absurd rfl h
  | [a], x, s, _ => by simp [Lib.join, List.intercalate]
  | a :: b :: A, x, s, _ => by
    have := join6_snoc (b :: A) x s (by simp)
    simp only [Lib.join, List.intercalate, List.cons_append, List.intersperse] at this ⊢
    simp only [List.flatten_cons] at this ⊢
    rw [this]
    simp

theorem put_more6 (P : List (List UInt8)) : ∀ Q, Q ≠ [] → Put (Lib.join Q [44, 32]) Q → (∀ p ∈ P, PlT p) → Put (Lib.join (Q ++ P) [44, 32]) (Q ++ P) := by
  induction P with
  | nil => intro Q _ h _; rwa [List.append_nil]
  | cons p P ih =>
    intro Q hQ h hp
    have hpp := hp p (by simp)
    have := put_more h [] [32] p rfl (by decide) (pl_closed hpp) (pl_ends hpp)
    have e : Lib.join Q [44, 32] ++ ([] ++ 44 :: [32]) ++ p = Lib.join (Q ++ [p]) [44, 32] := by rw [join6_snoc Q p _ hQ]; rfl
    rw [e] at this
    have h2 := ih (Q ++ [p]) (by simp) this (fun q hq => hp q (by simp [hq]))
    rw [List.append_assoc] at h2
    exact h2

theorem put_all (p : List UInt8) (P : List (List UInt8)) (h : ∀ q ∈ p :: P, PlT q) : Put (Lib.join (p :: P) [44, 32]) (p :: P) := by
  have hp := h p (by simp)
  have h1 : Put (Lib.join [p] [44, 32]) [p] := by
    rw [show Lib.join [p] [44, 32] = p by simp [Lib.join, List.intercalate]]
    exact put_one p (pl_closed hp) (pl_ends hp)
  exact put_more6 P [p] (by simp) h1 (fun q hq => h q (by simp [hq]))

theorem kinds_sel (P : List (List UInt8)) : selV (kindsH P) ctL = P := by
  induction P with
  | nil => rfl
  | cons p P ih =>
    have hN : isN ctL ⟨ctN, p⟩ = true := show (low ctN == low ctL) = true by decide
    unfold selV kindsH at ih ⊢
    rw [List.map_cons, List.filter_cons, hN, if_pos rfl, List.map_cons, ih]

theorem ex_plain (p : List UInt8) (P : List (List UInt8)) (h : ∀ q ∈ p :: P, PlT q) : exV (p :: P) = extV (p :: P) := by
  unfold exV pcsV
  have hs := kinds_sel (p :: P)
  have hg : getB (kindsH (p :: P)) ctL = true := by unfold getB; rw [hs]; rfl
  rw [if_pos hg]
  unfold splitV getT
  rw [hs, put_split (put_all p P h)]

def csB : List UInt8 := [99, 104, 97, 114, 115, 101, 116]
/-- Kinds of a word, with a charset or without. -/
def kw (m : UInt8) (T : List UInt8) : Kn := ⟨[m], T, []⟩
def kc (m : UInt8) (T Z : List UInt8) : Kn := ⟨[m], T, [⟨csB, Z⟩]⟩
def kwT (m : UInt8) (T : List UInt8) : List UInt8 := m :: 47 :: T
def kcT (m : UInt8) (T Z : List UInt8) : List UInt8 := m :: 47 :: (T ++ 59 :: (csB ++ 61 :: Z))

theorem kw_txt (m : UInt8) (T : List UInt8) : txtV (kw m T) = kwT m T := by simp [txtV, essV, kw, kwT]
theorem kc_txt (m : UInt8) (T Z : List UInt8) (hZ : Wrd Z) : txtV (kc m T Z) = kcT m T Z := by
  have : wrtV Z = Z := by rw [wrtV, if_pos (wrd_tok hZ).1]
  simp [txtV, essV, kc, kcT, prmT, this, csB]

theorem letter_m (m : UInt8) (hm : m = 120 ∨ m = 121) : tokL [m] = true ∧ low [m] = [m] := by rcases hm with rfl | rfl <;> decide

theorem kw_good (m : UInt8) (T : List UInt8) (hm : m = 120 ∨ m = 121) (hT : Wrd T) : GoodK (kw m T) :=
  ⟨(letter_m m hm).1, (letter_m m hm).2, (wrd_tok hT).1, (wrd_tok hT).2, by simp [kw], List.Pairwise.nil⟩

set_option maxRecDepth 100000 in
theorem wrd_fit {Z : List UInt8} (h : Wrd Z) : fitV Z = true := by
  unfold fitV
  rw [List.all_eq_true]
  intro c hc
  have h1 := wrd_mem h hc
  unfold fitC
  simp
  omega

theorem kc_good (m : UInt8) (T Z : List UInt8) (hm : m = 120 ∨ m = 121) (hT : Wrd T) (hZ : Wrd Z) : GoodK (kc m T Z) := by
  refine ⟨(letter_m m hm).1, (letter_m m hm).2, (wrd_tok hT).1, (wrd_tok hT).2, ?_, List.pairwise_singleton _ _⟩
  intro p hp
  obtain rfl := List.mem_singleton.1 hp
  exact ⟨show tokL csB = true by decide, show low csB = csB by decide, wrd_fit hZ⟩

theorem kw_parse (m : UInt8) (T : List UInt8) (hm : m = 120 ∨ m = 121) (hT : Wrd T) : knOk (kwT m T) = true ∧ knV (kwT m T) = kw m T := by
  rw [← kw_txt]; exact kn_back _ (kw_good m T hm hT)
theorem kc_parse (m : UInt8) (T Z : List UInt8) (hm : m = 120 ∨ m = 121) (hT : Wrd T) (hZ : Wrd Z) : knOk (kcT m T Z) = true ∧ knV (kcT m T Z) = kc m T Z := by
  rw [← kc_txt m T Z hZ]; exact kn_back _ (kc_good m T Z hm hT hZ)

theorem ess_star (t : Kn) (m : UInt8) (hm : m = 120 ∨ m = 121) (h : t.major = [m]) : (essV t == [42, 47, 42]) = false := by
  rw [beq_eq_false_iff_ne]
  unfold essV
  rw [h]
  intro e
  have := (List.cons.inj e).1
  rcases hm with rfl | rfl <;> exact absurd this (by decide)

theorem ext_kw (st : Kn × Bool) (m : UInt8) (T : List UInt8) (hm : m = 120 ∨ m = 121) (hT : Wrd T) : extS st (kwT m T) = (withC (kw m T) st.1, true) := by
  unfold extS
  rw [(kw_parse m T hm hT).1, (kw_parse m T hm hT).2, ess_star _ m hm rfl]; rfl
theorem ext_kc (st : Kn × Bool) (m : UInt8) (T Z : List UInt8) (hm : m = 120 ∨ m = 121) (hT : Wrd T) (hZ : Wrd Z) : extS st (kcT m T Z) = (kc m T Z, true) := by
  unfold extS
  rw [(kc_parse m T Z hm hT hZ).1, (kc_parse m T Z hm hT hZ).2, ess_star _ m hm rfl]
  have : withC (kc m T Z) st.1 = kc m T Z := withC_own _ _ rfl
  rw [this]; rfl
def junkT : List UInt8 := [106, 117, 110, 107]
def starT : List UInt8 := [42, 47, 42]
theorem ext_junk (st : Kn × Bool) : extS st junkT = st := by
  unfold extS
  rw [show knOk junkT = false by decide +kernel]; rfl
theorem ext_star (st : Kn × Bool) : extS st starT = st := by
  unfold extS
  rw [show (essV (knV starT) == [42, 47, 42]) = true by decide +kernel]
  simp

theorem with_same (m : UInt8) (T Z : List UInt8) : withC (kw m T) (kc m T Z) = kc m T Z := withC_some (kw m T) (kc m T Z) ⟨csB, Z⟩ rfl rfl rfl
theorem with_not (T U Z : List UInt8) : withC (kw 121 U) (kc 120 T Z) = kw 121 U := by
  refine withC_other _ _ ?_
  intro e
  have := (List.cons.inj (show (121 : UInt8) :: 47 :: U = 120 :: 47 :: T from e)).1
  exact absurd this (by decide)

def otherZ : List UInt8 := [111, 116, 104, 101, 114]
theorem otherZ_wrd : Wrd otherZ := ⟨by decide, by decide⟩

theorem wrd_pl {T : List UInt8} (h : Wrd T) : T.all plC = true := by
  rw [List.all_eq_true]
  intro c hc
  unfold plC
  rw [List.all_eq_true.1 (wrd_free h) c hc, letter_bl (wrd_mem h hc)]; rfl
theorem kw_pl (m : UInt8) (T : List UInt8) (hm : m = 120 ∨ m = 121) (hT : Wrd T) : PlT (kwT m T) := by
  refine ⟨by simp [kwT], ?_⟩
  have : plC m = true := by rcases hm with rfl | rfl <;> decide
  simp only [kwT, List.all_cons, wrd_pl hT, this]
  decide
theorem kc_pl (m : UInt8) (T Z : List UInt8) (hm : m = 120 ∨ m = 121) (hT : Wrd T) (hZ : Wrd Z) : PlT (kcT m T Z) := by
  refine ⟨by simp [kcT], ?_⟩
  have : plC m = true := by rcases hm with rfl | rfl <;> decide
  simp only [kcT, List.all_cons, List.all_append, wrd_pl hT, wrd_pl hZ, this]
  decide

theorem ex_A (T Z : List UInt8) (hT : Wrd T) (hZ : Wrd Z) : exV [kcT 120 T Z, junkT, kwT 120 T, starT] = (kc 120 T Z, true) := by
  rw [ex_plain]
  · unfold extV
    simp only [List.foldl_cons, List.foldl_nil]
    rw [ext_kc _ 120 T Z (.inl rfl) hT hZ, ext_junk, ext_kw _ 120 T (.inl rfl) hT, ext_star]
    rw [show withC (kw 120 T) (kc 120 T Z, true).1 = kc 120 T Z from with_same 120 T Z]
  · intro q hq
    simp only [List.mem_cons, List.not_mem_nil, or_false] at hq
    rcases hq with rfl | rfl | rfl | rfl
    · exact kc_pl 120 T Z (.inl rfl) hT hZ
    · exact ⟨by decide, by decide⟩
    · exact kw_pl 120 T (.inl rfl) hT
    · exact ⟨by decide, by decide⟩
theorem ex_B (T U Z : List UInt8) (hT : Wrd T) (hU : Wrd U) (hZ : Wrd Z) : exV [kcT 120 T Z, kwT 121 U] = (kw 121 U, true) := by
  rw [ex_plain]
  · unfold extV
    simp only [List.foldl_cons, List.foldl_nil]
    rw [ext_kc _ 120 T Z (.inl rfl) hT hZ, ext_kw _ 121 U (.inr rfl) hU]
    rw [show withC (kw 121 U) (kc 120 T Z, true).1 = kw 121 U from with_not T U Z]
  · intro q hq
    simp only [List.mem_cons, List.not_mem_nil, or_false] at hq
    rcases hq with rfl | rfl
    · exact kc_pl 120 T Z (.inl rfl) hT hZ
    · exact kw_pl 121 U (.inr rfl) hU
theorem ex_C (T Z : List UInt8) (hT : Wrd T) (hZ : Wrd Z) : exV [kcT 120 T Z, kcT 120 T otherZ] = (kc 120 T otherZ, true) := by
  rw [ex_plain]
  · unfold extV
    simp only [List.foldl_cons, List.foldl_nil]
    rw [ext_kc _ 120 T Z (.inl rfl) hT hZ, ext_kc _ 120 T otherZ (.inl rfl) hT otherZ_wrd]
  · intro q hq
    simp only [List.mem_cons, List.not_mem_nil, or_false] at hq
    rcases hq with rfl | rfl
    · exact kc_pl 120 T Z (.inl rfl) hT hZ
    · exact kc_pl 120 T otherZ (.inl rfl) hT otherZ_wrd
theorem ex_D (T Z : List UInt8) (hT : Wrd T) (hZ : Wrd Z) : exV [kcT 120 T Z, kwT 120 T, kwT 120 T] = (kc 120 T Z, true) := by
  rw [ex_plain]
  · unfold extV
    simp only [List.foldl_cons, List.foldl_nil]
    rw [ext_kc _ 120 T Z (.inl rfl) hT hZ, ext_kw (kc 120 T Z, true) 120 T (.inl rfl) hT]
    rw [show withC (kw 120 T) (kc 120 T Z, true).1 = kc 120 T Z from with_same 120 T Z]
    rw [ext_kw (kc 120 T Z, true) 120 T (.inl rfl) hT]
    rw [show withC (kw 120 T) (kc 120 T Z, true).1 = kc 120 T Z from with_same 120 T Z]
  · intro q hq
    simp only [List.mem_cons, List.not_mem_nil, or_false] at hq
    rcases hq with rfl | rfl | rfl
    · exact kc_pl 120 T Z (.inl rfl) hT hZ
    · exact kw_pl 120 T (.inl rfl) hT
    · exact kw_pl 120 T (.inl rfl) hT

end Go.Proofs.YtiemggepdeaogaaGreatDoor
