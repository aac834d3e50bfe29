/-
  What was parsed, written and parsed again is itself: plain facts of kinds of content.
-/
import Derived.Test.YtplabofdcnpcpaaDoorZMa
set_option linter.unusedSimpArgs false
set_option linter.unusedVariables false
namespace Go.Proofs.YtplabofdcnpcpaaDoor
open Go.RowKit

theorem byte_all {p : UInt8 → Bool} (h : (List.range 256).all (fun n => p (UInt8.ofNat n)) = true) (c : UInt8) : p c = true := by
  have := List.all_eq_true.1 h c.toNat (List.mem_range.2 c.toNat_lt)
  simpa using this

set_option maxRecDepth 100000 in
theorem tok_facts (c : UInt8) (h : tokC c = true) : bl4.contains c = false ∧ c ≠ 34 ∧ c ≠ 47 ∧ c ≠ 59 ∧ c ≠ 61 ∧ tokC (lowC c) = true := by
  have h2 := byte_all (p := fun c => !tokC c || (!bl4.contains c && !(c == 34) && !(c == 47) && !(c == 59) && !(c == 61) && tokC (lowC c))) (by decide) c
  simp only [h, Bool.not_true, Bool.false_or, Bool.and_eq_true, Bool.not_eq_true', beq_eq_false_iff_ne] at h2
  obtain ⟨⟨⟨⟨⟨a, b⟩, d⟩, e⟩, f⟩, g⟩ := h2
  exact ⟨a, b, d, e, f, g⟩

set_option maxRecDepth 100000 in
theorem low6C (c : UInt8) : lowC (lowC c) = lowC c := by
  have := byte_all (p := fun c => lowC (lowC c) == lowC c) (by decide) c
  simpa using this

theorem low6 (l : List UInt8) : low (low l) = low l := by
  unfold low; rw [List.map_map]; congr 1; funext c; exact low6C c

theorem tokL_all {l : List UInt8} (h : tokL l = true) : ∀ c ∈ l, tokC c = true := by
  unfold tokL at h
  simp only [Bool.and_eq_true, List.all_eq_true] at h
  exact h.1
theorem tokL_ne {l : List UInt8} (h : tokL l = true) : l ≠ [] := by
  rintro rfl; simp [tokL] at h
theorem tokL_of {l : List UInt8} (h : ∀ c ∈ l, tokC c = true) (hn : l ≠ []) : tokL l = true := by
  unfold tokL
  simp only [Bool.and_eq_true, List.all_eq_true]
  refine ⟨h, ?_⟩
  cases l with
  | nil => exact absurd rfl hn
  | cons => rfl

theorem tokL_low {l : List UInt8} (h : tokL l = true) : tokL (low l) = true := by
  refine tokL_of (fun c hc => ?_) ?_
  · obtain ⟨d, hd, rfl⟩ := List.mem_map.1 hc
    exact (tok_facts d (tokL_all h d hd)).2.2.2.2.2
  · intro e
    have := tokL_ne h
    unfold low at e
    exact this (List.map_eq_nil_iff.1 e)

theorem up_stop (S a r : List UInt8) (ha : ∀ c ∈ a, S.contains c = false) (hr : r = [] ∨ ∃ c r', r = c :: r' ∧ S.contains c = true) : upA S (a ++ r) = a ∧ upR S (a ++ r) = r := by
  induction a with
  | nil =>
    rcases hr with rfl | ⟨c, r', rfl, hc⟩
    · exact ⟨rfl, rfl⟩
    · have hm : (!S.contains c) = false := by rw [hc]; rfl
      rw [List.nil_append]
      unfold upA upR
      rw [List.takeWhile_cons, List.dropWhile_cons, hm]
      exact ⟨rfl, rfl⟩
  | cons x a ih =>
    have h0 : (!S.contains x) = true := by rw [ha x (by simp)]; rfl
    have := ih fun c hc => ha c (by simp [hc])
    rw [List.cons_append]
    unfold upA upR at this ⊢
    rw [List.takeWhile_cons, List.dropWhile_cons, h0]
    simp only [if_true]
    exact ⟨by rw [this.1], this.2⟩

theorem tL_keep {c : UInt8} {l : List UInt8} (h : bl4.contains c = false) : tL (c :: l) = c :: l := by
  unfold tL Lib.trimLeftS
  rw [List.dropWhile_cons, h]; rfl

theorem tR_keep {c : UInt8} {l : List UInt8} (h : bl4.contains c = false) : tR (l ++ [c]) = l ++ [c] := by
  unfold tR Lib.trimRightS
  rw [List.reverse_append, List.reverse_singleton, List.singleton_append, List.dropWhile_cons, h]
  simp

theorem tR_tok {l : List UInt8} (h : ∀ c ∈ l, tokC c = true) : tR l = l := by
  rcases List.eq_nil_or_concat l with rfl | ⟨a, c, rfl⟩
  · rfl
  · rw [List.concat_eq_append] at h ⊢
    exact tR_keep (tok_facts c (h c (by simp))).1

theorem tL_tok {l r : List UInt8} (h : tokL l = true) : tL (l ++ r) = l ++ r := by
  cases l with
  | nil => exact absurd rfl (tokL_ne h)
  | cons c l => exact tL_keep (tok_facts c (tokL_all h c (by simp))).1

theorem esc_quo (v r : List UInt8) : quo (v.flatMap escC ++ 34 :: r) = (v, r) := by
  induction v with
  | nil => cases r <;> simp [quo]
  | cons c v ih =>
    rw [List.flatMap_cons, List.append_assoc]
    by_cases h : c = 34 ∨ c = 92
    · rw [escC, if_pos h]
      show quo (92 :: c :: (v.flatMap escC ++ 34 :: r)) = _
      rw [quo, if_neg (by decide), if_pos rfl, ih]
    · rw [escC, if_neg h]
      show quo (c :: (v.flatMap escC ++ 34 :: r)) = _
      obtain ⟨d, t, ht⟩ : ∃ d t, v.flatMap escC ++ 34 :: r = d :: t := by
        cases v.flatMap escC with
        | nil => exact ⟨_, _, rfl⟩
        | cons a b => exact ⟨_, _, rfl⟩
      rw [ht] at ih ⊢
      rw [quo, if_neg (fun e => h (.inl e)), if_neg (fun e => h (.inr e)), ih]

/-- What may stand behind a parameter. -/
def Semi (r : List UInt8) : Prop := r = [] ∨ ∃ r', r = 59 :: r'

theorem Semi.stop {r : List UInt8} (h : Semi r) : r = [] ∨ ∃ c r', r = c :: r' ∧ [(59 : UInt8)].contains c = true := by
  rcases h with h | ⟨r', h⟩
  · exact .inl h
  · exact .inr ⟨59, r', h, rfl⟩

theorem val_back (v r : List UInt8) (hr : Semi r) : mvalV (wrtV v ++ r) = v ∧ valB6 (wrtV v ++ r) = true ∧ valR (wrtV v ++ r) = r := by
  by_cases ht : tokL v = true
  · have h1 := up_stop [59] v r (fun c hc => by have := (tok_facts c (tokL_all ht c hc)).2.2.2.1; simp [this]) hr.stop
    have hq : isQ (v ++ r) = false := by
      cases v with
      | nil => exact absurd rfl (tokL_ne ht)
      | cons c v =>
        have := (tok_facts c (tokL_all ht c (by simp))).2.1
        simp [isQ, this]
    unfold mvalV valB6 valR wrtV
    rw [if_pos ht, hq, h1.1, h1.2, tR_tok (tokL_all ht)]
    refine ⟨rfl, ?_, rfl⟩
    have := tokL_ne ht
    cases v with
    | nil => exact absurd rfl this
    | cons => rfl
  · have e : wrtV v ++ r = 34 :: (v.flatMap escC ++ 34 :: r) := by
      rw [wrtV, if_neg ht]; simp
    rw [e]
    have hq : isQ (34 :: (v.flatMap escC ++ 34 :: r)) = true := rfl
    unfold mvalV valB6 valR
    rw [hq]
    simp only [if_true, Bool.true_or, List.drop_succ_cons, List.drop_zero, esc_quo]
    refine ⟨trivial, trivial, ?_⟩
    have := up_stop [59] [] r (by simp) hr.stop
    exact this.2

/-- A parameter that may be. -/
def GoodP (p : Hd) : Prop := tokL p.name = true ∧ low p.name = p.name ∧ fitV p.value = true

theorem par_back (p : Hd) (r : List UInt8) (hp : GoodP p) (hr : Semi r) : parN (p.name ++ 61 :: (wrtV p.value ++ r)) = p.name ∧ parV (p.name ++ 61 :: (wrtV p.value ++ r)) = p.value ∧ parB (p.name ++ 61 :: (wrtV p.value ++ r)) = true ∧ parR (p.name ++ 61 :: (wrtV p.value ++ r)) = r := by
  obtain ⟨h1, h2, h3⟩ := hp
  have hu := up_stop [59, 61] p.name (61 :: (wrtV p.value ++ r)) (fun c hc => by have := tok_facts c (tokL_all h1 c hc); simp [this.2.2.2.1, this.2.2.2.2.1]) (.inr ⟨61, _, rfl, rfl⟩)
  have hv := val_back p.value r hr
  have hE : isE (61 :: (wrtV p.value ++ r)) = true := rfl
  unfold parN parV parB parR namP rstP
  rw [tL_tok h1, hu.1, hu.2, hE]
  simp only [if_true, List.drop_succ_cons, List.drop_zero, hv.1, hv.2.1, hv.2.2, h1, h2, h3, Bool.and_self, and_self]

def Names : List Hd → Prop
  | [] => True
  | p :: ps => has6 ps p.name = false ∧ Names ps

theorem has6_app (a b : List Hd) (n : List UInt8) : has6 (a ++ b) n = (has6 a n || has6 b n) := by simp [has6]

/-- No two of one name. -/
def Once (ps : List Hd) : Prop := ps.Pairwise fun p q => p.name ≠ q.name

theorem has6_no {ps : List Hd} {n : List UInt8} : has6 ps n = false ↔ ∀ p ∈ ps, p.name ≠ n := by
  unfold has6
  rw [List.any_eq_false]
  constructor
  · intro h p hp e; exact h p hp (by simp [e])
  · intro h p hp e; exact h p hp (by simpa using e)

theorem semi_prms (ps : List Hd) : Semi (ps.flatMap prmT) := by
  cases ps with
  | nil => exact .inl rfl
  | cons p ps => exact .inr ⟨_, rfl⟩

theorem prm_back (ps : List Hd) : ∀ out, (∀ p ∈ ps, GoodP p) → Once (out ++ ps) → prm out (ps.flatMap prmT) = out ++ ps := by
  induction ps with
  | nil => intro out _ _; rw [List.append_nil]; exact prm_end out [] rfl
  | cons p ps ih =>
    intro out hg ho
    have e : (p :: ps).flatMap prmT = 59 :: (p.name ++ 61 :: (wrtV p.value ++ ps.flatMap prmT)) := by
      rw [List.flatMap_cons]; simp [prmT]
    have hb := par_back p (ps.flatMap prmT) (hg p (by simp)) (semi_prms ps)
    have hno : has6 out p.name = false := by
      rw [has6_no]
      intro q hq
      exact (List.pairwise_append.1 ho).2.2 q hq p (by simp)
    rw [e, prm_step _ _ rfl]
    simp only [List.drop_succ_cons, List.drop_zero]
    unfold mstepP
    rw [hb.1, hb.2.1, hb.2.2.1, hb.2.2.2, hno]
    simp only [Bool.not_false, Bool.and_self, if_true]
    rw [ih (out ++ [p]) (fun q hq => hg q (by simp [hq])) (by rw [List.append_assoc]; exact ho), List.append_assoc]
    rfl

/-- A kind that may be. -/
def GoodK (t : Kn) : Prop := tokL t.major = true ∧ low t.major = t.major ∧ tokL t.minor = true ∧ low t.minor = t.minor ∧ (∀ p ∈ t.params, GoodP p) ∧ Once t.params

theorem wrt_last (v : List UInt8) : ∃ a c, wrtV v = a ++ [c] ∧ bl4.contains c = false := by
  by_cases ht : tokL v = true
  · rw [wrtV, if_pos ht]
    rcases List.eq_nil_or_concat v with rfl | ⟨a, c, rfl⟩
    · exact absurd rfl (tokL_ne ht)
    · rw [List.concat_eq_append] at ht ⊢
      exact ⟨a, c, rfl, (tok_facts c (tokL_all ht c (by simp))).1⟩
  · rw [wrtV, if_neg ht]
    exact ⟨34 :: v.flatMap escC, 34, by simp, by decide⟩

theorem txt_last (t : Kn) (h : GoodK t) : ∃ a c, txtV t = a ++ [c] ∧ bl4.contains c = false := by
  obtain ⟨h1, h2, h3, h4, h5, h6⟩ := h
  unfold txtV
  rcases List.eq_nil_or_concat t.params with hp | ⟨ps, p, hp⟩
  · rw [hp]
    unfold essV
    rcases List.eq_nil_or_concat t.minor with hm | ⟨a, c, hm⟩
    · exact absurd hm (tokL_ne h3)
    · rw [List.concat_eq_append] at hm
      refine ⟨t.major ++ 47 :: a, c, by rw [hm]; simp, (tok_facts c (tokL_all h3 c (by rw [hm]; simp))).1⟩
  · obtain ⟨a, c, hw, hc⟩ := wrt_last p.value
    rw [List.concat_eq_append] at hp
    refine ⟨essV t ++ (ps.flatMap prmT ++ 59 :: (p.name ++ 61 :: a)), c, ?_, hc⟩
    rw [hp, List.flatMap_append]
    simp [prmT, hw]

theorem kn_back (t : Kn) (h : GoodK t) : knOk (txtV t) = true ∧ knV (txtV t) = t := by
  obtain ⟨a, c, hl, hc⟩ := txt_last t h
  obtain ⟨h1, h2, h3, h4, h5, h6⟩ := h
  have e1 : tB (txtV t) = txtV t := by
    have r1 : tR (txtV t) = txtV t := by rw [hl]; exact tR_keep hc
    show tL (tR (txtV t)) = _
    rw [r1]
    unfold txtV essV
    rw [List.append_assoc]
    exact tL_tok h1
  have e2 : txtV t = t.major ++ 47 :: (t.minor ++ t.params.flatMap prmT) := by unfold txtV essV; simp
  have hn : (47 : UInt8) ∉ t.major := fun hm => (tok_facts 47 (tokL_all h1 47 hm)).2.2.1 rfl
  have e3 : Lib.cut (tB (txtV t)) [47] = (t.major, t.minor ++ t.params.flatMap prmT, true) := by
    rw [e1, e2, xcut_some _ _ _ hn]
  have hu := up_stop [59] t.minor (t.params.flatMap prmT) (fun c hc => by have := (tok_facts c (tokL_all h3 c hc)).2.2.2.1; simp [this]) (semi_prms _).stop
  have m1 : mjr (txtV t) = t.major := by rw [mjr, e3]
  have m2 : bhn (txtV t) = t.minor ++ t.params.flatMap prmT := by rw [bhn, e3]
  have m3 : mnr (txtV t) = t.minor := by rw [mnr, m2, hu.1]; exact tR_tok (tokL_all h3)
  have ok : knOk (txtV t) = true := by rw [knOk, m1, m3, h1, h3]; rfl
  refine ⟨ok, ?_⟩
  rw [knV, if_pos ok, m1, m3, m2, hu.2, h2, h4, prm_back t.params [] h5 (by simpa using h6)]
  rfl

theorem prmN_good : ∀ (f : Nat) (out : List Hd) (l : List UInt8), (∀ p ∈ out, GoodP p) → Once out → (∀ p ∈ prmN f out l, GoodP p) ∧ Once (prmN f out l) := by
  intro f
  induction f with
  | zero => intro out l h1 h2; exact ⟨h1, h2⟩
  | succ f ih =>
    intro out l h1 h2
    rw [prmN]
    split
    · unfold mstepP
      by_cases hs : (parB (l.drop 1) && !has6 out (parN (l.drop 1))) = true
      · rw [if_pos hs]
        simp only [Bool.and_eq_true, Bool.not_eq_true'] at hs
        obtain ⟨hB, hno⟩ := hs
        have hg : GoodP ⟨parN (l.drop 1), parV (l.drop 1)⟩ := by
          unfold parB at hB
          simp only [Bool.and_eq_true] at hB
          obtain ⟨⟨⟨b1, b2⟩, b3⟩, b4⟩ := hB
          refine ⟨?_, ?_, ?_⟩
          · show tokL (parN _) = true
            rw [parN, if_pos b1]; exact tokL_low b3
          · show low (parN _) = parN _
            rw [parN, if_pos b1]; exact low6 _
          · show fitV (parV _) = true
            rw [parV, if_pos b1]; exact b4
        refine ih _ _ ?_ ?_
        · intro p hp
          rcases List.mem_append.1 hp with hp | hp
          · exact h1 p hp
          · obtain rfl := List.mem_singleton.1 hp; exact hg
        · refine List.pairwise_append.2 ⟨h2, List.pairwise_singleton _ _, fun p hp q hq => ?_⟩
          obtain rfl := List.mem_singleton.1 hq
          exact has6_no.1 hno p hp
      · rw [if_neg hs]; exact ih _ _ h1 h2
    · exact ⟨h1, h2⟩

theorem kn_good (s : List UInt8) (h : knOk s = true) : GoodK (knV s) := by
  have hk := h
  unfold knOk at hk
  simp only [Bool.and_eq_true] at hk
  rw [knV, if_pos h]
  have hp := prmN_good (upR [59] (bhn s)).length [] (upR [59] (bhn s)) (by simp) List.Pairwise.nil
  exact ⟨tokL_low hk.1, low6 _, tokL_low hk.2, low6 _, hp.1, hp.2⟩

end Go.Proofs.YtplabofdcnpcpaaDoor
