/-
  Plain facts of what headers.Sorted answers.
-/
import Derived.Test.YtknlmifjadolpaaDoorBf
import Derived.Test.YtknlmifjadolpaaDoorZa
set_option linter.unusedSimpArgs false
set_option linter.unusedVariables false
namespace Go.Proofs.YtknlmifjadolpaaDoor
open Go.RowKit

theorem low5_low (l : List UInt8) : low (low l) = low l := by
  have key : ∀ n < 256, lowC (lowC (UInt8.ofNat n)) = lowC (UInt8.ofNat n) := by decide +kernel
  unfold low
  rw [List.map_map]
  apply List.map_congr_left
  intro c _
  have := key c.toNat c.toNat_lt
  simpa using this

theorem safe_free (n v : List UInt8) (h : safeV n v = true) : forbV n = false := by
  have key : ∀ x : List UInt8, low n = x → (forbL.contains x || (Lib.hasPrefix x [112, 114, 111, 120, 121, 45] || Lib.hasPrefix x [115, 101, 99, 45])) = false → forbV n = false := fun x e h => by unfold forbV; rw [e]; exact h
  unfold safeV at h
  split at h
  · cases h
  · split at h
    · exact key _ (by assumption) (by decide)
    · split at h
      · rename_i e
        rcases e with e | e
        · exact key _ e (by decide)
        · exact key _ e (by decide)
      · split at h
        · exact key _ (by assumption) (by decide)
        · split at h
          · exact key _ (by assumption) (by decide)
          · cases h

/-- x does not stand behind y. -/
def LeH (x y : Hd) : Prop := ltN y.name x.name = false

theorem ltN_eq {a b : List UInt8} (h1 : ltN a b = false) (h2 : ltN b a = false) : a = b := by
  rcases ltN_total a b with h | h | h
  · rw [h1] at h; cases h
  · exact h
  · rw [h2] at h; cases h

theorem Srt.pair {M : List Hd} (h : Srt M M.length) : M.Pairwise LeH := by
  rw [List.pairwise_iff_getElem]
  intro i j hi hj hij
  have := h i j hij hj
  unfold nmAt at this
  rw [show M.getD j ⟨[], []⟩ = M[j] by simp [List.getD, hj], show M.getD i ⟨[], []⟩ = M[i] by simp [List.getD, hi]] at this
  exact this

theorem same_of_stab : ∀ {A B : List Hd}, A.Pairwise LeH → B.Pairwise LeH → Stab A B → A = B
  | [], B, _, _, hs => by
    cases B with
    | nil => rfl
    | cons b B => exact absurd (hs.mem List.mem_cons_self) (by simp)
  | a :: A, B, ha, hb, hs => by
    cases B with
    | nil =>
      have := hs a.name
      simp at this
    | cons b B =>
      have h1 : b ∈ a :: A := hs.mem List.mem_cons_self
      have hs' : Stab (b :: B) (a :: A) := fun x => (hs x).symm
      have h2 : a ∈ b :: B := hs'.mem List.mem_cons_self
      have e1 : ltN b.name a.name = false := by
        rcases List.mem_cons.1 h1 with e | e
        · rw [e]; exact ltN_irrefl _
        · exact (List.pairwise_cons.1 ha).1 b e
      have e2 : ltN a.name b.name = false := by
        rcases List.mem_cons.1 h2 with e | e
        · rw [e]; exact ltN_irrefl _
        · exact (List.pairwise_cons.1 hb).1 a e
      have en := ltN_eq e2 e1
      have hh := hs a.name
      rw [List.filter_cons_of_pos (by simp [en]), List.filter_cons_of_pos (by simp)] at hh
      have eab : b = a := (List.cons.inj hh).1
      subst eab
      congr 1
      refine same_of_stab (List.pairwise_cons.1 ha).2 (List.pairwise_cons.1 hb).2 fun x => ?_
      have := hs x
      by_cases hx : b.name = x
      · rw [List.filter_cons_of_pos (by simp [hx]), List.filter_cons_of_pos (by simp [hx])] at this
        exact (List.cons.inj this).2
      · rw [List.filter_cons_of_neg (by simp [hx]), List.filter_cons_of_neg (by simp [hx])] at this
        exact this

/-- x stands ahead of y, or both are cookies. -/
def LtH (x y : Hd) : Prop := ltN y.name x.name = false ∧ (x.name = y.name → x.name = scN)

/-- What the headers O of the headers R are. -/
structure Told (R O : List Hd) : Prop where
  ordered : O.Pairwise LtH
  named : ∀ x ∈ O, ∃ y ∈ R, y.name = x.name
  valued : ∀ x ∈ O, x.name ≠ scN → x.value = Lib.join ((R.filter (fun y => y.name == x.name)).map (·.value)) [44, 32]
  few : O.length ≤ R.length
  small : ∀ x ∈ O, x.value.length ≤ bulkV R

theorem bulkV_app (A B : List Hd) : bulkV (A ++ B) = bulkV A + bulkV B := by simp [bulkV]

theorem nmAt_get {M : List Hd} {j : Nat} (h : j < M.length) : nmAt M j = M[j].name := by simp [nmAt, List.getD, h]

theorem Bld.told : ∀ {R O : List Hd}, Bld R O → R.Pairwise LeH → Told R O := by
  intro R O h
  induction h with
  | nil => exact fun _ => ⟨.nil, by simp, by simp, Nat.le_refl _, by simp⟩
  | @step R O k h hO ih =>
    intro hp
    obtain ⟨hk1, hkl, hall, hk2, hend⟩ := h
    have hsp : R.take k ++ R.drop k = R := List.take_append_drop k R
    have hp' := hp
    rw [← hsp, List.pairwise_append] at hp'
    obtain ⟨hpt, hpd, hcr⟩ := hp'
    have T := ih hpd
    have h0 : 0 < R.length := by omega
    have hR0 : R[0] ∈ R.take k := List.mem_take_iff_getElem.2 ⟨0, by omega, rfl⟩
    have hn0 : nmAt R 0 = R[0].name := nmAt_get h0
    -- whoever of the rest has the first one's name is a cookie
    have hck : ∀ z ∈ R.drop k, z.name = nmAt R 0 → nmAt R 0 = scN := by
      intro z hz hzn
      rcases hend with e | e | e
      · rw [e, List.drop_length] at hz; cases hz
      · exfalso
        have hkR : k < R.length := by
          by_cases q : k < R.length
          · exact q
          · rw [List.drop_eq_nil_of_le (by omega)] at hz; cases hz
        have hd : R.drop k = R[k] :: R.drop (k + 1) := List.drop_eq_getElem_cons hkR
        have l1 : ltN R[k].name R[0].name = false := hcr R[0] hR0 R[k] (by rw [hd]; exact List.mem_cons_self)
        have l2 : ltN z.name R[k].name = false := by
          rw [hd] at hz hpd
          rcases List.mem_cons.1 hz with q | q
          · rw [q]; exact ltN_irrefl _
          · exact (List.pairwise_cons.1 hpd).1 z q
        rw [hzn, hn0] at l2
        apply e
        rw [nmAt_get hkR, hn0]
        exact ltN_eq l1 l2
      · exact e
    have hta : ∀ y ∈ R.take k, y.name = nmAt R 0 := by
      intro y hy
      obtain ⟨j, hj, rfl⟩ := List.mem_take_iff_getElem.1 hy
      have := hall j (by omega)
      rw [nmAt_get (by omega)] at this
      exact this
    refine ⟨List.pairwise_cons.2 ⟨?_, T.ordered⟩, ?_, ?_, ?_, ?_⟩
    · intro y hy
      obtain ⟨z, hz, hzn⟩ := T.named y hy
      refine ⟨?_, fun e => ?_⟩
      · show ltN y.name (nmAt R 0) = false
        rw [← hzn, hn0]
        exact hcr R[0] hR0 z hz
      · exact hck z hz (hzn.trans e.symm)
    · intro x hx
      rcases List.mem_cons.1 hx with e | e
      · subst e
        exact ⟨R[0], List.getElem_mem _, hn0.symm⟩
      · obtain ⟨z, hz, hzn⟩ := T.named x e
        exact ⟨z, List.mem_of_mem_drop hz, hzn⟩
    · intro x hx hne
      rcases List.mem_cons.1 hx with e | e
      · subst e
        show getT (R.take k) (nmAt R 0) = _
        have e1 : R.filter (fun y => y.name == nmAt R 0) = R.take k := by
          conv => lhs; rw [← hsp]
          rw [List.filter_append, List.filter_eq_self.2 (fun y hy => by simp [hta y hy]), List.filter_eq_nil_iff.2, List.append_nil]
          intro z hz q
          exact hne (hck z hz (by simpa using q))
        show _ = Lib.join ((R.filter (fun y => y.name == nmAt R 0)).map (·.value)) [44, 32]
        rw [e1]
        unfold getT selV
        rw [List.filter_eq_self.2 (fun y hy => by rw [isN, hta y hy]; simp)]
      · rw [T.valued x e hne]
        congr 2
        conv => rhs; rw [← hsp]
        have e2 : (R.take k).filter (fun y => y.name == x.name) = [] := List.filter_eq_nil_iff.2 (by
          intro y hy q
          obtain ⟨z, hz, hzn⟩ := T.named x e
          have q' : y.name = x.name := by simpa using q
          have := hck z hz (by rw [hzn, ← q', hta y hy])
          exact hne (by rw [← q', hta y hy, this]))
        rw [List.filter_append, e2, List.nil_append]
    · have := T.few
      rw [List.length_drop] at this
      simp only [List.length_cons]
      omega
    · intro x hx
      rw [← hsp, bulkV_app]
      rcases List.mem_cons.1 hx with e | e
      · subst e
        have := getT_len (R.take k) (nmAt R 0)
        show (getT (R.take k) (nmAt R 0)).length ≤ _
        omega
      · have := T.small x e
        omega

theorem pair_weak {O : List Hd} (h : O.Pairwise LtH) : O.Pairwise LeH := h.imp fun h => h.1

theorem join_one (x : List UInt8) (s : List UInt8) : Lib.join [x] s = x := by simp [Lib.join, List.intercalate]

/-- Headers told already come out as they are. -/
theorem Bld.same : ∀ {R O : List Hd}, Bld R O → R.Pairwise LtH → O = R := by
  intro R O h
  induction h with
  | nil => exact fun _ => rfl
  | @step R O k h hO ih =>
    intro hp
    obtain ⟨hk1, hkl, hall, hk2, hend⟩ := h
    have h0 : 0 < R.length := by omega
    have hk : k = 1 := by
      rcases hk2 with e | e
      · exact e
      · by_cases q : k = 1
        · exact q
        · exfalso
          have h1 : 1 < R.length := by omega
          have := List.pairwise_iff_getElem.1 hp 0 1 h0 h1 (by omega)
          have q2 := hall 1 (by omega)
          rw [nmAt_get h1, nmAt_get h0] at q2
          exact e (by rw [nmAt_get h0]; exact this.2 q2.symm)
    subst hk
    cases R with
    | nil => simp at h0
    | cons x R =>
      have := ih (List.pairwise_cons.1 hp).2
      rw [this]
      show (⟨x.name, getT [x] x.name⟩ : Hd) :: R = x :: R
      have : getT [x] x.name = x.value := by simp [getT, selV, isN, join_one]
      rw [this]

/-- What headers.Sorted tells of L. -/
structure SortsP (L O : List Hd) : Prop where
  ordered : O.Pairwise LtH
  lowered : lowH O = O
  got : ∀ x ∈ O, getB L x.name = true
  valued : ∀ x ∈ O, x.name ≠ scN → getT L x.name = x.value
  few : O.length ≤ L.length
  named : ∀ x ∈ O, ∃ y ∈ L, low y.name = x.name
  small : ∀ n, Szd n L → ∀ x ∈ O, x.value.length ≤ L.length * (n + 2)

theorem SortsTo.facts {L O : List Hd} (h : SortsTo L O) : SortsP L O := by
  obtain ⟨M, hl, hst, hsr, hb⟩ := h
  have T := hb.told hsr.pair
  have hnm : ∀ x ∈ O, ∃ y ∈ L, low y.name = x.name := fun x hx => by
    obtain ⟨z, hz, e⟩ := T.named x hx
    obtain ⟨y, hy, rfl⟩ := List.mem_map.1 (hst.mem hz)
    exact ⟨y, hy, e⟩
  have hlow : ∀ x ∈ O, low x.name = x.name := fun x hx => by
    obtain ⟨y, _, e⟩ := hnm x hx
    rw [← e, low5_low]
  refine ⟨T.ordered, ?_, ?_, ?_, by rw [← hl]; exact T.few, hnm, ?_⟩
  · unfold lowH
    conv => rhs; rw [← List.map_id O]
    apply List.map_congr_left
    intro x hx
    show (⟨low x.name, x.value⟩ : Hd) = x
    rw [hlow x hx]
  · intro x hx
    obtain ⟨y, hy, e⟩ := hnm x hx
    have : y.value ∈ selV L x.name := List.mem_map.2 ⟨y, List.mem_filter.2 ⟨hy, by rw [isN, e, hlow x hx]; simp⟩, rfl⟩
    unfold getB
    cases hs : selV L x.name with
    | nil => rw [hs] at this; cases this
    | cons _ _ => rfl
  · intro x hx hne
    rw [T.valued x hx hne, hst x.name]
    unfold getT selV lowH
    rw [List.filter_map, List.map_map]
    congr 2
    apply List.filter_congr
    intro y _
    show (low y.name == low x.name) = (low y.name == x.name)
    rw [hlow x hx]
  · intro n hn x hx
    have h1 := T.small x hx
    have h2 := bulkV_szd (L := M) (szd_sub (lowH_szd hn) (fun x hx => hst.mem hx))
    rw [hl] at h2
    omega

theorem SortsTo.again {L O Q : List Hd} (h : SortsTo L O) (h2 : SortsTo O Q) : Q = O := by
  have F := h.facts
  obtain ⟨M, hl, hst, hsr, hb⟩ := h2
  rw [F.lowered] at hst
  have := same_of_stab (pair_weak F.ordered) hsr.pair hst
  subst this
  exact hb.same F.ordered

end Go.Proofs.YtknlmifjadolpaaDoor
