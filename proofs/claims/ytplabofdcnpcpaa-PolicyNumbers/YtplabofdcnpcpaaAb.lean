/-
  Plain facts of policies: what was parsed, written and parsed again is itself.
-/
import Derived.Test.YtplabofdcnpcpaaAa
set_option linter.unusedSimpArgs false
set_option linter.unusedVariables false
namespace Go.Proofs.Ytplabofdcnpcpaa

theorem low_blank : ∀ c : UInt8, bl9 (lowC c) = bl9 c := by
  intro c
  have h : ∀ n : Fin 256, bl9 (lowC (UInt8.ofNat n.val)) = bl9 (UInt8.ofNat n.val) := by decide +kernel
  have := h ⟨c.toNat, c.toNat_lt⟩
  simpa using this
theorem low_semi : ∀ c : UInt8, lowC c = 59 → c = 59 := by
  intro c
  have h : ∀ n : Fin 256, lowC (UInt8.ofNat n.val) = 59 → UInt8.ofNat n.val = 59 := by decide +kernel
  have := h ⟨c.toNat, c.toNat_lt⟩
  simpa using this
theorem lowC_twice : ∀ c : UInt8, lowC (lowC c) = lowC c := by
  intro c
  have h : ∀ n : Fin 256, lowC (lowC (UInt8.ofNat n.val)) = lowC (UInt8.ofNat n.val) := by decide +kernel
  have := h ⟨c.toNat, c.toNat_lt⟩
  simpa using this
theorem low_twice (l : List UInt8) : low (low l) = low l := by
  unfold low
  rw [List.map_map]
  apply List.map_congr_left
  intro c _
  exact lowC_twice c

/-- A word that may stand in a policy. -/
def OkW (x : List UInt8) : Prop := x ≠ [] ∧ ∀ c ∈ x, bl9 c = false ∧ c ≠ 59

theorem wds_ok : ∀ (l cur : List UInt8), (∀ c ∈ cur, bl9 c = false ∧ c ≠ 59) → (59 : UInt8) ∉ l → ∀ x ∈ wdsF l cur, OkW x
  | [], cur, hc, hl, x, hx => by
    unfold wdsF at hx
    split at hx
    · simp at hx
    · obtain rfl := List.mem_singleton.1 hx
      exact ⟨by assumption, hc⟩
  | c :: r, cur, hc, hl, x, hx => by
    have hr : (59 : UInt8) ∉ r := fun h => hl (by simp [h])
    unfold wdsF at hx
    split at hx
    · split at hx
      · exact wds_ok r [] (by simp) hr x hx
      · rcases List.mem_cons.1 hx with rfl | hx
        · exact ⟨by assumption, hc⟩
        · exact wds_ok r [] (by simp) hr x hx
    · rename_i hb
      refine wds_ok r (cur ++ [c]) ?_ hr x hx
      intro d hd
      rcases List.mem_append.1 hd with hd | hd
      · exact hc d hd
      · obtain rfl := List.mem_singleton.1 hd
        exact ⟨by simpa using hb, fun e => hl (by simp [e])⟩

theorem words_ok (l : List UInt8) (h : (59 : UInt8) ∉ l) : ∀ x ∈ words9 l, OkW x := wds_ok l [] (by simp) h

/-- A rule that may stand in a policy. -/
def OkR (r : Ru) : Prop := OkW r.name ∧ low r.name = r.name ∧ ∀ v ∈ r.vals, OkW v
def OkL (L : List Ru) : Prop := (∀ r ∈ L, OkR r) ∧ L.Pairwise fun a b => a.name ≠ b.name

theorem okw_low {x : List UInt8} (h : OkW x) : OkW (low x) := by
  refine ⟨fun e => h.1 (by unfold low at e; simpa using e), fun c hc => ?_⟩
  obtain ⟨d, hd, rfl⟩ := List.mem_map.1 hc
  have := h.2 d hd
  exact ⟨by rw [low_blank]; exact this.1, fun e => this.2 (low_semi d e)⟩

theorem rule_ok {p : List UInt8} {r : Ru} (hp : (59 : UInt8) ∉ p) (h : ruleV p = some r) : OkR r := by
  unfold ruleV at h
  have hw := words_ok p hp
  revert h hw
  cases words9 p with
  | nil => intro h; cases h
  | cons x t =>
    intro h hw
    obtain rfl := Option.some.inj h
    exact ⟨okw_low (hw x (by simp)), low_twice x, fun v hv => hw v (by simp [hv])⟩

theorem has_no {L : List Ru} {n : List UInt8} (h : hasR L n = false) : ∀ r ∈ L, r.name ≠ n := by
  intro r hr e
  unfold hasR at h
  rw [List.any_eq_false] at h
  exact h r hr (by simp [e])

theorem has_of {L : List Ru} {n : List UInt8} (h : ∀ r ∈ L, r.name ≠ n) : hasR L n = false := by
  unfold hasR
  rw [List.any_eq_false]
  intro r hr
  simp [h r hr]

theorem add_ok {L : List Ru} {p : List UInt8} (hp : (59 : UInt8) ∉ p) (h : OkL L) : OkL (addR L p) := by
  unfold addR
  split
  · exact h
  · rename_i r hr
    split
    · exact h
    · rename_i hh
      have hh' : hasR L r.name = false := by simpa using hh
      refine ⟨fun x hx => ?_, ?_⟩
      · rcases List.mem_append.1 hx with hx | hx
        · exact h.1 x hx
        · obtain rfl := List.mem_singleton.1 hx
          exact rule_ok hp hr
      · rw [List.pairwise_append]
        refine ⟨h.2, List.pairwise_singleton _ _, fun a ha b hb => ?_⟩
        obtain rfl := List.mem_singleton.1 hb
        exact has_no hh' a ha

theorem polF_ok : ∀ (ps : List (List UInt8)) (L : List Ru), (∀ p ∈ ps, (59 : UInt8) ∉ p) → OkL L → OkL (polF ps L)
  | [], L, _, h => h
  | p :: ps, L, hp, h => by
    rw [polF]
    split
    · exact h
    · exact polF_ok ps _ (fun q hq => hp q (by simp [hq])) (add_ok (hp p (by simp)) h)

theorem polV_ok (s : List UInt8) : OkL (polV s) := polF_ok _ _ (fun p hp => (pcV_mem 59 s p hp).1) ⟨fun r hr => by simp at hr, List.Pairwise.nil⟩

theorem wds_vals : ∀ (vs : List (List UInt8)) (cur : List UInt8), cur ≠ [] → (∀ v ∈ vs, OkW v) → wdsF (vs.flatMap fun v => 32 :: v) cur = cur :: vs
  | [], cur, hc, _ => by simp [wdsF, hc]
  | v :: vs, cur, hc, h => by
    have hv := h v (by simp)
    rw [List.flatMap_cons, List.cons_append, wdsF, if_pos (by decide), if_neg hc, wds_skip _ _ _ (fun c hcv => (hv.2 c hcv).1), List.nil_append, wds_vals vs v hv.1 (fun x hx => h x (by simp [hx]))]

theorem words_txR (r : Ru) (h : OkR r) : words9 (txR r) = r.name :: r.vals := by
  unfold words9 txR
  rw [wds_skip _ _ _ (fun c hc => (h.1.2 c hc).1), List.nil_append]
  exact wds_vals _ _ h.1.1 h.2.2

theorem rule_txR (r : Ru) (h : OkR r) : ruleV (txR r) = some r := by
  unfold ruleV
  rw [words_txR r h]
  show some (Ru.mk (low r.name) r.vals) = some r
  rw [h.2.1]

theorem txR_semi (r : Ru) (h : OkR r) : (59 : UInt8) ∉ txR r := by
  intro hm
  unfold txR at hm
  rcases List.mem_append.1 hm with hm | hm
  · exact (h.1.2 _ hm).2 rfl
  · obtain ⟨v, hv, hm⟩ := List.mem_flatMap.1 hm
    rcases List.mem_cons.1 hm with hm | hm
    · exact absurd hm (by decide)
    · exact ((h.2.2 v hv).2 _ hm).2 rfl

theorem words_lead (p : List UInt8) : words9 (32 :: p) = words9 p := by
  unfold words9
  rw [wdsF, if_pos (by decide), if_pos rfl]
theorem rule_lead (p : List UInt8) : ruleV (32 :: p) = ruleV p := by unfold ruleV; rw [words_lead]
theorem add_lead (L : List Ru) (p : List UInt8) : addR L (32 :: p) = addR L p := by unfold addR; rw [rule_lead]

theorem pc_lead (c : UInt8) (hc : c ≠ 32) (l : List UInt8) : ∃ p ps, pcV c l = p :: ps ∧ pcV c (32 :: l) = (32 :: p) :: ps := by
  rcases h : pcV c l with _ | ⟨p, ps⟩
  · exact absurd h (pcV_ne c l)
  · exact ⟨p, ps, rfl, by rw [pcV, if_neg (fun e => hc e.symm), h]⟩

theorem polF_lead (l : List UInt8) (L : List Ru) : polF (pcV 59 (32 :: l)) L = polF (pcV 59 l) L := by
  obtain ⟨p, ps, h1, h2⟩ := pc_lead 59 (by decide) l
  rw [h1, h2, polF, polF, add_lead]

theorem polV_lead (l : List UInt8) : polV (32 :: l) = polV l := polF_lead l []

theorem polF_txP : ∀ (L M : List Ru), OkL (M ++ L) → (M ++ L).length ≤ 32 → polF (pcV 59 (txP L)) M = M ++ L
  | [], M, _, _ => by
    show polF [[]] M = _
    rw [polF, List.append_nil]
    split
    · rfl
    · rfl
  | r :: t, M, h, hl => by
    have hr : OkR r := h.1 r (by simp)
    have hM : M.length < 32 := by simp at hl; omega
    have hno : hasR M r.name = false := has_of fun a ha => by
      have := (List.pairwise_append.1 h.2).2.2 a ha r (by simp)
      exact this
    have hadd : addR M (txR r) = M ++ [r] := by
      unfold addR
      rw [rule_txR r hr]
      simp [hno]
    have hsp : M ++ r :: t = (M ++ [r]) ++ t := by simp
    cases t with
    | nil =>
      show polF (pcV 59 (txR r ++ [])) M = _
      rw [List.append_nil, pcV_none 59 _ (txR_semi r hr), polF, if_neg (by omega), hadd, polF]
    | cons q t =>
      show polF (pcV 59 (txR r ++ 59 :: 32 :: txP (q :: t))) M = _
      rw [pcV_some 59 _ _ (txR_semi r hr), polF, if_neg (by omega), hadd, polF_lead, hsp]
      rw [hsp] at h hl
      exact polF_txP (q :: t) (M ++ [r]) h hl

/-- P10.4. -/
theorem pol_back (s : List UInt8) : polV (txP (polV s)) = polV s := polF_txP (polV s) [] (by simpa using polV_ok s) (by simpa using polV_len s)

theorem wds_bulk : ∀ (l cur : List UInt8), ((wdsF l cur).map fun x => x.length + 1).sum ≤ cur.length + l.length + 1
  | [], cur => by
    unfold wdsF
    split
    · simp
    · simp
  | c :: r, cur => by
    unfold wdsF
    split
    · split
      · have := wds_bulk r []
        simp only [List.length_cons, List.length_nil] at this ⊢
        omega
      · have := wds_bulk r []
        simp only [List.length_cons, List.length_nil, List.map_cons, List.sum_cons] at this ⊢
        omega
    · have := wds_bulk r (cur ++ [c])
      simp only [List.length_cons, List.length_append, List.length_nil] at this ⊢
      omega

theorem txR_len (r : Ru) : (txR r).length = r.name.length + (r.vals.map fun v => v.length + 1).sum := by
  unfold txR
  rw [List.length_append]
  congr 1
  induction r.vals with
  | nil => rfl
  | cons v t ih => rw [List.flatMap_cons, List.length_append, ih]; simp

theorem rule_bulk {p : List UInt8} {r : Ru} (h : ruleV p = some r) : (txR r).length ≤ p.length ∧ r.vals.length ≤ p.length ∧ r.name.length ≤ p.length ∧ ∀ v ∈ r.vals, v.length ≤ p.length := by
  have hb := wds_bulk p []
  have hl := wds_len p []
  unfold ruleV words9 at h
  revert h
  cases hw : wdsF p [] with
  | nil => intro h; cases h
  | cons x t =>
    intro h
    obtain rfl := Option.some.inj h
    rw [hw] at hb hl
    rw [txR_len]
    simp only [List.map_cons, List.sum_cons, List.length_nil, Nat.zero_add, List.length_cons] at hb hl ⊢
    have hlow : (low x).length = x.length := by unfold low; simp
    refine ⟨by rw [hlow]; omega, by have := hl.1; omega, by rw [hlow]; exact hl.2 x (by simp), fun v hv => hl.2 v (by simp [hv])⟩

/-- How long what is written can be. -/
def bulkP (L : List Ru) : Nat := (L.map fun r => (txR r).length + 2).sum

theorem txP_len (L : List Ru) : (txP L).length ≤ bulkP L := by
  induction L with
  | nil => simp [txP, bulkP]
  | cons r t ih =>
    unfold bulkP at ih ⊢
    rw [List.map_cons, List.sum_cons]
    cases t with
    | nil =>
      show (txR r ++ []).length ≤ _
      rw [List.append_nil]
      omega
    | cons q t =>
      show (txR r ++ 59 :: 32 :: txP (q :: t)).length ≤ _
      rw [List.length_append, List.length_cons, List.length_cons]
      omega

theorem add_bulk (L : List Ru) (p : List UInt8) : bulkP (addR L p) ≤ bulkP L + p.length + 2 := by
  unfold addR
  split
  · omega
  · rename_i r hr
    split
    · omega
    · have := (rule_bulk hr).1
      unfold bulkP
      rw [List.map_append, List.sum_append]
      simp
      omega

theorem polF_bulk : ∀ (ps : List (List UInt8)) (L : List Ru), bulkP (polF ps L) ≤ bulkP L + (ps.map fun p => p.length + 2).sum
  | [], L => by simp [polF]
  | p :: ps, L => by
    rw [polF]
    split
    · omega
    · have h1 := polF_bulk ps (addR L p)
      have h2 := add_bulk L p
      rw [List.map_cons, List.sum_cons]
      omega

theorem pcV_bulk (c : UInt8) : ∀ l : List UInt8, ((pcV c l).map fun p => p.length + 2).sum ≤ 2 * l.length + 2 :=
  pcV_ind c (fun l h => by rw [pcV_none c l h]; simp; omega) (fun a r h ih => by rw [pcV_some c a r h]; simp at ih ⊢; omega)

theorem polV_bulk (s : List UInt8) : bulkP (polV s) ≤ 2 * s.length + 2 := by
  have h1 := polF_bulk (pcV 59 s) []
  have h2 := pcV_bulk 59 s
  unfold polV
  have h3 : bulkP [] = 0 := rfl
  omega

/-- Sizes of what a rule holds. -/
def SzR (n : Nat) (L : List Ru) : Prop := ∀ r ∈ L, r.name.length ≤ n ∧ r.vals.length ≤ n ∧ ∀ v ∈ r.vals, v.length ≤ n

theorem add_sz {n : Nat} {L : List Ru} {p : List UInt8} (hp : p.length ≤ n) (h : SzR n L) : SzR n (addR L p) := by
  unfold addR
  split
  · exact h
  · rename_i r hr
    split
    · exact h
    · intro x hx
      rcases List.mem_append.1 hx with hx | hx
      · exact h x hx
      · obtain rfl := List.mem_singleton.1 hx
        obtain ⟨_, h2, h3, h4⟩ := rule_bulk hr
        exact ⟨by omega, by omega, fun v hv => by have := h4 v hv; omega⟩

theorem polF_sz {n : Nat} : ∀ (ps : List (List UInt8)) (L : List Ru), (∀ p ∈ ps, p.length ≤ n) → SzR n L → SzR n (polF ps L)
  | [], L, _, h => h
  | p :: ps, L, hp, h => by
    rw [polF]
    split
    · exact h
    · exact polF_sz ps _ (fun q hq => hp q (by simp [hq])) (add_sz (hp p (by simp)) h)

theorem polV_sz (s : List UInt8) : SzR s.length (polV s) := polF_sz _ _ (fun p hp => (pcV_mem 59 s p hp).2.1) (fun r hr => by simp at hr)

/-! The headers, all at once and one by one. -/
def nmOne (p : List UInt8) : Option (List Ru) := match polV p with
  | [] => none
  | r :: t => some (r :: t)
theorem nmOne_lead (p : List UInt8) : nmOne (32 :: p) = nmOne p := by unfold nmOne; rw [polV_lead]
theorem nmV_eq (s : List UInt8) : nmV s = (pcV 44 s).filterMap nmOne := rfl
theorem nm_lead (l : List UInt8) : nmV (32 :: l) = nmV l := by
  obtain ⟨p, ps, h1, h2⟩ := pc_lead 44 (by decide) l
  rw [nmV_eq, nmV_eq, h1, h2, List.filterMap_cons, List.filterMap_cons, nmOne_lead]

theorem pc_join (c : UInt8) : ∀ (a r : List UInt8), pcV c (a ++ c :: r) = pcV c a ++ pcV c r := by
  intro a r
  revert a
  exact pcV_ind c (fun l h => by rw [pcV_some c l r h, pcV_none c l h]; rfl) (fun a t h ih => by
    rw [List.append_assoc, List.cons_append, pcV_some c a _ h, ih, pcV_some c a t h]; rfl)

theorem nm_join (a r : List UInt8) : nmV (a ++ 44 :: 32 :: r) = nmV a ++ nmV r := by
  rw [nmV_eq, pc_join, List.filterMap_append, ← nmV_eq, ← nmV_eq, nm_lead]

theorem nm_empty : nmV [] = [] := by decide +kernel

theorem nm_joined : ∀ (S : List (List UInt8)), nmV (Lib.join S [44, 32]) = S.flatMap nmV
  | [] => nm_empty
  | [x] => by simp [Lib.join, List.intercalate]
  | x :: y :: t => by
    have e : Lib.join (x :: y :: t) [44, 32] = x ++ 44 :: 32 :: Lib.join (y :: t) [44, 32] := by simp [Lib.join, List.intercalate]
    rw [e, nm_join, nm_joined (y :: t)]
    simp only [List.flatMap_cons]

theorem ofV_eq (H : List Hd) (n : List UInt8) : ofV H n = (selV H n).flatMap nmV := by
  unfold ofV getB getT
  cases h : selV H n with
  | nil => simp
  | cons x t => rw [← nm_joined]; simp

end Go.Proofs.Ytplabofdcnpcpaa
