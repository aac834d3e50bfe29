/-
  Plain facts and contracts for the law PolicyParses.
-/
import Derived.Test.YtplabofdcnpcpaaZAzf
import Derived.Test.YtplabofdcnpcpaaZGg
set_option linter.unusedSimpArgs false
set_option linter.unusedVariables false
namespace Go.Proofs.Ytplabofdcnpcpaa
open Go.RowKit

theorem of_mem {H : List Hd} {n : List UInt8} {L : List Ru} (h : L ∈ ofV H n) : ∃ p, L = polV p ∧ p.length ≤ (getT H n).length := by
  unfold ofV at h
  split at h
  · rw [nmV_eq] at h
    obtain ⟨p, hp, hq⟩ := List.mem_filterMap.1 h
    refine ⟨p, ?_, (pcV_mem 44 _ p hp).2.1⟩
    unfold nmOne at hq
    cases hv : polV p with
    | nil => rw [hv] at hq; cases hq
    | cons r t => rw [hv] at hq; exact (Option.some.inj hq).symm
  · simp at h

theorem from_mem {H : List Hd} (hb : bulkV H ≤ 1000000) {x : List Ru × Bool} (h : x ∈ fromV H) : x.1.length ≤ 32 ∧ ∀ r ∈ x.1, r.vals.length ≤ 1000000 := by
  have key : ∀ n, x.1 ∈ ofV H n → x.1.length ≤ 32 ∧ ∀ r ∈ x.1, r.vals.length ≤ 1000000 := fun n hx => by
    obtain ⟨p, he, hl⟩ := of_mem hx
    have h2 := getT_len H n
    rw [he]
    exact ⟨polV_len p, fun r hr => by have := (polV_sz p r hr).2.1; omega⟩
  unfold fromV at h
  rcases List.mem_append.1 h with h | h
  · obtain ⟨y, hy, rfl⟩ := List.mem_map.1 h
    exact key _ hy
  · obtain ⟨y, hy, rfl⟩ := List.mem_map.1 h
    exact key _ hy

theorem bulk_few (L : List Hd) : bulkV (fewH L 10 300) ≤ 3020 := by
  have h1 := fewH_len L 10 300
  have h2 := fewH_szd L 10 300
  generalize fewH L 10 300 = M at h1 h2
  have : ∀ (M : List Hd), Szd 300 M → bulkV M ≤ 302 * M.length := by
    intro M
    induction M with
    | nil => intro _; simp [bulkV]
    | cons h t ih =>
      intro hs
      have a := ih (fun x hx => hs x (by simp [hx]))
      have b := (hs h (by simp)).2
      unfold bulkV at a ⊢
      rw [List.map_cons, List.sum_cons, List.length_cons]
      omega
  have := this M h2
  omega

/-- What is told of a name, in three parts. -/
def oVs (o : Option (List (List UInt8) × List UInt8)) : List (List UInt8) := match o with | none => [] | some x => x.1
def oNm (o : Option (List (List UInt8) × List UInt8)) : List UInt8 := match o with | none => [] | some x => x.2
def oIs (o : Option (List (List UInt8) × List UInt8)) : Bool := match o with | none => false | some _ => true

theorem valsU (v : Value) (rp : Bool) (L : List Ru) (s : ByteArray) (w : World) (hv : PoAt w v L) (hl : L.length ≤ 1000) (hz : ∀ r ∈ L, r.vals.length ≤ 1000000) :
    Calls Try.prog 22 #[.agg #[v, .bool rp], .string s] w fun e w' => ∃ a c, e = .returned (.tuple #[.slice a (oVs (valsV L s.data.toList)).length c, .string ⟨(oNm (valsV L s.data.toList)).toArray⟩, .bool (oIs (valsV L s.data.toList))]) ∧ TxAt w' (.slice a (oVs (valsV L s.data.toList)).length c) (oVs (valsV L s.data.toList)) ∧ Below w.heap.size w w' := by
  refine (values10 v rp L s w hv hl hz).mono ?_
  intro e w' h
  cases hx : valsV L s.data.toList with
  | none =>
    rw [hx] at h
    obtain ⟨rfl, hb⟩ := h
    exact ⟨none, 0, rfl, tx_nil _, hb⟩
  | some x =>
    rw [hx] at h
    obtain ⟨u, rfl, hown, hb⟩ := h
    obtain ⟨a, c, rfl, h1, h2⟩ := own_form hown
    exact ⟨a, c, rfl, own_txt' hown, hb⟩

theorem rvalsU (v : Value) (rp : Bool) (L : List Ru) (s : ByteArray) (w : World) (hv : PoAt w v L) (hl : L.length ≤ 1000) :
    Calls Try.prog 23 #[.agg #[v, .bool rp], .string s] w fun e w' => ∃ a c, e = .returned (.tuple #[.slice a (oVs (valsV L s.data.toList)).length c, .string ⟨(oNm (valsV L s.data.toList)).toArray⟩, .bool (oIs (valsV L s.data.toList))]) ∧ TxAt w' (.slice a (oVs (valsV L s.data.toList)).length c) (oVs (valsV L s.data.toList)) ∧ Below w.heap.size w w' := by
  refine (rvalues10 v rp L s w hv hl).mono ?_
  intro e w' h
  cases hx : valsV L s.data.toList with
  | none =>
    rw [hx] at h
    obtain ⟨rfl, hb⟩ := h
    exact ⟨none, 0, rfl, tx_nil _, hb⟩
  | some x =>
    rw [hx] at h
    obtain ⟨a, c, rfl, htx, hb⟩ := h
    exact ⟨a, c, rfl, htx, hb⟩

theorem ask_mem {L : List Ru} {C : List (List UInt8)} {x : List (List UInt8) × List UInt8} (h : askV L C = some x) : ∃ r ∈ L, x.1 = r.vals := by
  induction C with
  | nil => cases h
  | cons n t ih =>
    unfold askV at h
    cases hf : findR L n with
    | none => rw [hf] at h; exact ih h
    | some v =>
      rw [hf] at h
      obtain rfl := Option.some.inj h
      unfold findR at hf
      obtain ⟨r, hr, rfl⟩ := Option.map_eq_some_iff.1 hf
      exact ⟨r, List.mem_of_find?_eq_some hr, rfl⟩

theorem oVs_len {L : List Ru} {n : List UInt8} (hz : ∀ r ∈ L, r.vals.length ≤ 1000000) : (oVs (valsV L n)).length ≤ 1000000 := by
  cases hx : valsV L n with
  | none => simp [oVs]
  | some x =>
    obtain ⟨r, hr, he⟩ := ask_mem hx
    show x.1.length ≤ _
    rw [he]
    exact hz r hr

theorem rparseP (s : ByteArray) (rp : Bool) (L : List Ru) (w : World) (hs : s.size ≤ 1000000) (hL : polV s.data.toList = L) :
    Calls Try.prog 19 #[.string s, .bool rp] w fun e w' => ∃ a c, e = .returned (.agg #[.slice a L.length c, .bool rp]) ∧ (L.length ≤ c ∧ c ≤ maxLen ∧ PoAt w' (.slice a L.length c) L) ∧ Below w.heap.size w w' := by
  subst hL
  refine (rparse10 s rp w hs).mono ?_
  rintro e w' ⟨v, Q, rfl, hown, hrd, hb⟩
  obtain ⟨a, c, rfl, h1, h2⟩ := own_form hown
  exact ⟨a, c, rfl, ⟨h1, h2, own_po hown hrd⟩, hb⟩

theorem rfromP (v : Value) (H : List Hd) (Ps : List (List Ru × Bool)) (w : World) (h : HdAt w v H) (hz : Szd 1000000 H) (hl : H.length ≤ 1000000) (hb : bulkV H ≤ 1000000) (hP : fromV H = Ps) :
    Calls Try.prog 24 #[v] w fun e w' => ∃ a c, e = .returned (.slice a Ps.length c) ∧ (Ps.length ≤ c ∧ c ≤ maxLen ∧ PlAt w' (.slice a Ps.length c) Ps) ∧ Below w.heap.size w w' := by
  subst hP
  refine (rfrom10 v H w h hz hl hb).mono ?_
  rintro e w' ⟨v', P, rfl, hown, hrd, hb'⟩
  obtain ⟨a, c, rfl, h1, h2⟩ := own_form hown
  exact ⟨a, c, rfl, ⟨h1, h2, own_plr hown hrd⟩, hb'⟩

end Go.Proofs.Ytplabofdcnpcpaa
