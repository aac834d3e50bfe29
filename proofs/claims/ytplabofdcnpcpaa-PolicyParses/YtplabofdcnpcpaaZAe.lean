/-
  Rules in memory; the walks of policy's read, place and what it calls of package slices.
-/
import Derived.Test.YtplabofdcnpcpaaZAd
import Derived.Test.YtplabofdcnpcpaaZGd
import Derived.Test.YtplabofdcnpcpaaZGb
import Derived.Test.YtplabofdcnpcpaaZGe
import Derived.Laws.OwnMore
import Derived.Deep.RegionHeld
set_option linter.unusedSimpArgs false
set_option linter.unusedVariables false
namespace Go.Proofs.Ytplabofdcnpcpaa
open Go.RowKit



def cellsR (Q : List (ByteArray × Value)) : List Value := Q.flatMap fun q => [.string q.1, q.2]
theorem cellsR_app (a b : List (ByteArray × Value)) : cellsR (a ++ b) = cellsR a ++ cellsR b := by simp [cellsR]
theorem cellsR_one (N : ByteArray) (V : Value) : cellsR [(N, V)] = [.string N, V] := rfl
theorem cellsR_len (a : List (ByteArray × Value)) : (cellsR a).length = a.length * 2 := by
  induction a with
  | nil => rfl
  | cons h a ih =>
    have e : cellsR (h :: a) = [.string h.1, h.2] ++ cellsR a := rfl
    rw [e, List.length_append, ih]
    simp only [List.length_cons, List.length_nil]
    omega
theorem cellsR_at (L : List (ByteArray × Value)) : ∀ j (h : j < L.length), (cellsR L)[j * 2]? = some (.string L[j].1) ∧ (cellsR L)[j * 2 + 1]? = some L[j].2 := by
  induction L with
  | nil => intro j h; simp at h
  | cons a L ih =>
    intro j h
    have e : cellsR (a :: L) = .string a.1 :: a.2 :: cellsR L := rfl
    cases j with
    | zero => rw [e]; exact ⟨rfl, rfl⟩
    | succ j =>
      have := ih j (by simpa using h)
      rw [e, show (j + 1) * 2 = j * 2 + 1 + 1 by omega]
      simpa using this

/-- These names and lists, each in memory of its own, are the rules L. -/
def RdO (w : World) (B : Nat) (Q : List (ByteArray × Value)) (L : List Ru) : Prop :=
  Q.length = L.length ∧ (∀ j (h1 : j < Q.length) (h2 : j < L.length), Q[j].1 = ⟨L[j].name.toArray⟩ ∧ SlV w B 9 Q[j].2 (cellsT L[j].vals)) ∧ (Q.map (·.2)).Pairwise AptV

theorem RdO.nil (w : World) (B : Nat) : RdO w B [] [] := ⟨rfl, fun j h => by simp at h, List.Pairwise.nil⟩

theorem RdO.keptB {w w' : World} {B : Nat} {Q : List (ByteArray × Value)} {L : List Ru} (h : RdO w B Q L) (hk : ∀ k : Nat, (∃ cur fz, w.heap[k]? = some (Obj.cells cur 9 fz)) → w'.heap[k]? = w.heap[k]?) : RdO w' B Q L := by
  obtain ⟨h1, h2, h3⟩ := h
  refine ⟨h1, fun j a b => ⟨(h2 j a b).1, ?_⟩, h3⟩
  have hs := (h2 j a b).2
  refine hs.same fun k hk2 => hk k ?_
  rcases hs with ⟨e, _⟩ | ⟨g, o, c, cur, e, _, hg, _⟩
  · rw [e] at hk2; simp [Value.ownBlock] at hk2
  · rw [e] at hk2
    simp [Value.ownBlock] at hk2
    subst hk2
    exact ⟨cur, _, hg⟩

theorem RdO.kept {w w' : World} {B : Nat} {Q : List (ByteArray × Value)} {L : List Ru} (h : RdO w B Q L) (hb : Below w.heap.size w w') : RdO w' B Q L :=
  h.keptB fun k ⟨_, _, hk⟩ => hb.block k (Array.getElem?_eq_some_iff.1 hk).1

theorem RdO.old {w : World} {B : Nat} {Q : List (ByteArray × Value)} {L : List Ru} (h : RdO w B Q L) : ∀ q ∈ Q, ∀ k, q.2.ownBlock = some k → B ≤ k ∧ k < w.heap.size := by
  intro q hq k hk
  obtain ⟨j, hj, rfl⟩ := List.getElem_of_mem hq
  exact ((h.2.1 j hj (by rw [← h.1]; exact hj)).2).lt k hk

theorem RdO.snoc {w : World} {B : Nat} {Q : List (ByteArray × Value)} {L : List Ru} {r : Ru} {V : Value} (h : RdO w B Q L) (hV : SlV w B 9 V (cellsT r.vals)) (ha : ∀ q ∈ Q, AptV q.2 V) : RdO w B (Q ++ [(⟨r.name.toArray⟩, V)]) (L ++ [r]) := by
  obtain ⟨h1, h2, h3⟩ := h
  refine ⟨by simp [h1], fun j a b => ?_, ?_⟩
  · by_cases hj : j < Q.length
    · rw [List.getElem_append_left hj, List.getElem_append_left (by omega)]
      exact h2 j hj (by omega)
    · have e : j = Q.length := by simp at a; omega
      subst e
      rw [List.getElem_append_right (by omega), List.getElem_append_right (by omega)]
      simp [h1]
      exact hV
  · rw [List.map_append, List.pairwise_append]
    refine ⟨h3, List.pairwise_singleton _ _, fun a ha2 b hb => ?_⟩
    obtain ⟨q, hq, rfl⟩ := List.mem_map.1 ha2
    obtain rfl := List.mem_singleton.1 hb
    exact ha q hq

theorem slv_tx {w : World} {B : Nat} {T : TypeId} {v : Value} {L : List (List UInt8)} (h : SlV w B T v (cellsT L)) : TxAt w v L := by
  rcases h with ⟨rfl, e⟩ | ⟨g, o, c, cur, rfl, _, hg, h1, h2, h3, h4⟩
  · have : L = [] := by simpa [cellsT] using e
    subst this
    exact tx_nil w
  · rw [cellsT_len] at h1 ⊢
    refine tx_of h1 h3 fun j hj => ?_
    rw [Lib.cell_of_heap hg]
    exact h4 j _ (by simp [cellsT, hj])

/-- The value v reads as the rules L. -/
def PoAt (w : World) (v : Value) (L : List Ru) : Prop :=
  ∃ a cap, v = .slice a L.length cap ∧ L.length ≤ cap ∧ cap ≤ maxLen ∧ ∀ j (hj : j < L.length), ∃ b off u, a = some ⟨b, off, none⟩ ∧ w.cell? ⟨b, off + j * 2, none⟩ = some (.string ⟨L[j].name.toArray⟩) ∧ w.cell? ⟨b, off + j * 2 + 1, none⟩ = some u ∧ TxAt w u L[j].vals

theorem PoAt.view {w : World} {v : Value} {L : List Ru} (h : PoAt w v L) : ∃ a cap, v = .slice a L.length cap ∧ L.length ≤ cap ∧ cap ≤ maxLen ∧ ∀ j (hj : j < L.length), ∃ b off u, a = some ⟨b, off, none⟩ ∧ w.cell? ⟨b, off + j * 2, none⟩ = some (.string ⟨L[j].name.toArray⟩) ∧ w.cell? ⟨b, off + j * 2 + 1, none⟩ = some u ∧ TxAt w u L[j].vals := h

theorem po_nil (w : World) : PoAt w (.slice none 0 0) [] := ⟨none, 0, rfl, Nat.le_refl _, by decide, fun j hj => by simp at hj⟩

theorem PoAt.kept {w w' : World} {v : Value} {L : List Ru} (h : PoAt w v L) (hb : Below w.heap.size w w') : PoAt w' v L := by
  obtain ⟨a, cap, h1, h2, h3, h4⟩ := h
  refine ⟨a, cap, h1, h2, h3, fun j hj => ?_⟩
  obtain ⟨b, off, u, e, c1, c2, c3⟩ := h4 j hj
  exact ⟨b, off, u, e, kept_cell c1 hb, kept_cell c2 hb, c3.kept hb⟩

theorem own_po {w : World} {B B' : Nat} {e : TypeId} {v : Value} {L : List Ru} {Q : List (ByteArray × Value)} (h : w.ownsRow B e 2 v L.length (cellsR Q)) (hq : RdO w B' Q L) : PoAt w v L := by
  have h2 := h.2
  rcases h2 with ⟨hv, hn⟩ | ⟨g, cap, cur, rfl, hg, hrow, hnc, hcm, hcs, htake⟩
  · obtain rfl := List.eq_nil_of_length_eq_zero hn
    rw [hv]; exact po_nil w
  · refine ⟨_, cap, rfl, hnc, hcm, fun j hj => ?_⟩
    have hjq : j < Q.length := by rw [hq.1]; exact hj
    obtain ⟨e1, e2⟩ := hq.2.1 j hjq hj
    refine ⟨g, 0, Q[j].2, rfl, ?_, ?_, slv_tx e2⟩
    · rw [Nat.zero_add, h.cellAt _ (by omega), ← e1]; exact (cellsR_at Q j hjq).1
    · rw [Nat.zero_add, h.cellAt _ (by omega)]; exact (cellsR_at Q j hjq).2

theorem enters_blank10 : ∀ args w, (callFunc 46 args).run Try.prog w = .ok (.enter 46 args) w := enters_of Try.func46 (by kernel_rfl) rfl

theorem fields10 (s : ByteArray) (w : World) (hs : s.size ≤ 4294967296) :
    Calls Try.prog 45 #[.string s, .func (.func 46) #[] #[]] w fun e w' => ∃ A, e = .returned (.slice (some ⟨A, 0, none⟩) (words9 s.data.toList).length (words9 s.data.toList).length) ∧ w.heap.size ≤ A ∧
      w'.ownsRow w.heap.size 9 1 (.slice (some ⟨A, 0, none⟩) (words9 s.data.toList).length (words9 s.data.toList).length) (words9 s.data.toList).length (cellsT (words9 s.data.toList)) ∧ Below w.heap.size w w' := by
  have h := Try.strings_FieldsFunc_grows 46 #[] enters_blank10 p9 s w hs (fun W x hx hb => blank10 x W hx)
  rw [fields_words, List.length_map, List.map_map] at h
  exact h

/-- Where the first rule of that name stands. -/
def idxR (L : List Ru) (n : List UInt8) : Int := match L.findIdx? fun r => decide (r.name = n) with
  | some k => (k : Int)
  | none => -1

theorem idx_has (L : List Ru) (n : List UInt8) : decide (idxR L n < 0) = !hasR L n := by
  unfold idxR hasR
  cases h : L.findIdx? fun r => decide (r.name = n) with
  | none =>
    rw [List.findIdx?_eq_none_iff] at h
    have : (L.any fun r => decide (r.name = n)) = false := by rw [List.any_eq_false]; intro r hr; simpa using h r hr
    simp [this]
  | some k =>
    rw [List.findIdx?_eq_some_iff_getElem] at h
    obtain ⟨hk, h1, _⟩ := h
    have : (L.any fun r => decide (r.name = n)) = true := List.any_eq_true.2 ⟨L[k], List.getElem_mem hk, h1⟩
    simp [this]

def ruVal (N : ByteArray) (u : Value) : Value := .agg #[.string N, u]

theorem ret_b10 {x y : Bool} (h : x = y) : Ending.returned (.bool x) = .returned (.bool y) := by rw [h]
theorem str_beq10 (x y : ByteArray) : (x.toList == y.toList) = decide (x.data.toList = y.data.toList) := by
  rw [Lib.toList_data, Lib.toList_data, Bool.eq_iff_iff]; simp

set_option maxHeartbeats 400000 in
theorem isName10 (p : Nat) (M N : ByteArray) (a : Option Addr) (n c : Nat) (w : World) (hp : w.cell? ⟨p, 0, none⟩ = some (.string M)) :
    Calls Try.prog 49 #[.agg #[.string N, .slice a n c], .pointer (some ⟨p, 0, none⟩)] w fun e w' => e = .returned (.bool (decide (N.data.toList = M.data.toList))) ∧ Below w.heap.size w w' := by
  have hb := (Below.refl _ w).alloc (Nat.le_refl _) (.cells #[.string N, .slice a n c] 52)
  have hp2 := kept_cell hp hb
  have HB := hid hb
  have HE := hid (str_beq10 N M)
  clear hb
  go_enter Try.func49, Try.ntmps49
  go_wp2_with fail
  go_ret
  exact ⟨ret_b10 (by rw [← HE.out]), HB.out⟩

theorem enters_place10 : ∀ args w, (callFunc 49 args).run Try.prog w = .ok (.enter 49 args) w := enters_of Try.func49 (by kernel_rfl) rfl

set_option maxHeartbeats 4000000 in
theorem indexF10 (p : Nat) (M : ByteArray) (v : Value) (L : List Ru) (w : World) (hv : PoAt w v L) (hl : L.length ≤ 1000000) (hp : w.cell? ⟨p, 0, none⟩ = some (.string M)) :
    Calls Try.prog 48 #[v, .func (.func 49) #[] #[.pointer (some ⟨p, 0, none⟩)]] w fun e w' => e = .returned (.int .i64 (idxR L M.data.toList)) ∧ Below w.heap.size w w' := by
  obtain ⟨a1, c1, rfl, hc1, hm1, hv1⟩ := hv.view
  have HV := hid hv1
  have HP := hid hp
  obtain ⟨n, hn⟩ : ∃ n, n = L.length := ⟨_, rfl⟩
  have HN := hid hn
  rw [← hn] at hc1 hl ⊢
  have eg := enters_place10
  clear hv hv1 hn hp
  go_enter Try.func48, Try.ntmps48
  go_wp2_with fail
  go_loopw [8] (fun v8 wr => ∃ k : Nat, k ≤ n ∧ v8 = .int .i64 k ∧ Hid ((∀ j (h : j < L.length), j < k → L[j].name ≠ M.data.toList) ∧ Below w.heap.size w wr)) (fun v8 _ => n - (intOf v8).toNat)
  case atStart => exact ⟨0, Nat.zero_le _, rfl, fun j _ h => by omega, Below.refl _ w⟩
  case round =>
    obtain ⟨k, hk, rfl, HR⟩ := hrel
    by_cases hlt : k < n
    · have hkL : k < L.length := by have := HN.out; omega
      obtain ⟨b1, o1, u, rfl, e1, e2, e3⟩ := HV.out k hkL
      obtain ⟨ua, uc, rfl, q1, q2, q3⟩ := e3
      clear q1 q2 q3
      obtain ⟨N, hNx⟩ : ∃ V : ByteArray, V = ⟨L[k].name.toArray⟩ := ⟨_, rfl⟩
      obtain ⟨un, hun⟩ : ∃ un, un = L[k].vals.length := ⟨_, rfl⟩
      rw [← hNx] at e1
      rw [← hun] at e2
      have hNl : N.data.toList = L[k].name := by rw [hNx]
      have f1 := kept_cell e1 HR.out.2
      have f2 := kept_cell e2 HR.out.2
      have HCL := hid (isName10 p M N ua un uc wr (kept_cell HP.out HR.out.2))
      have HKL := hid hkL
      have HNL := hid (show ∃ h : k < L.length, N.data.toList = L[k].name from ⟨hkL, hNl⟩)
      obtain ⟨y, hy⟩ : ∃ y, y = decide (N.data.toList = M.data.toList) := ⟨_, rfl⟩
      have HY := hid hy
      rw [← hy] at HCL
      have hin : (k : Int) < (n : Int) := by omega
      clear e1 e2 hNx hNl hun hkL hy
      go_wp2_with fail
      refine HCL.out.mono ?_
      rintro e w2 ⟨rfl, hb2⟩
      have HB2 := hid (below2 HR.out.2 hb2)
      clear hb2
      cases y with
      | false =>
        go_wp2_with fail
        go_roundw
        case rel =>
          have e4 : (∀ j (h : j < L.length), j < k + 1 → L[j].name ≠ M.data.toList) ∧ Below w.heap.size w w2 := ⟨fun j h hj => by
            by_cases hjk : j = k
            · subst hjk
              obtain ⟨_, hnl⟩ := HNL.out
              rw [← hnl]
              have := HY.out
              simpa using this
            · exact HR.out.1 j h (by omega), HB2.out⟩
          first
            | exact ⟨k + 1, by omega, by go_num, e4⟩
            | ((repeat apply Exists.intro); refine ⟨?_, rfl⟩; exact ⟨k + 1, by omega, by go_num, e4⟩)
            | ((repeat apply Exists.intro); exact ⟨⟨k + 1, by omega, by go_num, e4⟩, rfl⟩)
        case measure => simp [intOf]; omega
      | true =>
        have HI := hid (show idxR L M.data.toList = (k : Int) by
          unfold idxR
          have : L.findIdx? (fun r => decide (r.name = M.data.toList)) = some k := by
            rw [List.findIdx?_eq_some_iff_getElem]
            refine ⟨HKL.out, ?_, fun j hj => ?_⟩
            · obtain ⟨_, hnl⟩ := HNL.out
              rw [← hnl]; have := HY.out; simpa using this
            · simpa using HR.out.1 j (by have := HKL.out; omega) hj
          rw [this])
        go_wp2_with fail
        go_ret
        rw [HI.out]
        exact ⟨rfl, HB2.out⟩
    · obtain rfl : k = n := by omega
      have HI := hid (show idxR L M.data.toList = -1 by
        unfold idxR
        have : L.findIdx? (fun r => decide (r.name = M.data.toList)) = none := by
          rw [List.findIdx?_eq_none_iff]
          intro r hr
          obtain ⟨j, hj, rfl⟩ := List.getElem_of_mem hr
          simpa using HR.out.1 j hj (by have := HN.out; omega)
        rw [this])
      have HB := hid HR.out.2
      clear HR hk hlt
      go_wp2_with fail
      go_ret
      rw [HI.out]
      exact ⟨rfl, HB.out⟩

set_option maxHeartbeats 1000000 in
theorem place10 (v : Value) (rp : Bool) (L : List Ru) (M : ByteArray) (w : World) (hv : PoAt w v L) (hl : L.length ≤ 1000000) :
    Calls Try.prog 33 #[.agg #[v, .bool rp], .string M] w fun e w' => e = .returned (.int .i64 (idxR L M.data.toList)) ∧ Below w.heap.size w w' := by
  obtain ⟨a1, c1, rfl, _, _, _⟩ := hv.view
  have hb1 := (Below.refl _ w).alloc (Nat.le_refl _) (.cells #[.slice a1 L.length c1, .bool rp] 33)
  have hb2 := below2 hb1 ((Below.refl _ _).alloc (Nat.le_refl _) (.cells #[.string M] 9))
  obtain ⟨n, hn⟩ : ∃ n, n = L.length := ⟨_, rfl⟩
  obtain ⟨X, hX⟩ : ∃ X, X = (w.alloc (.cells #[.slice a1 L.length c1, .bool rp] 33)).alloc (.cells #[.string M] 9) := ⟨_, rfl⟩
  have hc : X.cell? ⟨w.heap.size + 1, 0, none⟩ = some (.string M) := by rw [hX]; simp
  rw [← hX] at hb2
  have HI := hid (indexF10 (w.heap.size + 1) M (.slice a1 L.length c1) L X (hv.kept hb2) hl hc)
  have HB := hid hb2
  rw [hX, ← hn] at HI
  rw [hX, ← hn] at HB
  rw [← hn]
  clear hX hc hb1 hb2 hv hl hn
  go_enter Try.func33, Try.ntmps33
  go_wp2_with fail
  refine HI.out.mono ?_
  rintro e w2 ⟨rfl, hb2⟩
  have HB2 := hid (below2 HB.out hb2)
  clear hb2
  go_wp2_with fail
  go_ret
  exact ⟨rfl, HB2.out⟩

end Go.Proofs.Ytplabofdcnpcpaa
