/-
  The walks of ostiarylaw6's word, kinds, text and known, and of ostiarybook.Same over parameters.
  The walk of ostiarylaw6.known.
-/
import Derived.Test.YtplabofdcnpcpaaDoorZMk
import Derived.Test.YtplabofdcnpcpaaDoorZMn
import Derived.Test.YtplabofdcnpcpaaDoorZXd
import Derived.Test.YtplabofdcnpcpaaDoorZXg
import Derived.BigQuiet
import Derived.Deep.QuietTactic
set_option linter.unusedSimpArgs false
set_option linter.unusedVariables false
namespace Go.Proofs.YtplabofdcnpcpaaDoor
open Go.RowKit

theorem tx_new6 (w : World) (L : List (List UInt8)) (t : TypeId) (hl : L.length ≤ 1000) : TxAt (w.alloc (.cells (cellsT L).toArray t)) (.slice (some ⟨w.heap.size, 0, none⟩) L.length L.length) L := by
  refine tx_of (Nat.le_refl _) (by unfold maxLen; omega) fun j hj => ?_
  have hc : ∀ i, (w.alloc (.cells (cellsT L).toArray t)).cell? ⟨w.heap.size, i, none⟩ = (cellsT L)[i]? := fun i => by
    rw [Lib.cell_of_heap (heap_alloc_new w _)]; simp
  rw [Nat.zero_add, hc]
  simp [cellsT, hj]

theorem hd_ext6 {a b : Hd} (h1 : a.name = b.name) (h2 : a.value = b.value) : a = b := by cases a; cases b; simp at h1 h2; simp [h1, h2]

set_option maxHeartbeats 2000000 in
theorem same6_any (v1 v2 : Value) (L1 L2 : List Hd) (w : World) (h1 : HdAt w v1 L1) (h2 : HdAt w v2 L2) (hl1 : L1.length ≤ 1000000) (hl2 : L2.length ≤ 1000000) :
    Calls Tryd.prog 50 #[v1, v2] w fun e w' => e = .returned (.bool (decide (L1 = L2))) ∧ Below w.heap.size w w' := by
  obtain ⟨a1, c1, rfl, hc1, hm1, hv1⟩ := h1.view
  obtain ⟨a2, c2, rfl, hc2, hm2, hv2⟩ := h2.view
  have V1 := hid hv1
  have V2 := hid hv2
  clear h1 h2 hv1 hv2
  by_cases hl : L1.length = L2.length
  · have hl' : ((L1.length : Int) == (L2.length : Int)) = true := by rw [beq_iff_eq]; omega
    go_enter Tryd.func50, Tryd.ntmps50
    go_wp2
    go_loopw [5] (fun i wr => ∃ k : Nat, k ≤ L1.length ∧ i = .int .i64 k ∧ (∀ j (h1 : j < L1.length) (h2 : j < L2.length), j < k → L1[j] = L2[j]) ∧ Below w.heap.size w wr) (fun i _ => L1.length - (intOf i).toNat)
    case atStart => exact ⟨0, Nat.zero_le _, rfl, fun j _ _ h => absurd h (by omega), Below.refl _ _⟩
    case round =>
      obtain ⟨k, hk, rfl, hall, hb⟩ := hrel
      have HA := hid hall
      clear hall
      by_cases hlt : k < L1.length
      · have hlt' : (k : Int) < (L1.length : Int) := by omega
        have hlt2' : (k : Int) < (L2.length : Int) := by omega
        obtain ⟨b1, o1, rfl, e1, e1'⟩ := V1.out k hlt
        obtain ⟨b2, o2, rfl, e2, e2'⟩ := V2.out k (by omega)
        have f1 : wr.cell? ⟨b1, o1 + k * 2, none⟩ = some (.string ⟨L1[k].name.toArray⟩) := (hb.cell (World.block_lt_of_cell? w _ e1)).trans e1
        have f1' : wr.cell? ⟨b1, o1 + k * 2 + 1, none⟩ = some (.string ⟨L1[k].value.toArray⟩) := (hb.cell (World.block_lt_of_cell? w _ e1')).trans e1'
        have f2 : wr.cell? ⟨b2, o2 + k * 2, none⟩ = some (.string ⟨(L2[k]'(by omega)).name.toArray⟩) := (hb.cell (World.block_lt_of_cell? w _ e2)).trans e2
        have f2' : wr.cell? ⟨b2, o2 + k * 2 + 1, none⟩ = some (.string ⟨(L2[k]'(by omega)).value.toArray⟩) := (hb.cell (World.block_lt_of_cell? w _ e2')).trans e2'
        clear e1 e2 e1' e2'
        obtain ⟨x, hx⟩ : ∃ x, x = L1[k].name := ⟨_, rfl⟩
        obtain ⟨x', hx'⟩ : ∃ x, x = L1[k].value := ⟨_, rfl⟩
        obtain ⟨y, hy⟩ : ∃ y, y = (L2[k]'(by omega)).name := ⟨_, rfl⟩
        obtain ⟨y', hy'⟩ : ∃ y, y = (L2[k]'(by omega)).value := ⟨_, rfl⟩
        rw [← hx] at f1
        rw [← hx'] at f1'
        rw [← hy] at f2
        rw [← hy'] at f2'
        have HX := hid hx
        have HY := hid hy
        have HX' := hid hx'
        have HY' := hid hy'
        clear hx hy hx' hy'
        by_cases hxy : x = y ∧ x' = y'
        · obtain ⟨rfl, rfl⟩ := hxy
          go_wp2
          go_quiet (fail)
          go_wp2
          go_roundw
          case rel =>
            refine ⟨k + 1, by omega, by go_num, fun j h1 h2 hj => ?_, Go.below_drewN hb _⟩
            by_cases he : j = k
            · subst he; exact hd_ext6 (by rw [← HX.out, ← HY.out]) (by rw [← HX'.out, ← HY'.out])
            · exact HA.out j h1 h2 (by omega)
          case measure => simp [intOf]; omega
        · have HN := hid (show ¬ L1 = L2 from fun e => hxy ⟨by rw [HX.out, HY.out]; subst e; rfl, by rw [HX'.out, HY'.out]; subst e; rfl⟩)
          by_cases hx1 : x = y
          · subst hx1
            have hne : (x' == y') = false := by
              rw [beq_eq_false_iff_ne]
              exact fun e => hxy ⟨rfl, e⟩
            clear hxy
            go_wp2
            go_quiet (fail)
            go_wp2
            go_ret
            exact ⟨ret_bool (by simp [HN.out]), Go.below_drewN hb _⟩
          · have hne : (x == y) = false := by
              rw [beq_eq_false_iff_ne]
              exact hx1
            clear hxy hx1
            go_wp2
            go_quiet (fail)
            go_wp2
            go_ret
            exact ⟨ret_bool (by simp [HN.out]), Go.below_drewN hb _⟩
      · have HE := hid (show L1 = L2 from list_eq_of hl fun j h1 h2 => HA.out j h1 h2 (by omega))
        go_wp2
        go_ret
        exact ⟨ret_bool (by simp [HE.out]), hb⟩
  · have hl' : ((L1.length : Int) == (L2.length : Int)) = false := by rw [beq_eq_false_iff_ne]; omega
    have HN := hid (show ¬ L1 = L2 from fun e => hl (by rw [e]))
    go_enter Tryd.func50, Tryd.ntmps50
    go_wp2
    go_ret
    exact ⟨ret_bool (by simp [HN.out]), Below.refl _ _⟩

/-- Headers of kinds. -/
def ctN : List UInt8 := [67, 111, 110, 116, 101, 110, 116, 45, 84, 121, 112, 101]
def kindsH (P : List (List UInt8)) : List Hd := P.map fun x => ⟨ctN, x⟩

theorem kindsH_snoc (P : List (List UInt8)) (x : List UInt8) : kindsH (P ++ [x]) = kindsH P ++ [⟨ctN, x⟩] := by simp [kindsH]
theorem kindsH_len (P : List (List UInt8)) : (kindsH P).length = P.length := by simp [kindsH]

def KdPost (P : List (List UInt8)) (w : World) (e : Ending) (w' : World) : Prop :=
  ∃ v, e = .returned v ∧ w'.ownsRow w.heap.size 38 2 v (kindsH P).length (cellsH (kindsH P)) ∧ Below w.heap.size w w'

set_option maxHeartbeats 2000000 in
set_option maxRecDepth 100000 in
theorem kinds_any (v : Value) (P : List (List UInt8)) (w : World) (h : TxAt w v P) (hl : P.length ≤ 1000) :
    Calls Tryd.prog 21 #[v] w (KdPost P w) := by
  obtain ⟨i0, hi, hz0, hz1, hz2⟩ := info3 infoHd
  obtain ⟨x1, c1, rfl, hc1, hm1, hv1⟩ := h.view
  have V1 := hid hv1
  clear h hv1
  go_enter Tryd.func21, Tryd.ntmps21
  go_wp2
  go_loopw [3, 4] (fun v i wr => ∃ k : Nat, k ≤ P.length ∧ i = .int .i64 k ∧ wr.ownsRow w.heap.size 38 2 v (kindsH (P.take k)).length (cellsH (kindsH (P.take k))) ∧ Below w.heap.size w wr) (fun _ i _ => P.length - (intOf i).toNat)
  case atStart => exact ⟨0, Nat.zero_le _, rfl, World.ownsRow_nil _ _ _ _, Below.refl _ _⟩
  case round =>
    obtain ⟨k, hk, rfl, hown, hbw⟩ := hrel
    have HO := hid hown
    have HBw := hid hbw
    have hwr := hbw.size
    have hkl : (kindsH (P.take k)).length = k := by rw [kindsH_len, List.length_take]; omega
    have Hkl := hid hkl
    clear hown hbw hkl
    by_cases hlt : k < P.length
    · have hlt' : (k : Int) < (P.length : Int) := by omega
      obtain ⟨b1, o1, rfl, e1⟩ := V1.out k hlt
      have f1 : wr.cell? ⟨b1, o1 + k, none⟩ = some (.string ⟨P[k].toArray⟩) := (HBw.out.cell (World.block_lt_of_cell? w _ e1)).trans e1
      clear e1
      obtain ⟨X, hX⟩ : ∃ x : ByteArray, x = ⟨P[k].toArray⟩ := ⟨_, rfl⟩
      rw [← hX] at f1
      have HS := hid (show kindsH (P.take (k + 1)) = kindsH (P.take k) ++ [⟨ctN, X.data.toList⟩] by rw [List.take_succ_eq_append_getElem hlt, kindsH_snoc, hX])
      clear hX
      go_wp2_with (at_builtin; go_must (refine wpList_append_own _ rfl _ _ 22 rfl w.heap.size 38 i0 _ 2 32 Tryd.underlying22 hi hz0 hz1 hz2 rfl (by decide) _ _ _ rfl (HO.out.alloc _) ⟨wr.heap.size, 0, none⟩ 1 1 [.string ⟨#[67, 111, 110, 116, 101, 110, 116, 45, 84, 121, 112, 101]⟩, .string X] rfl rfl ?c1 ?c2 ?c3 ?c4 ?c5 ?_))
      case c1 =>
        intro q u hq
        match q, hq with
        | 0, hq => simp at hq; subst hq; simp [Addr.add]
        | 1, hq => simp at hq; subst hq; simp [Addr.add]
      case c2 => intro u hu; simp at hu; rcases hu with rfl | rfl <;> rfl
      case c3 => rw [Hkl.out]; unfold maxLen; omega
      case c4 => rw [Hkl.out]; omega
      case c5 => simp; omega
      intro v' w2 hown' hgrow hnil
      have HO2 := hid hown'
      have HB2 := hid (show Below w.heap.size w w2 from (HBw.out.alloc hwr _).grown hgrow (by simp; omega) (fun g hg => (HO.out.lt g hg).1))
      clear hown' hgrow hnil
      go_wp2
      go_roundw
      case rel =>
        refine ⟨k + 1, by omega, by go_num, ?_, HB2.out⟩
        rw [HS.out, cellsH_app, List.length_append, cellsH_one]
        have e1 : (⟨X.data.toList.toArray⟩ : ByteArray) = X := (xself X).symm
        rw [e1]
        exact HO2.out
      case measure => simp [intOf]; omega
    · have hke : k = P.length := by omega
      subst hke
      have HT := hid (show kindsH (P.take P.length) = kindsH P by rw [List.take_length])
      go_wp2
      go_ret
      refine ⟨_, rfl, ?_, HBw.out⟩
      rw [← HT.out]
      exact HO.out

/-- What a text is parsed to, written. -/
def texV (s : List UInt8) : List UInt8 := if knOk s then txtV (knV s) else []

theorem prmN_small (n : Nat) : ∀ (f : Nat) (out : List Hd) (l : List UInt8), l.length ≤ n → (∀ p ∈ out, p.name.length ≤ n ∧ p.value.length ≤ n) → ∀ p ∈ prmN f out l, p.name.length ≤ n ∧ p.value.length ≤ n := by
  intro f
  induction f with
  | zero => intro out l _ h; exact h
  | succ f ih =>
    intro out l hl h
    rw [prmN]
    split
    · have h1 := parR_le (l.drop 1)
      have h2 := parN_le (l.drop 1)
      have h3 := parV_le (l.drop 1)
      rw [List.length_drop] at h1 h2 h3
      refine ih _ _ (by omega) ?_
      intro p hp
      unfold mstepP at hp
      split at hp
      · rcases List.mem_append.1 hp with hp | hp
        · exact h p hp
        · obtain rfl := List.mem_singleton.1 hp
          exact ⟨by show (parN _).length ≤ n; omega, by show (parV _).length ≤ n; omega⟩
      · exact h p hp
    · exact h

theorem flat_len (n : Nat) (ps : List Hd) (h : ∀ p ∈ ps, p.name.length ≤ n ∧ p.value.length ≤ n) : (ps.flatMap prmT).length ≤ ps.length * (3 * n + 4) := by
  induction ps with
  | nil => simp
  | cons p ps ih =>
    rw [List.flatMap_cons, List.length_append, List.length_cons, Nat.succ_mul]
    have h1 := ih fun q hq => h q (by simp [hq])
    have h2 := h p (by simp)
    have h3 := wrt_len p.value
    have : (prmT p).length ≤ 3 * n + 4 := by unfold prmT; rw [List.length_cons, List.length_append, List.length_cons]; omega
    omega

theorem txt_small (s : List UInt8) (h : s.length ≤ 10000) : (txtV (knV s)).length ≤ 400000000 := by
  have h1 := kn_len s
  have h2 : ∀ p ∈ (knV s).params, p.name.length ≤ s.length ∧ p.value.length ≤ s.length := by
    unfold knV
    split
    · have h3 := tB_le s
      have h4 := cut6_le (tB s) 47
      have h5 := upR_le [59] (bhn s)
      refine prmN_small _ _ _ _ ?_ (by simp)
      unfold bhn at *; omega
    · simp [knNone]
  have h3 := flat_len _ _ h2
  have h4 : (knV s).params.length * (3 * s.length + 4) ≤ 10000 * 30004 := Nat.mul_le_mul (by omega) (by omega)
  simp only [txtV, essV, List.length_append, List.length_cons]
  omega

set_option maxHeartbeats 1000000 in
set_option maxRecDepth 100000 in
theorem tex_any (s : ByteArray) (w : World) (hG : G5 w) (hs : s.size ≤ 10000) :
    Calls Tryd.prog 52 #[.string s] w fun e w' => e = .returned (.string (ba (texV s.data.toList))) ∧ Below w.heap.size w w' := by
  have HG := hid hG
  clear hG
  have hln := txt_small s.data.toList (by rw [← Lib.size_eq]; exact hs)
  have HP := hid (parse6_any s w HG.out (by omega))
  unfold KnPost at HP
  obtain ⟨ok, hok⟩ : ∃ ok, knOk s.data.toList = ok := ⟨_, rfl⟩
  have HV := hid (show texV s.data.toList = if ok then txtV (knV s.data.toList) else [] by unfold texV; rw [hok])
  rw [hok] at HP
  generalize hK : knV s.data.toList = t at *
  obtain ⟨tj, tn, tps⟩ := t
  simp only at HP
  obtain ⟨A, hA⟩ : ∃ A, ba tj = A := ⟨_, rfl⟩
  obtain ⟨M, hM⟩ : ∃ M, ba tn = M := ⟨_, rfl⟩
  have hAl : tj = A.data.toList := by rw [← hA]; rfl
  have hMl : tn = M.data.toList := by rw [← hM]; rfl
  rw [hA, hM] at HP
  subst hAl hMl
  clear hA hM hK hok
  go_enter Tryd.func52, Tryd.ntmps52
  go_wp2_with fail
  refine HP.out.mono ?_
  rintro e w1 ⟨v, rfl, ho1, hb1⟩
  obtain ⟨q1, q2, q3, rfl⟩ := own_slice ho1
  have hT := show Tri (w1.alloc (.cells #[.string A, .string M, .slice q1 q2 q3] 53)) w1.heap.size A M (.slice q1 q2 q3) from heap_alloc_new _ _
  have HBa := hid (hb1.alloc hb1.size (.cells #[.string A, .string M, .slice q1 q2 q3] 53))
  have HTx := hid (mtext_any A M (.slice q1 q2 q3) tps (w1.alloc (.cells #[.string A, .string M, .slice q1 q2 q3] 53)) (HG.out.kept HBa.out) ((own_hd ho1).kept ((Below.refl _ w1).alloc (Nat.le_refl _) _)) hln)
  obtain ⟨x0, x1, x2⟩ := hT.cells
  clear hT ho1 hb1 hln
  unfold knVal at HTx ⊢
  cases ok with
  | false =>
    have HN := hid (show texV s.data.toList = [] by rw [HV.out]; rfl)
    go_wp2
    go_ret
    rw [HN.out]
    exact ⟨rfl, HBa.out⟩
  | true =>
    have HN := hid (show texV s.data.toList = txtV ⟨A.data.toList, M.data.toList, tps⟩ by rw [HV.out]; rfl)
    go_wp2_with fail
    refine HTx.out.mono ?_
    rintro e w2 ⟨rfl, hb2⟩
    go_wp2
    go_ret
    rw [HN.out]
    exact ⟨rfl, belowT HBa.out hb2⟩

end Go.Proofs.YtplabofdcnpcpaaDoor

namespace Go.Proofs.YtplabofdcnpcpaaDoor
open Go.RowKit

def ctL : List UInt8 := [99, 111, 110, 116, 101, 110, 116, 45, 116, 121, 112, 101]
/-- What a list of kinds tells. -/
def exV (P : List (List UInt8)) : Kn × Bool := extMv (pcsV (kindsH P) ctL)

theorem kinds_szd (P : List (List UInt8)) (h : ∀ p ∈ P, p.length ≤ 100000) : Szd 140737488351232 (kindsH P) := by
  intro x hx
  obtain ⟨p, hp, rfl⟩ := List.mem_map.1 hx
  have := h p hp
  exact ⟨by show ctN.length ≤ _; decide, by show p.length ≤ _; omega⟩

theorem kinds_bulk (P : List (List UInt8)) (h : ∀ p ∈ P, p.length ≤ 100000) : bulkV (kindsH P) ≤ P.length * 100002 := by
  unfold bulkV
  induction P with
  | nil => simp [kindsH]
  | cons p P ih =>
    have h1 := ih fun q hq => h q (by simp [hq])
    have h2 := h p (by simp)
    simp only [kindsH, List.map_cons, List.sum_cons, List.length_cons, Nat.succ_mul] at h1 ⊢
    omega

theorem exk_any {B : Nat} (v : Value) (P : List (List UInt8)) (w : World) (hG : G5 w) (ho : w.ownsRow B 38 2 v (kindsH P).length (cellsH (kindsH P))) (h : ∀ p ∈ P, p.length ≤ 100000) (hl : P.length ≤ 100) :
    Calls Tryd.prog 20 #[v] w (ExPost (exV P) w) :=
  extract_any v (kindsH P) w hG (own_hd ho) (kinds_szd P h) (by rw [kindsH_len]; omega) (by have := kinds_bulk P h; omega)

def knP : List (List UInt8) := [[116, 101, 120, 116, 47, 97, 59, 99, 104, 97, 114, 115, 101, 116, 61, 120], [116, 101, 120, 116, 47, 97]]
def knT : Kn := ⟨[116, 101, 120, 116], [97], [⟨[99, 104, 97, 114, 115, 101, 116], [120]⟩]⟩
theorem knP_ex : exV knP = (knT, true) := by decide +kernel
theorem kn_t1 : texV [84, 101, 120, 116, 47, 72, 84, 77, 76, 32, 59, 32, 67, 104, 97, 114, 115, 101, 116, 61, 34, 97, 92, 34, 98, 34, 32, 59, 120] = [116, 101, 120, 116, 47, 104, 116, 109, 108, 59, 99, 104, 97, 114, 115, 101, 116, 61, 34, 97, 92, 34, 98, 34] := by decide +kernel
theorem kn_t2 : texV [97, 47] = [] := by decide +kernel
theorem knT_txt : txtV knT = [116, 101, 120, 116, 47, 97, 59, 99, 104, 97, 114, 115, 101, 116, 61, 120] := by decide +kernel

set_option maxHeartbeats 2000000 in
set_option maxRecDepth 100000 in
theorem known6_any (w : World) (hG : G5 w) : Calls Tryd.prog 25 #[] w fun e w' => e = .returned (.bool true) ∧ Below w.heap.size w w' := by
  have HG := hid hG
  clear hG
  have HTx := hid (tx_new6 w knP 9 (by decide))
  have HB0 := hid (show Below w.heap.size w (w.alloc (.cells (cellsT knP).toArray 9)) from (Below.refl _ w).alloc (Nat.le_refl _) _)
  have HK := hid (kinds_any _ knP _ HTx.out (by decide))
  go_enter Tryd.func25, Tryd.ntmps25
  go_wp2_with fail
  refine HK.out.mono ?_
  rintro e w1 ⟨v1, rfl, ho1, hb1⟩
  have HB1 := hid (belowT HB0.out hb1)
  have HO1 := hid ho1
  obtain ⟨a1, a2, a3, rfl⟩ := own_slice ho1
  clear ho1 hb1
  go_wp2_with fail
  refine (exk_any _ knP _ (HG.out.kept HB1.out) HO1.out (by decide) (by decide)).mono ?_
  rintro e w2 ⟨v2, rfl, ho2, hb2⟩
  rw [knP_ex] at ho2 ⊢
  obtain ⟨q1, q2, q3, rfl⟩ := own_slice ho2
  have HB2 := hid (belowT HB1.out hb2)
  have HBa := hid (HB2.out.alloc HB2.out.size (.cells #[.string (ba knT.major), .string (ba knT.minor), .slice q1 q2 q3] 53))
  have HT := hid (show Tri (w2.alloc (.cells #[.string (ba knT.major), .string (ba knT.minor), .slice q1 q2 q3] 53)) w2.heap.size (ba knT.major) (ba knT.minor) (.slice q1 q2 q3) from heap_alloc_new _ _)
  have HH := hid ((own_hd ho2).kept ((Below.refl _ w2).alloc (Nat.le_refl _) (.cells #[.string (ba knT.major), .string (ba knT.minor), .slice q1 q2 q3] 53)))
  clear ho2 hb2
  unfold knVal
  go_wp2_with fail
  generalize (w2.alloc (.cells #[.string (ba knT.major), .string (ba knT.minor), .slice q1 q2 q3] 53)) = X at *
  refine (tex_any _ _ (HG.out.kept HBa.out) (by decide)).mono ?_
  rintro e w3 ⟨rfl, hb3⟩
  have HB3 := hid (belowT HBa.out hb3)
  have HT3 := hid (HT.out.kept hb3)
  have HH3 := hid (HH.out.kept hb3)
  obtain ⟨x0, x1, x2⟩ := HT3.out.cells
  clear hb3
  rw [show (⟨#[84, 101, 120, 116, 47, 72, 84, 77, 76, 32, 59, 32, 67, 104, 97, 114, 115, 101, 116, 61, 34, 97, 92, 34, 98, 34, 32, 59, 120]⟩ : ByteArray).data.toList = [84, 101, 120, 116, 47, 72, 84, 77, 76, 32, 59, 32, 67, 104, 97, 114, 115, 101, 116, 61, 34, 97, 92, 34, 98, 34, 32, 59, 120] from rfl, kn_t1]
  unfold ba
  go_wp2_with fail
  refine (mtext_any (ba knT.major) (ba knT.minor) (.slice q1 q2 q3) knT.params w3 (HG.out.kept HB3.out) HH3.out (show (txtV knT).length ≤ 400000000 by decide +kernel)).mono ?_
  rintro e w4 ⟨rfl, hb4⟩
  have HB4 := hid (belowT HB3.out hb4)
  rw [show txtV ⟨(ba knT.major).data.toList, (ba knT.minor).data.toList, knT.params⟩ = [116, 101, 120, 116, 47, 97, 59, 99, 104, 97, 114, 115, 101, 116, 61, 120] from knT_txt]
  clear hb4
  unfold ba
  go_wp2_with fail
  refine (tex_any _ _ (HG.out.kept HB4.out) (by decide)).mono ?_
  rintro e w5 ⟨rfl, hb5⟩
  rw [show (⟨#[97, 47]⟩ : ByteArray).data.toList = [97, 47] from rfl, kn_t2]
  unfold ba
  go_wp2
  go_ret
  exact ⟨rfl, belowT HB4.out hb5⟩

end Go.Proofs.YtplabofdcnpcpaaDoor
