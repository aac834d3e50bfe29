/-
  The walk of policy's Text.
-/
import Derived.Test.YtplabofdcnpcpaaZAg
import Derived.Test.YtplabofdcnpcpaaZGb
import Derived.Lib.AppendStr
import Derived.Lib.OthersKept
import Derived.Lib.AppendIntMem
set_option linter.unusedSimpArgs false
set_option linter.unusedVariables false
namespace Go.Proofs.Ytplabofdcnpcpaa
open Go.RowKit

set_option maxHeartbeats 2000000 in
set_option maxRecDepth 100000 in
theorem wstr10 (B b : Nat) (bs : List Value) (s : ByteArray) (w : World) (h : Lib.IsBuilderF 72 5 B b bs w) (hlen : bs.length + s.size ≤ 140737488355328) (hBw : B ≤ w.heap.size) :
    Calls Try.prog 34 #[.pointer (some ⟨b, 0, none⟩), .string s] w fun e w' => e = .returned (.tuple #[.int .i64 s.size, .nilIface]) ∧ (Lib.BuilderAtF 72 5 B b (.pointer (some ⟨b, 0, none⟩)) (bs ++ Lib.strCells s) w' ∧ Below B w w' ∧ Lib.OthersKept 5 (some b) w w') := by
  obtain ⟨i0, hi, hz0, hz1, hz2⟩ := info_parts infoByte
  go_enter Try.func34, Try.ntmps34
  go_wp2_with (go_at_call 50; refine (copyCheck_k B b bs _ h).mono ?_)
  rintro e w1 ⟨rfl, h1, hb1, hk1⟩
  obtain ⟨hB, v, hbk, hown, hne⟩ := h1
  have c0 : w1.cell? ⟨b, 0, none⟩ = some (.pointer (some ⟨b, 0, none⟩)) := by rw [Lib.cell_of_heap hbk]; rfl
  have c1 : w1.cell? ⟨b, 1, none⟩ = some v := by rw [Lib.cell_of_heap hbk]; rfl
  go_wp2_with (at_builtin; refine Lib.wpList_append_own_stringF _ rfl _ _ 70 9 rfl B 5 i0 Try.underlying70 Try.underlying9 hi hz0 hz1 hz2 _ _ _ rfl hown s rfl ?c3 ?c4 ?c5 ?_)
  case c3 => unfold maxLen; omega
  case c4 => omega
  case c5 => have := hb1.size; omega
  intro v' w2 hown' hgrow _
  have hlt : b < w1.heap.size := by
    rcases Nat.lt_or_ge b w1.heap.size with h' | h'
    · exact h'
    · simp [Array.getElem?_eq_none h'] at hbk
  have hb2 : w2.heap[b]? = some (.cells #[.pointer (some ⟨b, 0, none⟩), v] 72 (0, 0)) := by
    rw [hgrow.block b hlt (fun e => hne e.symm)]
    exact hbk
  have d0 : w2.cell? ⟨b, 0, none⟩ = some (.pointer (some ⟨b, 0, none⟩)) := by rw [Lib.cell_of_heap hb2]; rfl
  have d1 : w2.cell? ⟨b, 1, none⟩ = some v := by rw [Lib.cell_of_heap hb2]; rfl
  have f1 : w2.frozen? ⟨b, 1, none⟩ = false := Lib.frozen_of_heap hb2 1
  obtain ⟨ao, n', cap, rfl⟩ : ∃ ao n' cap, v' = .slice ao n' cap := by
    rcases hown'.2 with ⟨hv, _⟩ | ⟨g, cap, cur, fz, hv, _⟩
    · exact ⟨_, _, _, hv⟩
    · exact ⟨_, _, _, hv⟩
  go_wp2
  go_ret2
  refine ⟨rfl, ?_, ?_, (hk1.grown hgrow (Lib.ownsRowF_kind hown)).setCell ⟨b, 1, none⟩ rfl _⟩
  · exact Lib.BuilderAtF.put (T := 72) (e := 5) hB hb2 (bs' := bs ++ Lib.strCells s) (by simpa [Lib.strCells_length] using hown') (by decide)
  · exact (hb1.grown hgrow (by have := hb1.size; omega) (fun k hk => (hown.lt k hk).1)).setCell (p := ⟨b, 1, none⟩) hB _

/-- A Builder in the block behind the first new one, with these bytes. -/
def BLD (w W : World) (l : List UInt8) : Prop := Lib.IsBuilderF 72 5 (w.heap.size + 1) (w.heap.size + 1) (Lib.byteCells l) W ∧ Below w.heap.size w W ∧ w.heap.size + 2 ≤ W.heap.size

theorem BLD.below {w W W' : World} {l : List UInt8} (h : BLD w W l) (hb : Below W.heap.size W W') : BLD w W' l := by
  obtain ⟨h1, h2, h3⟩ := h
  have hk : ∀ {p : Value}, Lib.BuilderAtF 72 5 (w.heap.size + 1) (w.heap.size + 1) p (Lib.byteCells l) W → Lib.BuilderAtF 72 5 (w.heap.size + 1) (w.heap.size + 1) p (Lib.byteCells l) W' := by
    intro p h
    have hlt := h.lt
    obtain ⟨hB, v, hv, hown, hne⟩ := h
    exact ⟨hB, v, (hb.block _ hlt).trans hv, hown.kept (row := none) ⟨hb.os, hb.tape, hb.output, hb.size, fun k hk _ => hb.block k hk⟩ (Classical.em _), hne⟩
  exact ⟨h1.elim (fun x => .inl (hk x)) (fun x => .inr (hk x)), below2 h2 hb, Nat.le_trans h3 hb.size⟩

theorem wstr_b (w W : World) (l : List UInt8) (s : ByteArray) (h : BLD w W l) (hl : l.length + s.size ≤ 100000000) :
    Calls Try.prog 34 #[.pointer (some ⟨w.heap.size + 1, 0, none⟩), .string s] W fun e w' => e = .returned (.tuple #[.int .i64 s.size, .nilIface]) ∧ BLD w w' (l ++ s.data.toList) ∧ Lib.OthersKept 5 (some (w.heap.size + 1)) W w' := by
  refine (wstr10 (w.heap.size + 1) (w.heap.size + 1) _ s W h.1 (by rw [Lib.byteCells_length]; omega) (by have := h.2.2; omega)).mono ?_
  rintro e w' ⟨rfl, h1, h2, h3⟩
  refine ⟨rfl, ⟨?_, h.2.1.trans (h2.mono (by omega)), Nat.le_trans h.2.2 h2.size⟩, h3⟩
  rw [Lib.byteCells_append, show Lib.byteCells s.data.toList = Lib.strCells s by rw [← Lib.strCells_toArray, Lib.mk_data]]
  exact .inr h1

theorem wbyt_b (w W : World) (l : List UInt8) (c : UInt8) (h : BLD w W l) (hl : l.length + 1 ≤ 100000000) :
    Calls Try.prog 35 #[.pointer (some ⟨w.heap.size + 1, 0, none⟩), .int .u8 (c.toNat : Int)] W fun e w' => e = .returned .nilIface ∧ BLD w w' (l ++ [c]) ∧ Lib.OthersKept 5 (some (w.heap.size + 1)) W w' := by
  refine (writeByte_k (w.heap.size + 1) (w.heap.size + 1) _ (c.toNat : Int) W h.1 (by rw [Lib.byteCells_length]; omega) (by have := h.2.2; omega)).mono ?_
  rintro e w' ⟨rfl, h1, h2, h3⟩
  refine ⟨rfl, ⟨?_, h.2.1.trans (h2.mono (by omega)), Nat.le_trans h.2.2 h2.size⟩, h3⟩
  rw [Lib.byteCells_append]
  exact .inr h1

theorem txP_snoc : ∀ (L : List Ru) (r : Ru), txP (L ++ [r]) = txP L ++ (if L = [] then [] else [59, 32]) ++ txR r
  | [], r => by simp [txP]
  | [q], r => by simp [txP]
  | q :: p :: t, r => by
    have ih := txP_snoc (p :: t) r
    show txR q ++ 59 :: 32 :: txP (p :: (t ++ [r])) = (txR q ++ 59 :: 32 :: txP (p :: t)) ++ _ ++ _
    rw [show p :: (t ++ [r]) = (p :: t) ++ [r] from rfl, ih]
    simp

theorem bulk_take (L : List Ru) (k : Nat) : bulkP (L.take k) ≤ bulkP L := by
  have h : bulkP L = bulkP (L.take k) + bulkP (L.drop k) := by
    unfold bulkP
    rw [← List.sum_append, ← List.map_append, List.take_append_drop]
  omega

theorem bulk_mem (L : List Ru) (k : Nat) (h : k < L.length) : (txR L[k]).length + 2 ≤ bulkP L := by
  have h1 := bulk_take L (k + 1)
  rw [List.take_succ_eq_append_getElem h] at h1
  unfold bulkP at h1 ⊢
  rw [List.map_append, List.sum_append] at h1
  simp at h1
  omega

theorem vals_take (vs : List (List UInt8)) (j : Nat) : ((vs.take j).flatMap fun v => (32 : UInt8) :: v).length ≤ (vs.flatMap fun v => (32 : UInt8) :: v).length := by
  have h : vs.flatMap (fun v => (32 : UInt8) :: v) = (vs.take j).flatMap (fun v => 32 :: v) ++ (vs.drop j).flatMap (fun v => 32 :: v) := by rw [← List.flatMap_append, List.take_append_drop]
  rw [h, List.length_append]
  omega

theorem vals_many (vs : List (List UInt8)) : vs.length ≤ (vs.flatMap fun v => (32 : UInt8) :: v).length := by
  induction vs with
  | nil => simp
  | cons v t ih => rw [List.flatMap_cons, List.length_append, List.length_cons, List.length_cons]; omega

set_option maxHeartbeats 8000000 in
set_option maxRecDepth 100000 in
theorem text10 (v : Value) (rp : Bool) (L : List Ru) (w : World) (hv : PoAt w v L) (hl : L.length ≤ 1000) (hbk : bulkP L ≤ 1000000) :
    Calls Try.prog 15 #[.agg #[v, .bool rp]] w fun e w' => e = .returned (.string ⟨(txP L).toArray⟩) ∧ Below w.heap.size w w' := by
  obtain ⟨a1, c1, rfl, hc1, hm1, _⟩ := hv.view
  obtain ⟨n, hn⟩ : ∃ n, n = L.length := ⟨_, rfl⟩
  have HN := hid hn
  have HV := hid hv
  have HBK := hid hbk
  rw [← hn] at hl hc1 HV ⊢
  have HB0 := hid (show BLD w ((w.alloc (.cells #[.slice a1 n c1, .bool rp] 33)).alloc (.cells #[.pointer none, .slice none 0 0] 72)) (txP (L.take 0)) from by
    refine ⟨?_, ((Below.refl _ w).alloc (Nat.le_refl _) _).alloc (by simp) _, by simp⟩
    have := Lib.IsBuilderF.of (Lib.fresh_isBuilder 72 5 (w.alloc (.cells #[.slice a1 n c1, .bool rp] 33)))
    rw [World.size_alloc] at this
    exact this)
  clear hn hv hbk
  go_enter Try.func15, Try.ntmps15
  go_wp2_with fail
  go_loopw [11] (fun v11 wr => ∃ k : Nat, k ≤ n ∧ v11 = .int .i64 k ∧ Hid (BLD w wr (txP (L.take k)))) (fun v11 _ => n - (intOf v11).toNat)
  case atStart => exact ⟨0, Nat.zero_le _, rfl, HB0.out⟩
  case round =>
    clear HB0
    obtain ⟨k, hk, rfl, HR⟩ := hrel
    by_cases hlt : k < n
    · have hkL : k < L.length := by have := HN.out; omega
      obtain ⟨a', c', ea, q3, q4, hvw⟩ := HV.out.view
      injection ea with ea1 ea2 ea3
      clear ea2 ea3 q3 q4
      subst ea1
      obtain ⟨b, off, u, rfl, hnm, hu, htx⟩ := hvw k hkL
      obtain ⟨VS, hVS⟩ : ∃ VS, VS = L[k].vals := ⟨_, rfl⟩
      rw [← hVS] at htx
      have HTX := hid htx
      obtain ⟨ua, uc, rfl, q5⟩ := htx
      obtain ⟨un, hun⟩ : ∃ un, un = VS.length := ⟨_, rfl⟩
      have HUN := hid hun
      rw [← hun] at hu HTX
      obtain ⟨N, hN⟩ : ∃ N : ByteArray, N = ⟨L[k].name.toArray⟩ := ⟨_, rfl⟩
      rw [← hN] at hnm
      have f0 := (HR.out.2.1.cell (World.block_lt_of_cell? w _ hnm)).trans hnm
      have f1 := (HR.out.2.1.cell (World.block_lt_of_cell? w _ hu)).trans hu
      have htr : txR L[k] = N.data.toList ++ VS.flatMap fun v => 32 :: v := by unfold txR; rw [hN, hVS]
      have hbm := bulk_mem L k hkL
      rw [htr, List.length_append, ← Lib.size_eq] at hbm
      have HNZ := hid (show N.size ≤ 1000000 by have := HBK.out; omega)
      have HVB := hid (fun j => (show ((VS.take j).flatMap fun v => (32 : UInt8) :: v).length ≤ 1000000 by have := vals_take VS j; have := HBK.out; omega))
      have hunb : un ≤ 1000000 := by have := vals_many VS; have := HBK.out; omega
      have HTK := hid (show (txP (L.take k)).length ≤ 1000000 by have := txP_len (L.take k); have := bulk_take L k; have := HBK.out; omega)
      have HSN0 := hid (show txP (L.take (k + 1)) = txP (L.take k) ++ (if k = 0 then [] else [59, 32]) ++ (N.data.toList ++ VS.flatMap fun v => 32 :: v) by
        rw [List.take_succ_eq_append_getElem hkL, txP_snoc, ← htr]
        congr 2
        by_cases hk0 : k = 0
        · subst hk0; simp
        · have : L.take k ≠ [] := by intro e; have h7 := congrArg List.length e; rw [List.length_take, List.length_nil] at h7; omega
          rw [if_neg this, if_neg hk0])
      have hin : (k : Int) < (n : Int) := by omega
      have hb1 := (Below.refl _ wr).alloc (Nat.le_refl _) (.cells #[.string N, .slice ua un uc] 52)
      have HS1 := hid (show BLD w (wr.alloc (.cells #[.string N, .slice ua un uc] 52)) (txP (L.take k)) ∧ TwR (wr.alloc (.cells #[.string N, .slice ua un uc] 52)) wr.heap.size N (.slice ua un uc) from ⟨HR.out.below hb1, heap_alloc_new wr _⟩)
      have hws : w.heap.size + 2 ≤ wr.heap.size := HR.out.2.2
      clear hvw q5 hnm hu hun hVS hN htr hbm hb1 hkL
      by_cases hk0 : k = 0
      · obtain ⟨PK, hPK⟩ : ∃ PK, PK = txP (L.take k) := ⟨_, rfl⟩
        have HPL := hid (show PK.length ≤ 1000002 by rw [hPK]; have := HTK.out; omega)
        have HSN := hid (show txP (L.take (k + 1)) = PK ++ N.data.toList ++ VS.flatMap fun v => 32 :: v by rw [HSN0.out, if_pos hk0, hPK]; simp)
        rw [← hPK] at HS1
        have hk0' : ¬ ((0 : Int) < (k : Int)) := by omega
        have hk0n : ¬ (0 < k) := by omega
        clear hPK HSN0 HTK hk0
        go_wp2_with fail
        generalize wr.alloc (.cells #[.string N, .slice ua un uc] 52) = W2 at *
        have HS2 := HS1
        clear HS1 f0 f1
        have HNM := hid (wstr_b w W2 _ N HS2.out.1 (by have := HPL.out; have := HNZ.out; omega))
        obtain ⟨r0, r1, _, _⟩ := TwR.cells HS2.out.2
        go_wp2_with fail
        refine HNM.out.mono ?_
        rintro e w3 ⟨rfl, hb3, hk3⟩
        have HB3 := hid hb3
        have HR3 := hid (show TwR w3 wr.heap.size N (.slice ua un uc) from hk3 _ _ HS2.out.2 (by simp; omega) (by intro c fz h; injection h with _ h _; exact absurd h (by decide)))
        obtain ⟨s0, s1, _, _⟩ := TwR.cells HR3.out
        clear hb3 hk3 HNM r0 r1
        go_wp2_with fail
        clear s0 s1
        go_loopw [25] (fun v25 wq => ∃ j : Nat, j ≤ un ∧ v25 = .int .i64 j ∧ Hid (BLD w wq (PK ++ N.data.toList ++ (VS.take j).flatMap (fun v => 32 :: v)))) (fun v25 _ => un - (intOf v25).toNat)
        case atStart => exact ⟨0, Nat.zero_le _, rfl, (show BLD w w3 (PK ++ N.data.toList ++ (VS.take 0).flatMap (fun v => 32 :: v)) by simpa using HB3.out)⟩
        case round =>
          obtain ⟨j, hj, rfl, HJ⟩ := hrel
          have HLJ := hid (HVB.out j)
          by_cases hjl : j < un
          · have hjV : j < VS.length := by have := HUN.out; omega
            obtain ⟨ua', uc', eu, q1, q2, hcell⟩ := HTX.out.view
            injection eu with eu1 eu2 eu3
            clear eu2 eu3 q1 q2
            subst eu1
            obtain ⟨bv, ov, rfl, hcv⟩ := hcell j hjV
            obtain ⟨X, hX⟩ : ∃ X : ByteArray, X = ⟨VS[j].toArray⟩ := ⟨_, rfl⟩
            rw [← hX] at hcv
            have cX := (HJ.out.2.1.cell (World.block_lt_of_cell? w _ hcv)).trans hcv
            have HXL := hid (show (VS.take (j + 1)).flatMap (fun v => 32 :: v) = (VS.take j).flatMap (fun v => 32 :: v) ++ [32] ++ X.data.toList by
              rw [List.take_succ_eq_append_getElem hjV, List.flatMap_append, hX]; simp)
            have HXS := hid (show X.size ≤ 1000000 by
              have h1 := HVB.out (j + 1)
              rw [HXL.out] at h1
              rw [Lib.size_eq]
              simp only [List.length_append] at h1
              omega)
            have HWB := hid (wbyt_b w wr _ 32 HJ.out (by have := HPL.out; have := HNZ.out; have := HLJ.out; simp only [List.length_append, ← Lib.size_eq]; omega))
            have hin : (j : Int) < (un : Int) := by omega
            clear hcell hjV hX hcv
            go_wp2_with fail
            refine HWB.out.mono ?_
            rintro e w5 ⟨rfl, hb5, hk5⟩
            have HWS := hid (wstr_b w w5 _ X hb5 (by have := HPL.out; have := HNZ.out; have := HLJ.out; have := HXS.out; simp only [List.length_append, List.length_cons, List.length_nil, ← Lib.size_eq]; omega))
            clear hb5 hk5 HWB cX
            go_wp2_with fail
            refine HWS.out.mono ?_
            rintro e w6 ⟨rfl, hb6, hk6⟩
            have HB6 := hid (show BLD w w6 (PK ++ N.data.toList ++ (VS.take (j + 1)).flatMap (fun v => 32 :: v)) by
              rw [HXL.out]
              have := hb6
              simpa [List.append_assoc] using this)
            clear hb6 hk6 HWS
            go_wp2_with fail
            go_roundw
            case rel =>
              exact ⟨j + 1, by omega, by go_num, HB6.out⟩
            case measure => simp [intOf]; omega
          · obtain rfl : j = un := by omega
            have HF := hid (show BLD w wr (txP (L.take (k + 1))) by
              rw [HSN.out]
              have h := HJ.out
              rw [List.take_of_length_le (by have := HUN.out; omega)] at h
              exact h)
            have hng : ¬ ((j : Int) < (j : Int)) := by omega
            clear hj hjl HJ HLJ
            go_wp2_with fail
            go_roundw
            case rel =>
              first
                | exact ⟨k + 1, by omega, by go_num, HF.out⟩
                | ((repeat apply Exists.intro); refine ⟨?_, rfl⟩; exact ⟨k + 1, by omega, by go_num, HF.out⟩)
                | ((repeat apply Exists.intro); exact ⟨⟨k + 1, by omega, by go_num, HF.out⟩, rfl⟩)
            case measure => simp [intOf]; omega
      · obtain ⟨PK, hPK⟩ : ∃ PK, PK = txP (L.take k) ++ [59, 32] := ⟨_, rfl⟩
        have HPL := hid (show PK.length ≤ 1000002 by rw [hPK]; have := HTK.out; simp; omega)
        have HSN := hid (show txP (L.take (k + 1)) = PK ++ N.data.toList ++ VS.flatMap fun v => 32 :: v by rw [HSN0.out, if_neg hk0, hPK]; simp)
        have HSP := hid (wstr_b w _ _ ⟨#[59, 32]⟩ HS1.out.1 (by have := HTK.out; have : (⟨#[59, 32]⟩ : ByteArray).size = 2 := rfl; omega))
        rw [← hPK] at HSP
        have hk0' : (0 : Int) < (k : Int) := by omega
        have hk0n : 0 < k := by omega
        clear hPK HSN0 HTK hk0
        go_wp2_with fail
        refine HSP.out.mono ?_
        rintro e W2 ⟨rfl, hb2, hk2⟩
        have HS2 := hid (show BLD w W2 PK ∧ TwR W2 wr.heap.size N (.slice ua un uc) from ⟨hb2, hk2 _ _ HS1.out.2 (by simp; omega) (by intro c fz h; injection h with _ h _; exact absurd h (by decide))⟩)
        clear hb2 hk2 HSP HS1 f0 f1
        have HNM := hid (wstr_b w W2 _ N HS2.out.1 (by have := HPL.out; have := HNZ.out; omega))
        obtain ⟨r0, r1, _, _⟩ := TwR.cells HS2.out.2
        go_wp2_with fail
        refine HNM.out.mono ?_
        rintro e w3 ⟨rfl, hb3, hk3⟩
        have HB3 := hid hb3
        have HR3 := hid (show TwR w3 wr.heap.size N (.slice ua un uc) from hk3 _ _ HS2.out.2 (by simp; omega) (by intro c fz h; injection h with _ h _; exact absurd h (by decide)))
        obtain ⟨s0, s1, _, _⟩ := TwR.cells HR3.out
        clear hb3 hk3 HNM r0 r1
        go_wp2_with fail
        clear s0 s1
        go_loopw [25] (fun v25 wq => ∃ j : Nat, j ≤ un ∧ v25 = .int .i64 j ∧ Hid (BLD w wq (PK ++ N.data.toList ++ (VS.take j).flatMap (fun v => 32 :: v)))) (fun v25 _ => un - (intOf v25).toNat)
        case atStart => exact ⟨0, Nat.zero_le _, rfl, (show BLD w w3 (PK ++ N.data.toList ++ (VS.take 0).flatMap (fun v => 32 :: v)) by simpa using HB3.out)⟩
        case round =>
          obtain ⟨j, hj, rfl, HJ⟩ := hrel
          have HLJ := hid (HVB.out j)
          by_cases hjl : j < un
          · have hjV : j < VS.length := by have := HUN.out; omega
            obtain ⟨ua', uc', eu, q1, q2, hcell⟩ := HTX.out.view
            injection eu with eu1 eu2 eu3
            clear eu2 eu3 q1 q2
            subst eu1
            obtain ⟨bv, ov, rfl, hcv⟩ := hcell j hjV
            obtain ⟨X, hX⟩ : ∃ X : ByteArray, X = ⟨VS[j].toArray⟩ := ⟨_, rfl⟩
            rw [← hX] at hcv
            have cX := (HJ.out.2.1.cell (World.block_lt_of_cell? w _ hcv)).trans hcv
            have HXL := hid (show (VS.take (j + 1)).flatMap (fun v => 32 :: v) = (VS.take j).flatMap (fun v => 32 :: v) ++ [32] ++ X.data.toList by
              rw [List.take_succ_eq_append_getElem hjV, List.flatMap_append, hX]; simp)
            have HXS := hid (show X.size ≤ 1000000 by
              have h1 := HVB.out (j + 1)
              rw [HXL.out] at h1
              rw [Lib.size_eq]
              simp only [List.length_append] at h1
              omega)
            have HWB := hid (wbyt_b w wr _ 32 HJ.out (by have := HPL.out; have := HNZ.out; have := HLJ.out; simp only [List.length_append, ← Lib.size_eq]; omega))
            have hin : (j : Int) < (un : Int) := by omega
            clear hcell hjV hX hcv
            go_wp2_with fail
            refine HWB.out.mono ?_
            rintro e w5 ⟨rfl, hb5, hk5⟩
            have HWS := hid (wstr_b w w5 _ X hb5 (by have := HPL.out; have := HNZ.out; have := HLJ.out; have := HXS.out; simp only [List.length_append, List.length_cons, List.length_nil, ← Lib.size_eq]; omega))
            clear hb5 hk5 HWB cX
            go_wp2_with fail
            refine HWS.out.mono ?_
            rintro e w6 ⟨rfl, hb6, hk6⟩
            have HB6 := hid (show BLD w w6 (PK ++ N.data.toList ++ (VS.take (j + 1)).flatMap (fun v => 32 :: v)) by
              rw [HXL.out]
              have := hb6
              simpa [List.append_assoc] using this)
            clear hb6 hk6 HWS
            go_wp2_with fail
            go_roundw
            case rel =>
              exact ⟨j + 1, by omega, by go_num, HB6.out⟩
            case measure => simp [intOf]; omega
          · obtain rfl : j = un := by omega
            have HF := hid (show BLD w wr (txP (L.take (k + 1))) by
              rw [HSN.out]
              have h := HJ.out
              rw [List.take_of_length_le (by have := HUN.out; omega)] at h
              exact h)
            have hng : ¬ ((j : Int) < (j : Int)) := by omega
            clear hj hjl HJ HLJ
            go_wp2_with fail
            go_roundw
            case rel =>
              first
                | exact ⟨k + 1, by omega, by go_num, HF.out⟩
                | ((repeat apply Exists.intro); refine ⟨?_, rfl⟩; exact ⟨k + 1, by omega, by go_num, HF.out⟩)
                | ((repeat apply Exists.intro); exact ⟨⟨k + 1, by omega, by go_num, HF.out⟩, rfl⟩)
            case measure => simp [intOf]; omega
    · obtain rfl : k = n := by omega
      have HF := hid (show BLD w wr (txP L) by
        have h := HR.out
        rw [List.take_of_length_le (by have := HN.out; omega)] at h
        exact h)
      have hng : ¬ ((k : Int) < (k : Int)) := by omega
      clear HR hk hlt
      go_wp2_with fail
      refine (Try.Builder_String_any_k (w.heap.size + 1) (w.heap.size + 1) _ _ HF.out.1 (by have := HF.out.2.2; omega)).mono ?_
      rintro e w4 ⟨rfl, _, hb4, _⟩
      have HB4 := hid (HF.out.2.1.trans (hb4.mono (by omega)))
      clear hb4
      go_wp2_with fail
      go_ret
      exact ⟨rfl, HB4.out⟩

end Go.Proofs.Ytplabofdcnpcpaa
