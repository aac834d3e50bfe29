/-
  The walks of ostiaryref9's Strongest and Holds.
-/
import Derived.Test.YtbdlicomkpnalaaGreatDoorZu
import Derived.Test.YtbdlicomkpnalaaGreatDoorZIn
import Derived.Test.YtbdlicomkpnalaaGreatDoorZt
set_option linter.unusedSimpArgs false
set_option linter.unusedVariables false
namespace Go.Proofs.YtbdlicomkpnalaaGreatDoor
open Go.RowKit

theorem most_low : ∀ (L : List It) (m : Int), m ≤ mostV L m
  | [], m => Int.le_refl _
  | x :: L, m => Int.le_trans (Int.le_max_left m x.bits) (most_low L _)
theorem most_same : ∀ (L : List It) (m n : Int), L ≠ [] → (∀ x ∈ L, m ≤ x.bits ∧ n ≤ x.bits) → mostV L m = mostV L n
  | [], _, _, h, _ => absurd rfl h
  | x :: L, m, n, _, h => by
    have hx := h x (by simp)
    rw [mostV, mostV, Int.max_eq_right hx.1, Int.max_eq_right hx.2]

/-- The strongest ones, reckoned from 0. -/
theorem strong_zero (L : List It) (h : ∀ x ∈ L, x.bits = 256 ∨ x.bits = 384 ∨ x.bits = 512) : L.filter (fun x => x.bits == mostV L 0) = strong L := by
  cases L with
  | nil => rfl
  | cons y L =>
    unfold strong
    rw [most_same (y :: L) 0 (-9223372036854775808) (by simp) (fun x hx => by have := h x hx; omega)]

theorem strong_bits (L : List It) : ∀ x ∈ strong L, x.bits = mostV L (-9223372036854775808) := fun x hx => by
  have := (List.mem_filter.1 hx).2
  simpa using this

def RStrPost9 (L : List It) (w : World) (e : Ending) (w' : World) : Prop :=
  ∃ v, e = .returned v ∧ w'.ownsRow w.heap.size 52 3 v (L.filter fun x => x.bits == mostV L 0).length (cellsI (L.filter fun x => x.bits == mostV L 0)) ∧ Below w.heap.size w w'

set_option maxHeartbeats 4000000 in
set_option maxRecDepth 100000 in
theorem rstrong9_any (v : Value) (L : List It) (w : World) (hv : RtAt w v L) (hl : L.length ≤ 1000001) :
    Calls Tryz.prog 20 #[v] w (RStrPost9 L w) := by
  obtain ⟨i0, hi, hz0, hz1, hz2⟩ := info_parts infoRt
  obtain ⟨a1, c1, rfl, hc1, hm1, hv1⟩ := hv.view
  have HV := hid hv1
  obtain ⟨n, hn⟩ : ∃ n, n = L.length := ⟨_, rfl⟩
  have HN := hid hn
  rw [← hn] at hc1 hl ⊢
  clear hv hv1 hn
  go_enter Tryz.func20, Tryz.ntmps20
  go_wp2_with fail
  go_loopw [3, 4] (fun v3 v4 wr => ∃ (k : Nat) (M : Int), k ≤ n ∧ v4 = .int .i64 k ∧ v3 = .int .i64 M ∧ Hid (M = mostV (L.take k) 0 ∧ Below w.heap.size w wr)) (fun _ v4 _ => n - (intOf v4).toNat)
  case atStart => exact ⟨0, 0, Nat.zero_le _, rfl, rfl, rfl, Below.refl _ _⟩
  case round =>
    obtain ⟨k, M, hk, rfl, rfl, HR⟩ := hrel
    by_cases hlt : k < n
    · have hkL : k < L.length := by have := HN.out; omega
      obtain ⟨b1, o1, rfl, e1, e2, e3⟩ := HV.out k hkL
      obtain ⟨b, hbx⟩ : ∃ b, b = L[k].bits := ⟨_, rfl⟩
      rw [← hbx] at e1
      have f1 := kept_cell e1 HR.out.2
      have HMN := hid (show mostV (L.take (k + 1)) 0 = max M b by rw [List.take_succ_eq_append_getElem hkL, most_snoc, ← HR.out.1, ← hbx])
      have hin : (k : Int) < (n : Int) := by omega
      clear e1 e2 e3 hbx hkL
      by_cases hgt : M < b
      · have HR2 := hid (show b = mostV (L.take (k + 1)) 0 ∧ Below w.heap.size w wr from ⟨by rw [HMN.out]; omega, HR.out.2⟩)
        go_wp2_with fail
        go_roundw
        case rel =>
          first
            | exact ⟨k + 1, b, by omega, by go_num, rfl, HR2.out⟩
            | ((repeat apply Exists.intro); refine ⟨?_, rfl⟩; exact ⟨k + 1, b, by omega, by go_num, rfl, HR2.out⟩)
            | ((repeat apply Exists.intro); exact ⟨⟨k + 1, b, by omega, by go_num, rfl, HR2.out⟩, rfl⟩)
        case measure => simp [intOf]; omega
      · have HR2 := hid (show M = mostV (L.take (k + 1)) 0 ∧ Below w.heap.size w wr from ⟨by rw [HMN.out]; omega, HR.out.2⟩)
        go_wp2_with fail
        go_roundw
        case rel =>
          first
            | exact ⟨k + 1, M, by omega, by go_num, rfl, HR2.out⟩
            | ((repeat apply Exists.intro); refine ⟨?_, rfl⟩; exact ⟨k + 1, M, by omega, by go_num, rfl, HR2.out⟩)
            | ((repeat apply Exists.intro); exact ⟨⟨k + 1, M, by omega, by go_num, rfl, HR2.out⟩, rfl⟩)
        case measure => simp [intOf]; omega
    · obtain rfl : k = n := by omega
      have HM := hid (show M = mostV L 0 by have h := HR.out.1; rwa [List.take_of_length_le (by have := HN.out; omega)] at h)
      have HB0 := hid HR.out.2
      obtain ⟨q, hq⟩ : ∃ q : It → Bool, q = fun x => x.bits == M := ⟨_, rfl⟩
      have HQ := hid (show (L.filter fun x => x.bits == mostV L 0) = L.filter q by rw [hq, ← HM.out])
      have HQV := hid (show ∀ x : It, q x = (x.bits == M) by rw [hq]; exact fun _ => rfl)
      clear HR hk hlt hq
      go_wp2_with fail
      go_loopw [5, 6] (fun v5 v6 wq => ∃ j m : Nat, j ≤ k ∧ m ≤ j ∧ v6 = .int .i64 j ∧ Hid (m = ((L.take j).filter q).length ∧ wq.ownsRow w.heap.size 52 3 v5 m (cellsI ((L.take j).filter q)) ∧ Below w.heap.size w wq)) (fun _ v6 _ => k - (intOf v6).toNat)
      case atStart => exact ⟨0, 0, Nat.zero_le _, Nat.zero_le _, rfl, rfl, World.ownsRow_nil _ _ _ _, HB0.out⟩
      case round =>
        clear HB0
        obtain ⟨j, m, hj, hmj, rfl, HR⟩ := hrel
        by_cases hlt : j < k
        · have hjL : j < L.length := by have := HN.out; omega
          obtain ⟨b1, o1, rfl, e1, e2, e3⟩ := HV.out j hjL
          obtain ⟨x, hx⟩ : ∃ x, x = L[j] := ⟨_, rfl⟩
          rw [← hx] at e1 e2 e3
          obtain ⟨b, hbx⟩ : ∃ b, b = x.bits := ⟨_, rfl⟩
          obtain ⟨V, hVx⟩ : ∃ V : ByteArray, V = ⟨x.want.toArray⟩ := ⟨_, rfl⟩
          obtain ⟨O, hOx⟩ : ∃ V : ByteArray, V = ⟨x.opt.toArray⟩ := ⟨_, rfl⟩
          rw [← hbx] at e1
          rw [← hVx] at e2
          rw [← hOx] at e3
          have f1 := kept_cell e1 HR.out.2.2
          have f2 := kept_cell e2 HR.out.2.2
          have f3 := kept_cell e3 HR.out.2.2
          have HT := hid (show (L.take (j + 1)).filter q = (L.take j).filter q ++ (if q x then [x] else []) by rw [hx]; exact filter_snoc9 q L j hjL)
          have HCE := hid (show cellsI [x] = [.int .i64 b, .string V, .string O] by rw [hbx, hVx, hOx]; rfl)
          have HQX := hid (show q x = (b == M) by rw [HQV.out, hbx])
          have hin : (j : Int) < (k : Int) := by omega
          have HSW := hid (show w.heap.size ≤ wr.heap.size from HR.out.2.2.size)
          have HO2 := hid HR.out.2.1
          have HW2 := hid HR.out.2.2
          clear e1 e2 e3 hx hbx hVx hOx hjL
          by_cases hbm : b = M
          · have hbe : (b == M) = true := by rw [hbm]; simp
            rw [HQX.out, hbe] at HT
            clear hbm
            go_wp2_with (at_builtin; refine wpList_append_own _ rfl _ _ 49 rfl w.heap.size 52 i0 _ 3 40 Tryz.underlying49 hi hz0 hz1 hz2 rfl (by decide) _ _ _ rfl (HO2.out.alloc _) ⟨wr.heap.size, 0, none⟩ 1 1 [.int .i64 b, .string V, .string O] rfl rfl (it_one _ _ _ _ _) ?c2 (by unfold maxLen; omega) (by omega) (by have := HSW.out; simp; omega) ?_)
            case c2 => first | exact ⟨rfl, rfl, rfl⟩ | (intro u hu; simp at hu; rcases hu with rfl | rfl | rfl <;> rfl)
            intro v4 w4 hown hgrow hnil
            have HR4 := hid (show m + 1 = ((L.take (j + 1)).filter q).length ∧ w4.ownsRow w.heap.size 52 3 v4 (m + 1) (cellsI ((L.take (j + 1)).filter q)) ∧ Below w.heap.size w w4 by
              refine ⟨?_, ?_, (HW2.out.alloc HW2.out.size _).grown hgrow (by have := HSW.out; simp; omega) (fun k hk => (HO2.out.lt k hk).1)⟩
              · rw [HT.out, if_pos (by trivial), List.length_append, ← HR.out.1]; rfl
              · rw [HT.out, if_pos (by trivial), cellsI_app, HCE.out]
                exact hown)
            clear hown hgrow hnil
            go_wp2_with fail
            go_roundw
            case rel =>
              first
                | exact ⟨j + 1, m + 1, by omega, by omega, by go_num, HR4.out⟩
                | ((repeat apply Exists.intro); refine ⟨?_, rfl⟩; exact ⟨j + 1, m + 1, by omega, by omega, by go_num, HR4.out⟩)
                | ((repeat apply Exists.intro); exact ⟨⟨j + 1, m + 1, by omega, by omega, by go_num, HR4.out⟩, rfl⟩)
            case measure => simp [intOf]; omega
          · have hbe : (b == M) = false := by rw [beq_eq_false_iff_ne]; exact hbm
            rw [HQX.out, hbe] at HT
            have HR4 := hid (show m = ((L.take (j + 1)).filter q).length ∧ wr.ownsRow w.heap.size 52 3 u5 m (cellsI ((L.take (j + 1)).filter q)) ∧ Below w.heap.size w wr by
              rw [HT.out, if_neg (by decide), List.append_nil]
              exact HR.out)
            clear hbm
            go_wp2_with fail
            go_roundw
            case rel =>
              first
                | exact ⟨j + 1, m, by omega, by omega, by go_num, HR4.out⟩
                | ((repeat apply Exists.intro); refine ⟨?_, rfl⟩; exact ⟨j + 1, m, by omega, by omega, by go_num, HR4.out⟩)
                | ((repeat apply Exists.intro); exact ⟨⟨j + 1, m, by omega, by omega, by go_num, HR4.out⟩, rfl⟩)
            case measure => simp [intOf]; omega
        · obtain rfl : j = k := by omega
          have HFN := hid (show wr.ownsRow w.heap.size 52 3 u5 (L.filter fun x => x.bits == mostV L 0).length (cellsI (L.filter fun x => x.bits == mostV L 0)) by
            have h := HR.out
            rw [List.take_of_length_le (by have := HN.out; omega)] at h
            rw [HQ.out, ← h.1]
            exact h.2.1)
          have HBF := hid HR.out.2.2
          clear HR hj hmj hlt
          go_wp2_with fail
          go_ret
          exact ⟨u5, rfl, HFN.out, HBF.out⟩

theorem any_take9 (q : It → Bool) (S : List It) (k : Nat) (hk : k < S.length) (h : (S.take k).any q = false) : (S.take (k + 1)).any q = q S[k] := by
  rw [List.take_succ_eq_append_getElem hk, List.any_append, h]
  simp

set_option maxHeartbeats 4000000 in
set_option maxRecDepth 100000 in
theorem rholds9_any (T : Nat) (s : ByteArray) (a0 : Option Addr) (len cap : Nat) (l : List UInt8) (w : World) (hT : Rw w T .u64 58 tabV) (hs : s.size ≤ 1000000) (hv : SlB w (.slice a0 len cap) l) (hn : a0 = none → cap = 0) (hl : l.length ≤ 100000) :
    Calls Tryz.prog 8 #[.pointer (some ⟨T, 0, none⟩), .string s, .slice a0 len cap] w fun e w' => e = .returned (.bool (holdsV sqr cbr s.data.toList l)) ∧ Below w.heap.size w w' := by
  have HP := hid (rparse9_any s w hs)
  obtain ⟨L, hL⟩ : ∃ L, L = parse9 s.data.toList := ⟨_, rfl⟩
  have HLN := hid (show L.length ≤ 1000001 by rw [hL]; have := parse_len s.data.toList; rw [← Lib.size_eq] at this; omega)
  have HLB := hid (show ∀ x ∈ L, x.bits = 256 ∨ x.bits = 384 ∨ x.bits = 512 by rw [hL]; exact parse_bits _)
  have HLW := hid (show ∀ x ∈ L, x.want.length ≤ 1000000 by rw [hL]; intro x hx; have := parse_want s.data.toList x hx; rw [← Lib.size_eq] at this; omega)
  have HTT := hid hT
  have HSV := hid hv
  have HNC := hid hn
  have HLL := hid hl
  have HH := hid (show holdsV sqr cbr s.data.toList l = holdsL sqr cbr (strong L) l by rw [hL]; rfl)
  unfold RParsePost9 at HP
  rw [← hL] at HP
  clear hL hv hl hT hn
  go_enter Tryz.func8, Tryz.ntmps8
  go_wp2_with fail
  refine HP.out.mono ?_
  rintro e w1 ⟨v1, rfl, hown1, hb1⟩
  have HST := hid (rstrong9_any v1 L w1 (own_rt hown1) HLN.out)
  unfold RStrPost9 at HST
  rw [strong_zero L HLB.out] at HST
  have HB1 := hid hb1
  clear hown1 hb1 HP
  go_wp2_with fail
  refine HST.out.mono ?_
  rintro e w2 ⟨v2, rfl, hown2, hb2⟩
  have HB2 := hid (below2 HB1.out hb2)
  obtain ⟨S, hS⟩ : ∃ S, S = strong L := ⟨_, rfl⟩
  rw [← hS] at hown2 HH
  have HSL := hid (show S.length ≤ 1000001 by rw [hS]; have := strong_len L; have := HLN.out; omega)
  have HSW := hid (show ∀ x ∈ S, x.want.length ≤ 1000000 by rw [hS]; exact fun x hx => HLW.out x (strong_sub L x hx))
  obtain ⟨b, hbd⟩ : ∃ b, b = mostV L (-9223372036854775808) := ⟨_, rfl⟩
  have HSB := hid (show ∀ x ∈ S, x.bits = b by rw [hS, hbd]; exact strong_bits L)
  have HSR := hid (show S ≠ [] → ∃ r, sumV sqr cbr b l = some r by
    intro hne
    cases hSc : S with
    | nil => exact absurd hSc hne
    | cons x S' =>
      have h1 := HSB.out x (by rw [hSc]; simp)
      have h2 := HLB.out x (strong_sub L x (by rw [← hS, hSc]; simp))
      rw [← h1]
      rcases h2 with h | h | h <;> rw [h] <;> exact ⟨_, rfl⟩)
  obtain ⟨r, hr⟩ : ∃ r, S ≠ [] → sumV sqr cbr b l = some r := by
    by_cases hne : S = []
    · exact ⟨[], fun h => absurd hne h⟩
    · obtain ⟨r, hr⟩ := HSR.out hne
      exact ⟨r, fun _ => hr⟩
  have HRS := hid hr
  have HHV := hid (show holdsV sqr cbr s.data.toList l = (S.isEmpty || S.any (wantsV r)) by
    rw [HH.out]
    cases hSc : S with
    | nil => rfl
    | cons x S' =>
      have h1 := HSB.out x (by rw [hSc]; simp)
      have h2 := HRS.out (by rw [hSc]; simp)
      show (match sumV sqr cbr x.bits l with | none => false | some r => (x :: S').any (wantsV r)) = _
      rw [h1, h2]
      rfl)
  have HV2 := hid (own_rt hown2)
  clear hb2 hown2 hS HST HLN HLB HLW hbd HSR hr HH
  obtain ⟨a2, c2, rfl, hc2, hm2, hv2⟩ := HV2.out.view
  have HVI := hid hv2
  obtain ⟨n, hn⟩ : ∃ n, n = S.length := ⟨_, rfl⟩
  have HN := hid hn
  rw [← hn] at hc2 ⊢
  have hnb : n ≤ 1000001 := by have := HSL.out; omega
  clear hv2 hn HV2
  go_wp2_with fail
  go_loopw [8] (fun v8 wr => ∃ k : Nat, k ≤ n ∧ v8 = .int .i64 k ∧ Hid ((S.take k).any (wantsV r) = false ∧ Below w2.heap.size w2 wr)) (fun v8 _ => n - (intOf v8).toNat)
  case atStart => exact ⟨0, Nat.zero_le _, rfl, rfl, Below.refl _ _⟩
  case round =>
    obtain ⟨k, hk, rfl, HR⟩ := hrel
    by_cases hlt : k < n
    · have hkS : k < S.length := by have := HN.out; omega
      obtain ⟨b1, o1, rfl, e1, e2, e3⟩ := HVI.out k hkS
      obtain ⟨x, hx⟩ : ∃ x, x = S[k] := ⟨_, rfl⟩
      rw [← hx] at e1 e2 e3
      have HXM := hid (show x ∈ S by rw [hx]; exact List.getElem_mem hkS)
      obtain ⟨V, hVx⟩ : ∃ V : ByteArray, V = ⟨x.want.toArray⟩ := ⟨_, rfl⟩
      rw [HSB.out x HXM.out] at e1
      rw [← hVx] at e2
      have f1 := kept_cell e1 HR.out.2
      have f2 := kept_cell e2 HR.out.2
      have HVl := hid (show V.data.toList = x.want by rw [hVx])
      have HVs := hid (show V.size ≤ 1000000 by rw [Lib.size_eq, HVl.out]; exact HSW.out x HXM.out)
      have HAN := hid (show (S.take (k + 1)).any (wantsV r) = wantsV r x by rw [hx]; exact any_take9 _ S k hkS HR.out.1)
      have HANY := hid (show wantsV r x = true → S.any (wantsV r) = true from fun h => List.any_eq_true.2 ⟨x, HXM.out, h⟩)
      have HRR := hid (HRS.out (by intro h; rw [h] at hkS; simp at hkS))
      have HB64 := hid (rbase64_any V wr HVs.out)
      rw [HVl.out] at HB64
      have HWR := hid (below2 HB2.out HR.out.2)
      have hin : (k : Int) < (n : Int) := by omega
      clear e1 e2 e3 hx hkS hVx
      rcases hw : b64 x.want with _ | y
      · have HW := hid (show wantsV r x = false by unfold wantsV; rw [hw])
        have HB2' := hid (show Calls Tryz.prog 22 #[.string V] wr fun e w' => e = .returned (.tuple #[.slice none 0 0, .bool false]) ∧ Below wr.heap.size wr w' by
          refine HB64.out.mono ?_
          rintro e w' ⟨hb, ⟨_, he⟩ | ⟨_, _, _, y, hy, _⟩⟩
          · exact ⟨he, hb⟩
          · rw [hw] at hy; cases hy)
        rw [HW.out] at HAN
        clear hw HB64
        go_wp2_with fail
        refine HB2'.out.mono ?_
        rintro e w3 ⟨rfl, hb3⟩
        have f1' := kept_cell f1 hb3
        have HB3 := hid hb3
        have HRM := hid (rsum_any T b a0 len cap l w3 (HTT.out.kept (below2 HWR.out hb3)) (HSV.out.kept (below2 HWR.out hb3)) HNC.out (by have := HLL.out; omega))
        clear hb3 f1 f2
        go_wp2_with fail
        refine HRM.out.mono ?_
        rintro e w4 ⟨⟨hn, rfl⟩ | ⟨r3, G3, c3, R3, hr3, hR3, rfl, hsl3⟩, hb4⟩
        · rw [HRR.out] at hn; cases hn
        have HR4 := hid (show (S.take (k + 1)).any (wantsV r) = false ∧ Below w2.heap.size w2 w4 from ⟨HAN.out, below2 (below2 HR.out.2 HB3.out) hb4⟩)
        clear hr3 hR3 hsl3 hb4
        go_wp2_with fail
        go_roundw
        case rel =>
          first
            | exact ⟨k + 1, by omega, by go_num, HR4.out⟩
            | ((repeat apply Exists.intro); refine ⟨?_, rfl⟩; exact ⟨k + 1, by omega, by go_num, HR4.out⟩)
            | ((repeat apply Exists.intro); exact ⟨⟨k + 1, by omega, by go_num, HR4.out⟩, rfl⟩)
        case measure => simp [intOf]; omega
      · have HW := hid (show wantsV r x = (y == r) by unfold wantsV; rw [hw])
        have HB2' := hid (show Calls Tryz.prog 22 #[.string V] wr fun e w' => ∃ a n c, e = .returned (.tuple #[.slice a n c, .bool true]) ∧ SlB w' (.slice a n c) y ∧ Below wr.heap.size wr w' by
          refine HB64.out.mono ?_
          rintro e w' ⟨hb, ⟨hn, _⟩ | ⟨a, n, c, y', hy, he, hsl⟩⟩
          · rw [hw] at hn; cases hn
          · rw [hw] at hy
            obtain rfl := Option.some.inj hy
            exact ⟨a, n, c, he, hsl, hb⟩)
        clear hw HB64
        go_wp2_with fail
        refine HB2'.out.mono ?_
        rintro e w3 ⟨a3, n3, c3', rfl, hs3, hb3⟩
        have f1' := kept_cell f1 hb3
        have HB3 := hid hb3
        have HS3 := hid hs3
        have HRM := hid (rsum_any T b a0 len cap l w3 (HTT.out.kept (below2 HWR.out hb3)) (HSV.out.kept (below2 HWR.out hb3)) HNC.out (by have := HLL.out; omega))
        clear hb3 f1 f2 hs3
        go_wp2_with fail
        refine HRM.out.mono ?_
        rintro e w4 ⟨⟨hn, rfl⟩ | ⟨r3, G3, c3, R3, hr3, hR3, rfl, hsl3⟩, hb4⟩
        · rw [HRR.out] at hn; cases hn
        obtain rfl : r = r3 := Option.some.inj (HRR.out.symm.trans hr3)
        obtain ⟨BL, hBL⟩ : ∃ x : ByteArray, x = ⟨y.toArray⟩ := ⟨_, rfl⟩
        obtain ⟨BM, hBM⟩ : ∃ x : ByteArray, x = ⟨r.toArray⟩ := ⟨_, rfl⟩
        have hk1 : (convert 22 9 (.slice a3 n3 c3')).run Tryz.prog w4 = .ok (.string BL) w4 := by rw [hBL]; exact (HS3.out.kept hb4).string (P := Tryz.prog) Tryz.underlying22 Tryz.underlying5 Tryz.underlying9
        have hk2 : (convert 22 9 (.slice (some ⟨G3, 0, none⟩) R3 c3)).run Tryz.prog w4 = .ok (.string BM) w4 := by rw [hBM]; exact hsl3.string (P := Tryz.prog) Tryz.underlying22 Tryz.underlying5 Tryz.underlying9
        have HB4 := hid (below2 (below2 HR.out.2 HB3.out) hb4)
        by_cases hyr : y = r
        · have hqe : (BL.toList == BM.toList) = true := by rw [hBL, hBM, hyr]; simp
          have HANYT := hid (show holdsV sqr cbr s.data.toList l = true by
            rw [HHV.out, HANY.out (by rw [HW.out, hyr]; simp)]; simp)
          clear hr3 hR3 hsl3 hb4 hyr hBL hBM
          go_wp2_with fail
          go_ret
          exact ⟨ret_b8 HANYT.out.symm, below2 HB2.out HB4.out⟩
        · have hqe : (BL.toList == BM.toList) = false := by
            rw [hBL, hBM, ByteArray.toList_eq, ByteArray.toList_eq, beq_eq_false_iff_ne]
            exact fun h => hyr (by simpa using h)
          have HWF := hid (show wantsV r x = false by rw [HW.out, beq_eq_false_iff_ne]; exact hyr)
          have HR4 := hid (show (S.take (k + 1)).any (wantsV r) = false ∧ Below w2.heap.size w2 w4 from ⟨by rw [HAN.out, HWF.out], HB4.out⟩)
          clear hr3 hR3 hsl3 hb4 hyr hBL hBM
          go_wp2_with fail
          go_roundw
          case rel =>
            first
              | exact ⟨k + 1, by omega, by go_num, HR4.out⟩
              | ((repeat apply Exists.intro); refine ⟨?_, rfl⟩; exact ⟨k + 1, by omega, by go_num, HR4.out⟩)
              | ((repeat apply Exists.intro); exact ⟨⟨k + 1, by omega, by go_num, HR4.out⟩, rfl⟩)
          case measure => simp [intOf]; omega
    · obtain rfl : k = n := by omega
      have HFB := hid (show holdsV sqr cbr s.data.toList l = ((k : Int) == 0) by
        have h := HR.out.1
        rw [List.take_of_length_le (by have := HN.out; omega)] at h
        rw [HHV.out, h, Bool.or_false]
        have := HN.out
        cases hSc : S with
        | nil => rw [hSc] at this; simp at this; rw [this]; rfl
        | cons x S' =>
          rw [hSc] at this
          simp at this
          symm
          show ((k : Int) == 0) = false
          rw [beq_eq_false_iff_ne]
          omega)
      have HBF := hid (below2 HB2.out HR.out.2)
      clear HR hk hlt
      go_wp2_with fail
      go_ret
      exact ⟨ret_b8 HFB.out.symm, HBF.out⟩

end Go.Proofs.YtbdlicomkpnalaaGreatDoor
