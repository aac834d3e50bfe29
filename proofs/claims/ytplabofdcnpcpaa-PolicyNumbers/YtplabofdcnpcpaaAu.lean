/-
  The walk of the law PolicyNumbers.
-/
import Derived.Test.YtplabofdcnpcpaaAt
import Derived.Test.YtplabofdcnpcpaaAj
import Derived.BigRegion
set_option linter.unusedSimpArgs false
set_option linter.unusedVariables false
namespace Go.Proofs.Ytplabofdcnpcpaa
open Go.RowKit

/-- A list of policies, place by place. -/
def PlAt (w : World) (v : Value) (Ps : List (List Ru × Bool)) : Prop :=
  ∃ a cap, v = .slice a Ps.length cap ∧ Ps.length ≤ cap ∧ cap ≤ maxLen ∧ ∀ j (hj : j < Ps.length), ∃ b off ua uc, a = some ⟨b, off, none⟩ ∧ w.cell? ⟨b, off + j * 2, none⟩ = some (.slice ua Ps[j].1.length uc) ∧ w.cell? ⟨b, off + j * 2 + 1, none⟩ = some (.bool Ps[j].2) ∧ PoAt w (.slice ua Ps[j].1.length uc) Ps[j].1

theorem own_pl {w : World} {B B' : Nat} {v : Value} {P : List (Value × Bool)} {Ps : List (List Ru × Bool)} (h : w.ownsRow B 33 2 v Ps.length (cellsP P)) (hr : RdP w B' P Ps) : PlAt w v Ps := by
  rcases h.2 with ⟨hv, hn⟩ | ⟨g, cap, cur, rfl, hg, hrow, hnc, hcm, hcs, htake⟩
  · obtain rfl := List.eq_nil_of_length_eq_zero hn
    exact ⟨none, 0, hv, Nat.le_refl _, by decide, fun j hj => by simp at hj⟩
  · refine ⟨_, cap, rfl, hnc, hcm, fun j hj => ?_⟩
    have hjP : j < P.length := by rw [hr.1]; exact hj
    obtain ⟨e1, hon⟩ := hr.2 j hjP hj
    have hpo := hon.po
    obtain ⟨Q, hq, _⟩ := hon
    obtain ⟨ua, uc, hu, _, _⟩ := own_form hq
    refine ⟨g, 0, ua, uc, rfl, ?_, ?_, ?_⟩
    · rw [Nat.zero_add, h.cellAt _ (by omega), (cellsP_at P j hjP).1, hu]
    · rw [Nat.zero_add, h.cellAt _ (by omega), (cellsP_at P j hjP).2, e1]
    · rw [← hu]; exact hpo

theorem PlAt.kept {w w' : World} {v : Value} {Ps : List (List Ru × Bool)} (h : PlAt w v Ps) (hb : Below w.heap.size w w') : PlAt w' v Ps := by
  obtain ⟨a, cap, h1, h2, h3, h4⟩ := h
  refine ⟨a, cap, h1, h2, h3, fun j hj => ?_⟩
  obtain ⟨b, off, ua, uc, e, c1, c2, c3⟩ := h4 j hj
  exact ⟨b, off, ua, uc, e, kept_cell c1 hb, kept_cell c2 hb, c3.kept hb⟩

theorem fromP (v : Value) (H : List Hd) (Ps : List (List Ru × Bool)) (w : World) (h : HdAt w v H) (hz : Szd 140737488351232 H) (hl : H.length ≤ 1000000) (hb : bulkV H ≤ 1000000) (hP : fromV H = Ps) :
    Calls Try.prog 13 #[v] w fun e w' => ∃ a c, e = .returned (.slice a Ps.length c) ∧ (Ps.length ≤ c ∧ c ≤ maxLen ∧ PlAt w' (.slice a Ps.length c) Ps) ∧ Below w.heap.size w w' := by
  subst hP
  refine (from10 v H w h hz hl hb).mono ?_
  rintro e w' ⟨v', P, rfl, hown, hrd, hb'⟩
  obtain ⟨a, c, rfl, h1, h2⟩ := own_form hown
  exact ⟨a, c, rfl, ⟨h1, h2, own_pl hown hrd⟩, hb'⟩

def namesL : List (List UInt8) := [[120], [], nSe, nYe, nWk, nFr, nCo, nFo, nIm, nMe, nSc, nSt, nCh, nOb, nDe]
def manyV : Nat → List UInt8
  | 0 => []
  | k + 1 => manyV k ++ [97, UInt8.ofNat (97 + k % 26), UInt8.ofNat (97 + k / 26), 59]
theorem many_len : ∀ k, (manyV k).length = 4 * k
  | 0 => rfl
  | k + 1 => by rw [manyV, List.length_append, many_len k]; simp; omega
theorem many_32 : (polV (manyV 40)).length = 32 := by decide +kernel
theorem empty_0 : polV [] = [] := by decide +kernel

abbrev H0 : List Hd := [⟨[67, 111, 110, 116, 101, 110, 116, 45, 83, 101, 99, 117, 114, 105, 116, 121, 45, 80, 111, 108, 105, 99, 121, 45, 82, 101, 112, 111, 114, 116, 45, 79, 110, 108, 121], [97]⟩, ⟨[99, 111, 110, 116, 101, 110, 116, 45, 115, 101, 99, 117, 114, 105, 116, 121, 45, 112, 111, 108, 105, 99, 121], [98, 44, 32, 44, 99, 32, 100]⟩]
abbrev P0 : List (List Ru × Bool) := [([⟨[98], []⟩], false), ([⟨[99], [[100]]⟩], false), ([⟨[97], []⟩], true)]
theorem from_0 : fromV H0 = P0 := by decide +kernel
theorem from_nil : fromV [] = [] := by decide +kernel

theorem enc_low (n : Nat) (h : n < 128) : Utf8.encode (n : Int) = ⟨#[UInt8.ofNat n]⟩ := by
  have h2 : ∀ m : Fin 128, Utf8.encode (m.val : Int) = ⟨#[UInt8.ofNat m.val]⟩ := by decide +kernel
  exact h2 ⟨n, h⟩

theorem szd_0 : Szd 140737488351232 H0 := by
  intro h hh
  simp at hh
  rcases hh with rfl | rfl <;> decide
theorem szd_n : Szd 140737488351232 [] := fun h hh => by simp at hh
theorem field_p0 (a : Option Addr) (n c : Nat) (b : Bool) (w : World) : (Instr.field 33 (.agg #[.slice a n c, .bool b]) 0).run Try.prog w = .ok (.slice a n c) w := by kernel_rfl
theorem field_p1 (a : Option Addr) (n c : Nat) (b : Bool) (w : World) : (Instr.field 33 (.agg #[.slice a n c, .bool b]) 1).run Try.prog w = .ok (.bool b) w := by kernel_rfl

theorem names_tx (w : World) : TxAt (w.alloc (.cells #[.string ⟨#[120]⟩, .string ⟨#[]⟩, .string ⟨#[115, 99, 114, 105, 112, 116, 45, 115, 114, 99, 45, 101, 108, 101, 109]⟩, .string ⟨#[115, 116, 121, 108, 101, 45, 115, 114, 99, 45, 101, 108, 101, 109]⟩, .string ⟨#[119, 111, 114, 107, 101, 114, 45, 115, 114, 99]⟩, .string ⟨#[102, 114, 97, 109, 101, 45, 115, 114, 99]⟩, .string ⟨#[99, 111, 110, 110, 101, 99, 116, 45, 115, 114, 99]⟩, .string ⟨#[102, 111, 110, 116, 45, 115, 114, 99]⟩, .string ⟨#[105, 109, 103, 45, 115, 114, 99]⟩, .string ⟨#[109, 101, 100, 105, 97, 45, 115, 114, 99]⟩, .string ⟨#[115, 99, 114, 105, 112, 116, 45, 115, 114, 99]⟩, .string ⟨#[115, 116, 121, 108, 101, 45, 115, 114, 99]⟩, .string ⟨#[99, 104, 105, 108, 100, 45, 115, 114, 99]⟩, .string ⟨#[111, 98, 106, 101, 99, 116, 45, 115, 114, 99]⟩, .string ⟨#[100, 101, 102, 97, 117, 108, 116, 45, 115, 114, 99]⟩] 9)) (.slice (some ⟨w.heap.size, 0, none⟩) 15 15) namesL := by
  refine ⟨_, 15, rfl, Nat.le_refl _, by decide, fun j hj => ⟨_, _, rfl, ?_⟩⟩
  rw [Lib.cell_of_heap (heap_alloc_new w _), Nat.zero_add]
  match j, hj with
  | 0, _ => rfl
  | 1, _ => rfl
  | 2, _ => rfl
  | 3, _ => rfl
  | 4, _ => rfl
  | 5, _ => rfl
  | 6, _ => rfl
  | 7, _ => rfl
  | 8, _ => rfl
  | 9, _ => rfl
  | 10, _ => rfl
  | 11, _ => rfl
  | 12, _ => rfl
  | 13, _ => rfl
  | 14, _ => rfl
  | j + 15, hj => exact absurd hj (by simp [namesL])

theorem hd_0 (w : World) : HdAt (w.alloc (.cells #[.string ⟨#[67, 111, 110, 116, 101, 110, 116, 45, 83, 101, 99, 117, 114, 105, 116, 121, 45, 80, 111, 108, 105, 99, 121, 45, 82, 101, 112, 111, 114, 116, 45, 79, 110, 108, 121]⟩, .string ⟨#[97]⟩, .string ⟨#[99, 111, 110, 116, 101, 110, 116, 45, 115, 101, 99, 117, 114, 105, 116, 121, 45, 112, 111, 108, 105, 99, 121]⟩, .string ⟨#[98, 44, 32, 44, 99, 32, 100]⟩] 29)) (.slice (some ⟨w.heap.size, 0, none⟩) 2 2) H0 := by
  refine ⟨_, 2, rfl, Nat.le_refl _, by decide, fun j hj => ⟨_, _, rfl, ?_⟩⟩
  rw [Lib.cell_of_heap (heap_alloc_new w _), Lib.cell_of_heap (heap_alloc_new w _)]
  match j, hj with
  | 0, _ => exact ⟨rfl, rfl⟩
  | 1, _ => exact ⟨rfl, rfl⟩
  | j + 2, hj => exact absurd hj (by simp)

theorem many_step (S : ByteArray) (k a b : Nat) (hk : k < 40) (h : S.data.toList = manyV k) (ha : a = 97 + k % 26) (hb : b = 97 + k / 26) :
    (S ++ (⟨#[97]⟩ : ByteArray) ++ (⟨#[UInt8.ofNat a]⟩ : ByteArray) ++ (⟨#[UInt8.ofNat b]⟩ : ByteArray) ++ (⟨#[59]⟩ : ByteArray)).data.toList = manyV (k + 1) ∧ (S ++ (⟨#[97]⟩ : ByteArray) ++ (⟨#[UInt8.ofNat a]⟩ : ByteArray) ++ (⟨#[UInt8.ofNat b]⟩ : ByteArray) ++ (⟨#[59]⟩ : ByteArray)).size ≤ 160 := by
  have h1 : (S ++ (⟨#[97]⟩ : ByteArray) ++ (⟨#[UInt8.ofNat a]⟩ : ByteArray) ++ (⟨#[UInt8.ofNat b]⟩ : ByteArray) ++ (⟨#[59]⟩ : ByteArray)).data.toList = manyV (k + 1) := by
    rw [manyV, ← h, ha, hb]
    simp
  refine ⟨h1, ?_⟩
  rw [Lib.size_eq, h1, many_len]
  omega

set_option maxHeartbeats 8000000 in
set_option maxRecDepth 100000 in
theorem policyNumbers_walk (w : World) :
    Calls Try.prog 3 #[] w fun e w' => e = .returned (.bool true) ∧ Below w.heap.size w w' := by
  have HFP := hid (fun d X => for10 d X)
  have HFR := hid (fun d X => rfor10 d X)
  obtain ⟨W0, hW0⟩ : ∃ W, W = w.alloc (.cells #[.string ⟨#[120]⟩, .string ⟨#[]⟩, .string ⟨#[115, 99, 114, 105, 112, 116, 45, 115, 114, 99, 45, 101, 108, 101, 109]⟩, .string ⟨#[115, 116, 121, 108, 101, 45, 115, 114, 99, 45, 101, 108, 101, 109]⟩, .string ⟨#[119, 111, 114, 107, 101, 114, 45, 115, 114, 99]⟩, .string ⟨#[102, 114, 97, 109, 101, 45, 115, 114, 99]⟩, .string ⟨#[99, 111, 110, 110, 101, 99, 116, 45, 115, 114, 99]⟩, .string ⟨#[102, 111, 110, 116, 45, 115, 114, 99]⟩, .string ⟨#[105, 109, 103, 45, 115, 114, 99]⟩, .string ⟨#[109, 101, 100, 105, 97, 45, 115, 114, 99]⟩, .string ⟨#[115, 99, 114, 105, 112, 116, 45, 115, 114, 99]⟩, .string ⟨#[115, 116, 121, 108, 101, 45, 115, 114, 99]⟩, .string ⟨#[99, 104, 105, 108, 100, 45, 115, 114, 99]⟩, .string ⟨#[111, 98, 106, 101, 99, 116, 45, 115, 114, 99]⟩, .string ⟨#[100, 101, 102, 97, 117, 108, 116, 45, 115, 114, 99]⟩] 9) := ⟨_, rfl⟩
  have HTX := hid (show TxAt W0 (.slice (some ⟨w.heap.size, 0, none⟩) 15 15) namesL by rw [hW0]; exact names_tx w)
  have HB0 := hid (show Below w.heap.size w W0 by rw [hW0]; exact (Below.refl _ w).alloc (Nat.le_refl _) _)
  have HW0 := hid hW0
  clear hW0
  go_enter Try.func3, Try.ntmps3
  go_wp2_with fail
  rw [← HW0.out]
  clear HW0
  go_loopw [2] (fun v2 wr => ∃ i : Nat, i ≤ 15 ∧ v2 = .int .i64 i ∧ Hid (Below W0.heap.size W0 wr)) (fun v2 _ => 15 - (intOf v2).toNat)
  case atStart => exact ⟨0, by decide, rfl, Below.refl _ _⟩
  case round =>
    obtain ⟨i, hi, rfl, HR⟩ := hrel
    by_cases hlt : i < 15
    · have hin : (i : Int) < 15 := by omega
      obtain ⟨a', c', ea, q1, q2, hcell⟩ := HTX.out.view
      injection ea with ea1 ea2 ea3
      clear ea2 ea3 q1 q2
      subst ea1
      obtain ⟨bb, oo, eb, hcv⟩ := hcell i hlt
      injection eb with eb
      injection eb with eb1 eb2
      subst eb1 eb2
      obtain ⟨X, hX⟩ : ∃ X : ByteArray, X = ⟨(namesL[i]'hlt).toArray⟩ := ⟨_, rfl⟩
      rw [← hX, Nat.zero_add] at hcv
      have cX := kept_cell hcv HR.out
      have HC1 := hid (fun Z => chain10 X Z)
      have HC2 := hid (fun Z => rchain10 X Z)
      unfold OwnT at HC1 HC2
      obtain ⟨C, hC⟩ : ∃ C, C = chainV X.data.toList := ⟨_, rfl⟩
      have HCL := hid (show C.length ≤ 4 by rw [hC]; exact chainV_len _)
      rw [← hC] at HC1 HC2
      have HSM := hid (fun va vb Z (h1 : TxAt Z va C) (h2 : TxAt Z vb C) => sameT_any va vb C C Z h1 h2 (by have := HCL.out; omega) (by have := HCL.out; omega))
      rw [show decide (C = C) = true by simp] at HSM
      clear hcell hcv hX hC
      go_wp2_with fail
      have HK1 := hid (fun (A B : World) (hb : Below A.heap.size A B) (h0 : Below wr.heap.size wr A) => (show (fun wx : World => Below wr.heap.size wr wx ∧ wx.cell? ⟨w.heap.size, i, none⟩ = some (.string X)) B from let h := h0.trans (hb.mono h0.size); ⟨h, kept_cell cX h⟩))
      have HK0 := hid (show (fun wx : World => Below wr.heap.size wr wx ∧ wx.cell? ⟨w.heap.size, i, none⟩ = some (.string X)) wr.drew from let h := (Below.refl _ wr).drew; ⟨h, kept_cell cX h⟩)
      go_region_held (fun wx : World => Below wr.heap.size wr wx ∧ wx.cell? ⟨w.heap.size, i, none⟩ = some (.string X))
        (first | exact HK0.out | exact HK1.out _ _ (by assumption) (by (try dsimp only at *); go_split_ands; assumption) | (go_split_ands; exact ⟨by assumption, by assumption⟩))
        (first
          | (go_at_call 9; refine (HC1.out _).mono ?_; rintro e wa ⟨va, rfl, howna, hba⟩)
          | (go_at_call 10; refine (HC2.out _).mono ?_; rintro e wb ⟨vb, rfl, hownb, hbb⟩)
          | (go_at_call 8; with_reducible refine (HSM.out _ _ _ ((own_txt' (L := C) howna).kept hbb) (own_txt' (L := C) hownb)).mono ?_; rintro e wc ⟨rfl, hbc⟩)
          | (go_at_call 8; with_reducible refine (HSM.out _ _ _ (own_txt' (L := C) howna) ((own_txt' (L := C) hownb).kept hba)).mono ?_; rintro e wc ⟨rfl, hbc⟩))
      all_goals
        (try dsimp only at *)
        go_split_ands
        have hbw : Below wr.heap.size wr wc := by assumption
        have HR2 := hid (below2 HR.out hbw)
        clear hbw
        go_wp2_with fail
        go_roundw
        case rel =>
          first
            | exact ⟨i + 1, by omega, by go_num, HR2.out⟩
            | ((repeat apply Exists.intro); refine ⟨?_, rfl⟩; exact ⟨i + 1, by omega, by go_num, HR2.out⟩)
            | ((repeat apply Exists.intro); exact ⟨⟨i + 1, by omega, by go_num, HR2.out⟩, rfl⟩)
        case measure => simp [intOf]; omega
    · obtain rfl : i = 15 := by omega
      have HBB := hid (below2 HB0.out HR.out)
      clear hi hlt HR HTX HB0
      go_wp2_with fail
      obtain ⟨W1, hW1⟩ : ∃ W, W = wr := ⟨_, rfl⟩
      subst hW1
      go_loopw [3] (fun v3 wq => ∃ k : Nat, k ≤ 10 ∧ v3 = .int .i64 ((k : Int) - 1) ∧ Hid (Below W1.heap.size W1 wq)) (fun v3 _ => (9 - intOf v3).toNat)
      case atStart => exact ⟨0, by decide, rfl, Below.refl _ _⟩
      case round =>
        obtain ⟨k, hk, rfl, HE⟩ := hrel
        by_cases hlt : k < 10
        · have hin : (k : Int) - 1 < 9 := by omega
          obtain ⟨F, hF⟩ : ∃ F : ByteArray, F = ⟨(forV ((k : Int) - 1)).toArray⟩ := ⟨_, rfl⟩
          have HF1 := hid (HFP.out ((k : Int) - 1))
          have HF2 := hid (HFR.out ((k : Int) - 1))
          rw [← hF] at HF1 HF2
          clear hF
          go_wp2_with fail
          refine (HF1.out _).mono ?_
          rintro e wz ⟨rfl, rfl⟩
          go_wp2_with fail
          refine (HF2.out _).mono ?_
          rintro e wz ⟨rfl, rfl⟩
          go_wp2_with fail
          go_roundw
          case rel =>
            first
              | exact ⟨k + 1, by omega, by go_num, HE.out⟩
              | ((repeat apply Exists.intro); refine ⟨?_, rfl⟩; exact ⟨k + 1, by omega, by go_num, HE.out⟩)
              | ((repeat apply Exists.intro); exact ⟨⟨k + 1, by omega, by go_num, HE.out⟩, rfl⟩)
          case measure => simp [intOf]; omega
        · obtain rfl : k = 10 := by omega
          clear hk hlt
          go_wp2_with fail
          go_loopw [4, 5] (fun v4 v5 wq => ∃ (S : ByteArray) (k : Nat), k ≤ 40 ∧ v4 = .string S ∧ v5 = .int .i64 k ∧ S.size ≤ 160 ∧ Hid (S.data.toList = manyV k ∧ Below W1.heap.size W1 wq)) (fun _ v5 _ => 40 - (intOf v5).toNat)
          case atStart => exact ⟨⟨#[]⟩, 0, by decide, rfl, rfl, by decide, rfl, HE.out⟩
          case round =>
            obtain ⟨S, k, hk, rfl, rfl, hS, HM⟩ := hrel
            by_cases hlt : k < 40
            · have hkk : k = 0 ∨ k = 1 ∨ k = 2 ∨ k = 3 ∨ k = 4 ∨ k = 5 ∨ k = 6 ∨ k = 7 ∨ k = 8 ∨ k = 9 ∨ k = 10 ∨ k = 11 ∨ k = 12 ∨ k = 13 ∨ k = 14 ∨ k = 15 ∨ k = 16 ∨ k = 17 ∨ k = 18 ∨ k = 19 ∨ k = 20 ∨ k = 21 ∨ k = 22 ∨ k = 23 ∨ k = 24 ∨ k = 25 ∨ k = 26 ∨ k = 27 ∨ k = 28 ∨ k = 29 ∨ k = 30 ∨ k = 31 ∨ k = 32 ∨ k = 33 ∨ k = 34 ∨ k = 35 ∨ k = 36 ∨ k = 37 ∨ k = 38 ∨ k = 39 := by omega
              rcases hkk with rfl | rfl | rfl | rfl | rfl | rfl | rfl | rfl | rfl | rfl | rfl | rfl | rfl | rfl | rfl | rfl | rfl | rfl | rfl | rfl | rfl | rfl | rfl | rfl | rfl | rfl | rfl | rfl | rfl | rfl | rfl | rfl | rfl | rfl | rfl | rfl | rfl | rfl | rfl | rfl
              · have hA : Utf8.encode 97 = ⟨#[97]⟩ := enc_low 97 (by decide)
                have HN := hid (show (S ++ (⟨#[97]⟩ : ByteArray) ++ (⟨#[97]⟩ : ByteArray) ++ (⟨#[97]⟩ : ByteArray) ++ (⟨#[59]⟩ : ByteArray)).data.toList = manyV (0 + 1) ∧ (S ++ (⟨#[97]⟩ : ByteArray) ++ (⟨#[97]⟩ : ByteArray) ++ (⟨#[97]⟩ : ByteArray) ++ (⟨#[59]⟩ : ByteArray)).size ≤ 160 from many_step S 0 97 97 (by decide) HM.out.1 rfl rfl)
                have z1 : (⟨#[97]⟩ : ByteArray).size = 1 := rfl
                have z2 : (⟨#[97]⟩ : ByteArray).size = 1 := rfl
                have z3 : (⟨#[97]⟩ : ByteArray).size = 1 := rfl
                go_wp2_with fail
                go_roundw
                case rel =>
                  first
                    | exact ⟨_, 0 + 1, by decide, rfl, rfl, HN.out.2, HN.out.1, HM.out.2⟩
                    | ((repeat apply Exists.intro); refine ⟨?_, rfl⟩; exact ⟨_, 0 + 1, by decide, rfl, rfl, HN.out.2, HN.out.1, HM.out.2⟩)
                    | ((repeat apply Exists.intro); exact ⟨⟨_, 0 + 1, by decide, rfl, rfl, HN.out.2, HN.out.1, HM.out.2⟩, rfl⟩)
                case measure => simp [intOf]
              · have hA : Utf8.encode 98 = ⟨#[98]⟩ := enc_low 98 (by decide)
                have hB : Utf8.encode 97 = ⟨#[97]⟩ := enc_low 97 (by decide)
                have HN := hid (show (S ++ (⟨#[97]⟩ : ByteArray) ++ (⟨#[98]⟩ : ByteArray) ++ (⟨#[97]⟩ : ByteArray) ++ (⟨#[59]⟩ : ByteArray)).data.toList = manyV (1 + 1) ∧ (S ++ (⟨#[97]⟩ : ByteArray) ++ (⟨#[98]⟩ : ByteArray) ++ (⟨#[97]⟩ : ByteArray) ++ (⟨#[59]⟩ : ByteArray)).size ≤ 160 from many_step S 1 98 97 (by decide) HM.out.1 rfl rfl)
                have z1 : (⟨#[97]⟩ : ByteArray).size = 1 := rfl
                have z2 : (⟨#[98]⟩ : ByteArray).size = 1 := rfl
                have z3 : (⟨#[97]⟩ : ByteArray).size = 1 := rfl
                go_wp2_with fail
                go_roundw
                case rel =>
                  first
                    | exact ⟨_, 1 + 1, by decide, rfl, rfl, HN.out.2, HN.out.1, HM.out.2⟩
                    | ((repeat apply Exists.intro); refine ⟨?_, rfl⟩; exact ⟨_, 1 + 1, by decide, rfl, rfl, HN.out.2, HN.out.1, HM.out.2⟩)
                    | ((repeat apply Exists.intro); exact ⟨⟨_, 1 + 1, by decide, rfl, rfl, HN.out.2, HN.out.1, HM.out.2⟩, rfl⟩)
                case measure => simp [intOf]
              · have hA : Utf8.encode 99 = ⟨#[99]⟩ := enc_low 99 (by decide)
                have hB : Utf8.encode 97 = ⟨#[97]⟩ := enc_low 97 (by decide)
                have HN := hid (show (S ++ (⟨#[97]⟩ : ByteArray) ++ (⟨#[99]⟩ : ByteArray) ++ (⟨#[97]⟩ : ByteArray) ++ (⟨#[59]⟩ : ByteArray)).data.toList = manyV (2 + 1) ∧ (S ++ (⟨#[97]⟩ : ByteArray) ++ (⟨#[99]⟩ : ByteArray) ++ (⟨#[97]⟩ : ByteArray) ++ (⟨#[59]⟩ : ByteArray)).size ≤ 160 from many_step S 2 99 97 (by decide) HM.out.1 rfl rfl)
                have z1 : (⟨#[97]⟩ : ByteArray).size = 1 := rfl
                have z2 : (⟨#[99]⟩ : ByteArray).size = 1 := rfl
                have z3 : (⟨#[97]⟩ : ByteArray).size = 1 := rfl
                go_wp2_with fail
                go_roundw
                case rel =>
                  first
                    | exact ⟨_, 2 + 1, by decide, rfl, rfl, HN.out.2, HN.out.1, HM.out.2⟩
                    | ((repeat apply Exists.intro); refine ⟨?_, rfl⟩; exact ⟨_, 2 + 1, by decide, rfl, rfl, HN.out.2, HN.out.1, HM.out.2⟩)
                    | ((repeat apply Exists.intro); exact ⟨⟨_, 2 + 1, by decide, rfl, rfl, HN.out.2, HN.out.1, HM.out.2⟩, rfl⟩)
                case measure => simp [intOf]
              · have hA : Utf8.encode 100 = ⟨#[100]⟩ := enc_low 100 (by decide)
                have hB : Utf8.encode 97 = ⟨#[97]⟩ := enc_low 97 (by decide)
                have HN := hid (show (S ++ (⟨#[97]⟩ : ByteArray) ++ (⟨#[100]⟩ : ByteArray) ++ (⟨#[97]⟩ : ByteArray) ++ (⟨#[59]⟩ : ByteArray)).data.toList = manyV (3 + 1) ∧ (S ++ (⟨#[97]⟩ : ByteArray) ++ (⟨#[100]⟩ : ByteArray) ++ (⟨#[97]⟩ : ByteArray) ++ (⟨#[59]⟩ : ByteArray)).size ≤ 160 from many_step S 3 100 97 (by decide) HM.out.1 rfl rfl)
                have z1 : (⟨#[97]⟩ : ByteArray).size = 1 := rfl
                have z2 : (⟨#[100]⟩ : ByteArray).size = 1 := rfl
                have z3 : (⟨#[97]⟩ : ByteArray).size = 1 := rfl
                go_wp2_with fail
                go_roundw
                case rel =>
                  first
                    | exact ⟨_, 3 + 1, by decide, rfl, rfl, HN.out.2, HN.out.1, HM.out.2⟩
                    | ((repeat apply Exists.intro); refine ⟨?_, rfl⟩; exact ⟨_, 3 + 1, by decide, rfl, rfl, HN.out.2, HN.out.1, HM.out.2⟩)
                    | ((repeat apply Exists.intro); exact ⟨⟨_, 3 + 1, by decide, rfl, rfl, HN.out.2, HN.out.1, HM.out.2⟩, rfl⟩)
                case measure => simp [intOf]
              · have hA : Utf8.encode 101 = ⟨#[101]⟩ := enc_low 101 (by decide)
                have hB : Utf8.encode 97 = ⟨#[97]⟩ := enc_low 97 (by decide)
                have HN := hid (show (S ++ (⟨#[97]⟩ : ByteArray) ++ (⟨#[101]⟩ : ByteArray) ++ (⟨#[97]⟩ : ByteArray) ++ (⟨#[59]⟩ : ByteArray)).data.toList = manyV (4 + 1) ∧ (S ++ (⟨#[97]⟩ : ByteArray) ++ (⟨#[101]⟩ : ByteArray) ++ (⟨#[97]⟩ : ByteArray) ++ (⟨#[59]⟩ : ByteArray)).size ≤ 160 from many_step S 4 101 97 (by decide) HM.out.1 rfl rfl)
                have z1 : (⟨#[97]⟩ : ByteArray).size = 1 := rfl
                have z2 : (⟨#[101]⟩ : ByteArray).size = 1 := rfl
                have z3 : (⟨#[97]⟩ : ByteArray).size = 1 := rfl
                go_wp2_with fail
                go_roundw
                case rel =>
                  first
                    | exact ⟨_, 4 + 1, by decide, rfl, rfl, HN.out.2, HN.out.1, HM.out.2⟩
                    | ((repeat apply Exists.intro); refine ⟨?_, rfl⟩; exact ⟨_, 4 + 1, by decide, rfl, rfl, HN.out.2, HN.out.1, HM.out.2⟩)
                    | ((repeat apply Exists.intro); exact ⟨⟨_, 4 + 1, by decide, rfl, rfl, HN.out.2, HN.out.1, HM.out.2⟩, rfl⟩)
                case measure => simp [intOf]
              · have hA : Utf8.encode 102 = ⟨#[102]⟩ := enc_low 102 (by decide)
                have hB : Utf8.encode 97 = ⟨#[97]⟩ := enc_low 97 (by decide)
                have HN := hid (show (S ++ (⟨#[97]⟩ : ByteArray) ++ (⟨#[102]⟩ : ByteArray) ++ (⟨#[97]⟩ : ByteArray) ++ (⟨#[59]⟩ : ByteArray)).data.toList = manyV (5 + 1) ∧ (S ++ (⟨#[97]⟩ : ByteArray) ++ (⟨#[102]⟩ : ByteArray) ++ (⟨#[97]⟩ : ByteArray) ++ (⟨#[59]⟩ : ByteArray)).size ≤ 160 from many_step S 5 102 97 (by decide) HM.out.1 rfl rfl)
                have z1 : (⟨#[97]⟩ : ByteArray).size = 1 := rfl
                have z2 : (⟨#[102]⟩ : ByteArray).size = 1 := rfl
                have z3 : (⟨#[97]⟩ : ByteArray).size = 1 := rfl
                go_wp2_with fail
                go_roundw
                case rel =>
                  first
                    | exact ⟨_, 5 + 1, by decide, rfl, rfl, HN.out.2, HN.out.1, HM.out.2⟩
                    | ((repeat apply Exists.intro); refine ⟨?_, rfl⟩; exact ⟨_, 5 + 1, by decide, rfl, rfl, HN.out.2, HN.out.1, HM.out.2⟩)
                    | ((repeat apply Exists.intro); exact ⟨⟨_, 5 + 1, by decide, rfl, rfl, HN.out.2, HN.out.1, HM.out.2⟩, rfl⟩)
                case measure => simp [intOf]
              · have hA : Utf8.encode 103 = ⟨#[103]⟩ := enc_low 103 (by decide)
                have hB : Utf8.encode 97 = ⟨#[97]⟩ := enc_low 97 (by decide)
                have HN := hid (show (S ++ (⟨#[97]⟩ : ByteArray) ++ (⟨#[103]⟩ : ByteArray) ++ (⟨#[97]⟩ : ByteArray) ++ (⟨#[59]⟩ : ByteArray)).data.toList = manyV (6 + 1) ∧ (S ++ (⟨#[97]⟩ : ByteArray) ++ (⟨#[103]⟩ : ByteArray) ++ (⟨#[97]⟩ : ByteArray) ++ (⟨#[59]⟩ : ByteArray)).size ≤ 160 from many_step S 6 103 97 (by decide) HM.out.1 rfl rfl)
                have z1 : (⟨#[97]⟩ : ByteArray).size = 1 := rfl
                have z2 : (⟨#[103]⟩ : ByteArray).size = 1 := rfl
                have z3 : (⟨#[97]⟩ : ByteArray).size = 1 := rfl
                go_wp2_with fail
                go_roundw
                case rel =>
                  first
                    | exact ⟨_, 6 + 1, by decide, rfl, rfl, HN.out.2, HN.out.1, HM.out.2⟩
                    | ((repeat apply Exists.intro); refine ⟨?_, rfl⟩; exact ⟨_, 6 + 1, by decide, rfl, rfl, HN.out.2, HN.out.1, HM.out.2⟩)
                    | ((repeat apply Exists.intro); exact ⟨⟨_, 6 + 1, by decide, rfl, rfl, HN.out.2, HN.out.1, HM.out.2⟩, rfl⟩)
                case measure => simp [intOf]
              · have hA : Utf8.encode 104 = ⟨#[104]⟩ := enc_low 104 (by decide)
                have hB : Utf8.encode 97 = ⟨#[97]⟩ := enc_low 97 (by decide)
                have HN := hid (show (S ++ (⟨#[97]⟩ : ByteArray) ++ (⟨#[104]⟩ : ByteArray) ++ (⟨#[97]⟩ : ByteArray) ++ (⟨#[59]⟩ : ByteArray)).data.toList = manyV (7 + 1) ∧ (S ++ (⟨#[97]⟩ : ByteArray) ++ (⟨#[104]⟩ : ByteArray) ++ (⟨#[97]⟩ : ByteArray) ++ (⟨#[59]⟩ : ByteArray)).size ≤ 160 from many_step S 7 104 97 (by decide) HM.out.1 rfl rfl)
                have z1 : (⟨#[97]⟩ : ByteArray).size = 1 := rfl
                have z2 : (⟨#[104]⟩ : ByteArray).size = 1 := rfl
                have z3 : (⟨#[97]⟩ : ByteArray).size = 1 := rfl
                go_wp2_with fail
                go_roundw
                case rel =>
                  first
                    | exact ⟨_, 7 + 1, by decide, rfl, rfl, HN.out.2, HN.out.1, HM.out.2⟩
                    | ((repeat apply Exists.intro); refine ⟨?_, rfl⟩; exact ⟨_, 7 + 1, by decide, rfl, rfl, HN.out.2, HN.out.1, HM.out.2⟩)
                    | ((repeat apply Exists.intro); exact ⟨⟨_, 7 + 1, by decide, rfl, rfl, HN.out.2, HN.out.1, HM.out.2⟩, rfl⟩)
                case measure => simp [intOf]
              · have hA : Utf8.encode 105 = ⟨#[105]⟩ := enc_low 105 (by decide)
                have hB : Utf8.encode 97 = ⟨#[97]⟩ := enc_low 97 (by decide)
                have HN := hid (show (S ++ (⟨#[97]⟩ : ByteArray) ++ (⟨#[105]⟩ : ByteArray) ++ (⟨#[97]⟩ : ByteArray) ++ (⟨#[59]⟩ : ByteArray)).data.toList = manyV (8 + 1) ∧ (S ++ (⟨#[97]⟩ : ByteArray) ++ (⟨#[105]⟩ : ByteArray) ++ (⟨#[97]⟩ : ByteArray) ++ (⟨#[59]⟩ : ByteArray)).size ≤ 160 from many_step S 8 105 97 (by decide) HM.out.1 rfl rfl)
                have z1 : (⟨#[97]⟩ : ByteArray).size = 1 := rfl
                have z2 : (⟨#[105]⟩ : ByteArray).size = 1 := rfl
                have z3 : (⟨#[97]⟩ : ByteArray).size = 1 := rfl
                go_wp2_with fail
                go_roundw
                case rel =>
                  first
                    | exact ⟨_, 8 + 1, by decide, rfl, rfl, HN.out.2, HN.out.1, HM.out.2⟩
                    | ((repeat apply Exists.intro); refine ⟨?_, rfl⟩; exact ⟨_, 8 + 1, by decide, rfl, rfl, HN.out.2, HN.out.1, HM.out.2⟩)
                    | ((repeat apply Exists.intro); exact ⟨⟨_, 8 + 1, by decide, rfl, rfl, HN.out.2, HN.out.1, HM.out.2⟩, rfl⟩)
                case measure => simp [intOf]
              · have hA : Utf8.encode 106 = ⟨#[106]⟩ := enc_low 106 (by decide)
                have hB : Utf8.encode 97 = ⟨#[97]⟩ := enc_low 97 (by decide)
                have HN := hid (show (S ++ (⟨#[97]⟩ : ByteArray) ++ (⟨#[106]⟩ : ByteArray) ++ (⟨#[97]⟩ : ByteArray) ++ (⟨#[59]⟩ : ByteArray)).data.toList = manyV (9 + 1) ∧ (S ++ (⟨#[97]⟩ : ByteArray) ++ (⟨#[106]⟩ : ByteArray) ++ (⟨#[97]⟩ : ByteArray) ++ (⟨#[59]⟩ : ByteArray)).size ≤ 160 from many_step S 9 106 97 (by decide) HM.out.1 rfl rfl)
                have z1 : (⟨#[97]⟩ : ByteArray).size = 1 := rfl
                have z2 : (⟨#[106]⟩ : ByteArray).size = 1 := rfl
                have z3 : (⟨#[97]⟩ : ByteArray).size = 1 := rfl
                go_wp2_with fail
                go_roundw
                case rel =>
                  first
                    | exact ⟨_, 9 + 1, by decide, rfl, rfl, HN.out.2, HN.out.1, HM.out.2⟩
                    | ((repeat apply Exists.intro); refine ⟨?_, rfl⟩; exact ⟨_, 9 + 1, by decide, rfl, rfl, HN.out.2, HN.out.1, HM.out.2⟩)
                    | ((repeat apply Exists.intro); exact ⟨⟨_, 9 + 1, by decide, rfl, rfl, HN.out.2, HN.out.1, HM.out.2⟩, rfl⟩)
                case measure => simp [intOf]
              · have hA : Utf8.encode 107 = ⟨#[107]⟩ := enc_low 107 (by decide)
                have hB : Utf8.encode 97 = ⟨#[97]⟩ := enc_low 97 (by decide)
                have HN := hid (show (S ++ (⟨#[97]⟩ : ByteArray) ++ (⟨#[107]⟩ : ByteArray) ++ (⟨#[97]⟩ : ByteArray) ++ (⟨#[59]⟩ : ByteArray)).data.toList = manyV (10 + 1) ∧ (S ++ (⟨#[97]⟩ : ByteArray) ++ (⟨#[107]⟩ : ByteArray) ++ (⟨#[97]⟩ : ByteArray) ++ (⟨#[59]⟩ : ByteArray)).size ≤ 160 from many_step S 10 107 97 (by decide) HM.out.1 rfl rfl)
                have z1 : (⟨#[97]⟩ : ByteArray).size = 1 := rfl
                have z2 : (⟨#[107]⟩ : ByteArray).size = 1 := rfl
                have z3 : (⟨#[97]⟩ : ByteArray).size = 1 := rfl
                go_wp2_with fail
                go_roundw
                case rel =>
                  first
                    | exact ⟨_, 10 + 1, by decide, rfl, rfl, HN.out.2, HN.out.1, HM.out.2⟩
                    | ((repeat apply Exists.intro); refine ⟨?_, rfl⟩; exact ⟨_, 10 + 1, by decide, rfl, rfl, HN.out.2, HN.out.1, HM.out.2⟩)
                    | ((repeat apply Exists.intro); exact ⟨⟨_, 10 + 1, by decide, rfl, rfl, HN.out.2, HN.out.1, HM.out.2⟩, rfl⟩)
                case measure => simp [intOf]
              · have hA : Utf8.encode 108 = ⟨#[108]⟩ := enc_low 108 (by decide)
                have hB : Utf8.encode 97 = ⟨#[97]⟩ := enc_low 97 (by decide)
                have HN := hid (show (S ++ (⟨#[97]⟩ : ByteArray) ++ (⟨#[108]⟩ : ByteArray) ++ (⟨#[97]⟩ : ByteArray) ++ (⟨#[59]⟩ : ByteArray)).data.toList = manyV (11 + 1) ∧ (S ++ (⟨#[97]⟩ : ByteArray) ++ (⟨#[108]⟩ : ByteArray) ++ (⟨#[97]⟩ : ByteArray) ++ (⟨#[59]⟩ : ByteArray)).size ≤ 160 from many_step S 11 108 97 (by decide) HM.out.1 rfl rfl)
                have z1 : (⟨#[97]⟩ : ByteArray).size = 1 := rfl
                have z2 : (⟨#[108]⟩ : ByteArray).size = 1 := rfl
                have z3 : (⟨#[97]⟩ : ByteArray).size = 1 := rfl
                go_wp2_with fail
                go_roundw
                case rel =>
                  first
                    | exact ⟨_, 11 + 1, by decide, rfl, rfl, HN.out.2, HN.out.1, HM.out.2⟩
                    | ((repeat apply Exists.intro); refine ⟨?_, rfl⟩; exact ⟨_, 11 + 1, by decide, rfl, rfl, HN.out.2, HN.out.1, HM.out.2⟩)
                    | ((repeat apply Exists.intro); exact ⟨⟨_, 11 + 1, by decide, rfl, rfl, HN.out.2, HN.out.1, HM.out.2⟩, rfl⟩)
                case measure => simp [intOf]
              · have hA : Utf8.encode 109 = ⟨#[109]⟩ := enc_low 109 (by decide)
                have hB : Utf8.encode 97 = ⟨#[97]⟩ := enc_low 97 (by decide)
                have HN := hid (show (S ++ (⟨#[97]⟩ : ByteArray) ++ (⟨#[109]⟩ : ByteArray) ++ (⟨#[97]⟩ : ByteArray) ++ (⟨#[59]⟩ : ByteArray)).data.toList = manyV (12 + 1) ∧ (S ++ (⟨#[97]⟩ : ByteArray) ++ (⟨#[109]⟩ : ByteArray) ++ (⟨#[97]⟩ : ByteArray) ++ (⟨#[59]⟩ : ByteArray)).size ≤ 160 from many_step S 12 109 97 (by decide) HM.out.1 rfl rfl)
                have z1 : (⟨#[97]⟩ : ByteArray).size = 1 := rfl
                have z2 : (⟨#[109]⟩ : ByteArray).size = 1 := rfl
                have z3 : (⟨#[97]⟩ : ByteArray).size = 1 := rfl
                go_wp2_with fail
                go_roundw
                case rel =>
                  first
                    | exact ⟨_, 12 + 1, by decide, rfl, rfl, HN.out.2, HN.out.1, HM.out.2⟩
                    | ((repeat apply Exists.intro); refine ⟨?_, rfl⟩; exact ⟨_, 12 + 1, by decide, rfl, rfl, HN.out.2, HN.out.1, HM.out.2⟩)
                    | ((repeat apply Exists.intro); exact ⟨⟨_, 12 + 1, by decide, rfl, rfl, HN.out.2, HN.out.1, HM.out.2⟩, rfl⟩)
                case measure => simp [intOf]
              · have hA : Utf8.encode 110 = ⟨#[110]⟩ := enc_low 110 (by decide)
                have hB : Utf8.encode 97 = ⟨#[97]⟩ := enc_low 97 (by decide)
                have HN := hid (show (S ++ (⟨#[97]⟩ : ByteArray) ++ (⟨#[110]⟩ : ByteArray) ++ (⟨#[97]⟩ : ByteArray) ++ (⟨#[59]⟩ : ByteArray)).data.toList = manyV (13 + 1) ∧ (S ++ (⟨#[97]⟩ : ByteArray) ++ (⟨#[110]⟩ : ByteArray) ++ (⟨#[97]⟩ : ByteArray) ++ (⟨#[59]⟩ : ByteArray)).size ≤ 160 from many_step S 13 110 97 (by decide) HM.out.1 rfl rfl)
                have z1 : (⟨#[97]⟩ : ByteArray).size = 1 := rfl
                have z2 : (⟨#[110]⟩ : ByteArray).size = 1 := rfl
                have z3 : (⟨#[97]⟩ : ByteArray).size = 1 := rfl
                go_wp2_with fail
                go_roundw
                case rel =>
                  first
                    | exact ⟨_, 13 + 1, by decide, rfl, rfl, HN.out.2, HN.out.1, HM.out.2⟩
                    | ((repeat apply Exists.intro); refine ⟨?_, rfl⟩; exact ⟨_, 13 + 1, by decide, rfl, rfl, HN.out.2, HN.out.1, HM.out.2⟩)
                    | ((repeat apply Exists.intro); exact ⟨⟨_, 13 + 1, by decide, rfl, rfl, HN.out.2, HN.out.1, HM.out.2⟩, rfl⟩)
                case measure => simp [intOf]
              · have hA : Utf8.encode 111 = ⟨#[111]⟩ := enc_low 111 (by decide)
                have hB : Utf8.encode 97 = ⟨#[97]⟩ := enc_low 97 (by decide)
                have HN := hid (show (S ++ (⟨#[97]⟩ : ByteArray) ++ (⟨#[111]⟩ : ByteArray) ++ (⟨#[97]⟩ : ByteArray) ++ (⟨#[59]⟩ : ByteArray)).data.toList = manyV (14 + 1) ∧ (S ++ (⟨#[97]⟩ : ByteArray) ++ (⟨#[111]⟩ : ByteArray) ++ (⟨#[97]⟩ : ByteArray) ++ (⟨#[59]⟩ : ByteArray)).size ≤ 160 from many_step S 14 111 97 (by decide) HM.out.1 rfl rfl)
                have z1 : (⟨#[97]⟩ : ByteArray).size = 1 := rfl
                have z2 : (⟨#[111]⟩ : ByteArray).size = 1 := rfl
                have z3 : (⟨#[97]⟩ : ByteArray).size = 1 := rfl
                go_wp2_with fail
                go_roundw
                case rel =>
                  first
                    | exact ⟨_, 14 + 1, by decide, rfl, rfl, HN.out.2, HN.out.1, HM.out.2⟩
                    | ((repeat apply Exists.intro); refine ⟨?_, rfl⟩; exact ⟨_, 14 + 1, by decide, rfl, rfl, HN.out.2, HN.out.1, HM.out.2⟩)
                    | ((repeat apply Exists.intro); exact ⟨⟨_, 14 + 1, by decide, rfl, rfl, HN.out.2, HN.out.1, HM.out.2⟩, rfl⟩)
                case measure => simp [intOf]
              · have hA : Utf8.encode 112 = ⟨#[112]⟩ := enc_low 112 (by decide)
                have hB : Utf8.encode 97 = ⟨#[97]⟩ := enc_low 97 (by decide)
                have HN := hid (show (S ++ (⟨#[97]⟩ : ByteArray) ++ (⟨#[112]⟩ : ByteArray) ++ (⟨#[97]⟩ : ByteArray) ++ (⟨#[59]⟩ : ByteArray)).data.toList = manyV (15 + 1) ∧ (S ++ (⟨#[97]⟩ : ByteArray) ++ (⟨#[112]⟩ : ByteArray) ++ (⟨#[97]⟩ : ByteArray) ++ (⟨#[59]⟩ : ByteArray)).size ≤ 160 from many_step S 15 112 97 (by decide) HM.out.1 rfl rfl)
                have z1 : (⟨#[97]⟩ : ByteArray).size = 1 := rfl
                have z2 : (⟨#[112]⟩ : ByteArray).size = 1 := rfl
                have z3 : (⟨#[97]⟩ : ByteArray).size = 1 := rfl
                go_wp2_with fail
                go_roundw
                case rel =>
                  first
                    | exact ⟨_, 15 + 1, by decide, rfl, rfl, HN.out.2, HN.out.1, HM.out.2⟩
                    | ((repeat apply Exists.intro); refine ⟨?_, rfl⟩; exact ⟨_, 15 + 1, by decide, rfl, rfl, HN.out.2, HN.out.1, HM.out.2⟩)
                    | ((repeat apply Exists.intro); exact ⟨⟨_, 15 + 1, by decide, rfl, rfl, HN.out.2, HN.out.1, HM.out.2⟩, rfl⟩)
                case measure => simp [intOf]
              · have hA : Utf8.encode 113 = ⟨#[113]⟩ := enc_low 113 (by decide)
                have hB : Utf8.encode 97 = ⟨#[97]⟩ := enc_low 97 (by decide)
                have HN := hid (show (S ++ (⟨#[97]⟩ : ByteArray) ++ (⟨#[113]⟩ : ByteArray) ++ (⟨#[97]⟩ : ByteArray) ++ (⟨#[59]⟩ : ByteArray)).data.toList = manyV (16 + 1) ∧ (S ++ (⟨#[97]⟩ : ByteArray) ++ (⟨#[113]⟩ : ByteArray) ++ (⟨#[97]⟩ : ByteArray) ++ (⟨#[59]⟩ : ByteArray)).size ≤ 160 from many_step S 16 113 97 (by decide) HM.out.1 rfl rfl)
                have z1 : (⟨#[97]⟩ : ByteArray).size = 1 := rfl
                have z2 : (⟨#[113]⟩ : ByteArray).size = 1 := rfl
                have z3 : (⟨#[97]⟩ : ByteArray).size = 1 := rfl
                go_wp2_with fail
                go_roundw
                case rel =>
                  first
                    | exact ⟨_, 16 + 1, by decide, rfl, rfl, HN.out.2, HN.out.1, HM.out.2⟩
                    | ((repeat apply Exists.intro); refine ⟨?_, rfl⟩; exact ⟨_, 16 + 1, by decide, rfl, rfl, HN.out.2, HN.out.1, HM.out.2⟩)
                    | ((repeat apply Exists.intro); exact ⟨⟨_, 16 + 1, by decide, rfl, rfl, HN.out.2, HN.out.1, HM.out.2⟩, rfl⟩)
                case measure => simp [intOf]
              · have hA : Utf8.encode 114 = ⟨#[114]⟩ := enc_low 114 (by decide)
                have hB : Utf8.encode 97 = ⟨#[97]⟩ := enc_low 97 (by decide)
                have HN := hid (show (S ++ (⟨#[97]⟩ : ByteArray) ++ (⟨#[114]⟩ : ByteArray) ++ (⟨#[97]⟩ : ByteArray) ++ (⟨#[59]⟩ : ByteArray)).data.toList = manyV (17 + 1) ∧ (S ++ (⟨#[97]⟩ : ByteArray) ++ (⟨#[114]⟩ : ByteArray) ++ (⟨#[97]⟩ : ByteArray) ++ (⟨#[59]⟩ : ByteArray)).size ≤ 160 from many_step S 17 114 97 (by decide) HM.out.1 rfl rfl)
                have z1 : (⟨#[97]⟩ : ByteArray).size = 1 := rfl
                have z2 : (⟨#[114]⟩ : ByteArray).size = 1 := rfl
                have z3 : (⟨#[97]⟩ : ByteArray).size = 1 := rfl
                go_wp2_with fail
                go_roundw
                case rel =>
                  first
                    | exact ⟨_, 17 + 1, by decide, rfl, rfl, HN.out.2, HN.out.1, HM.out.2⟩
                    | ((repeat apply Exists.intro); refine ⟨?_, rfl⟩; exact ⟨_, 17 + 1, by decide, rfl, rfl, HN.out.2, HN.out.1, HM.out.2⟩)
                    | ((repeat apply Exists.intro); exact ⟨⟨_, 17 + 1, by decide, rfl, rfl, HN.out.2, HN.out.1, HM.out.2⟩, rfl⟩)
                case measure => simp [intOf]
              · have hA : Utf8.encode 115 = ⟨#[115]⟩ := enc_low 115 (by decide)
                have hB : Utf8.encode 97 = ⟨#[97]⟩ := enc_low 97 (by decide)
                have HN := hid (show (S ++ (⟨#[97]⟩ : ByteArray) ++ (⟨#[115]⟩ : ByteArray) ++ (⟨#[97]⟩ : ByteArray) ++ (⟨#[59]⟩ : ByteArray)).data.toList = manyV (18 + 1) ∧ (S ++ (⟨#[97]⟩ : ByteArray) ++ (⟨#[115]⟩ : ByteArray) ++ (⟨#[97]⟩ : ByteArray) ++ (⟨#[59]⟩ : ByteArray)).size ≤ 160 from many_step S 18 115 97 (by decide) HM.out.1 rfl rfl)
                have z1 : (⟨#[97]⟩ : ByteArray).size = 1 := rfl
                have z2 : (⟨#[115]⟩ : ByteArray).size = 1 := rfl
                have z3 : (⟨#[97]⟩ : ByteArray).size = 1 := rfl
                go_wp2_with fail
                go_roundw
                case rel =>
                  first
                    | exact ⟨_, 18 + 1, by decide, rfl, rfl, HN.out.2, HN.out.1, HM.out.2⟩
                    | ((repeat apply Exists.intro); refine ⟨?_, rfl⟩; exact ⟨_, 18 + 1, by decide, rfl, rfl, HN.out.2, HN.out.1, HM.out.2⟩)
                    | ((repeat apply Exists.intro); exact ⟨⟨_, 18 + 1, by decide, rfl, rfl, HN.out.2, HN.out.1, HM.out.2⟩, rfl⟩)
                case measure => simp [intOf]
              · have hA : Utf8.encode 116 = ⟨#[116]⟩ := enc_low 116 (by decide)
                have hB : Utf8.encode 97 = ⟨#[97]⟩ := enc_low 97 (by decide)
                have HN := hid (show (S ++ (⟨#[97]⟩ : ByteArray) ++ (⟨#[116]⟩ : ByteArray) ++ (⟨#[97]⟩ : ByteArray) ++ (⟨#[59]⟩ : ByteArray)).data.toList = manyV (19 + 1) ∧ (S ++ (⟨#[97]⟩ : ByteArray) ++ (⟨#[116]⟩ : ByteArray) ++ (⟨#[97]⟩ : ByteArray) ++ (⟨#[59]⟩ : ByteArray)).size ≤ 160 from many_step S 19 116 97 (by decide) HM.out.1 rfl rfl)
                have z1 : (⟨#[97]⟩ : ByteArray).size = 1 := rfl
                have z2 : (⟨#[116]⟩ : ByteArray).size = 1 := rfl
                have z3 : (⟨#[97]⟩ : ByteArray).size = 1 := rfl
                go_wp2_with fail
                go_roundw
                case rel =>
                  first
                    | exact ⟨_, 19 + 1, by decide, rfl, rfl, HN.out.2, HN.out.1, HM.out.2⟩
                    | ((repeat apply Exists.intro); refine ⟨?_, rfl⟩; exact ⟨_, 19 + 1, by decide, rfl, rfl, HN.out.2, HN.out.1, HM.out.2⟩)
                    | ((repeat apply Exists.intro); exact ⟨⟨_, 19 + 1, by decide, rfl, rfl, HN.out.2, HN.out.1, HM.out.2⟩, rfl⟩)
                case measure => simp [intOf]
              · have hA : Utf8.encode 117 = ⟨#[117]⟩ := enc_low 117 (by decide)
                have hB : Utf8.encode 97 = ⟨#[97]⟩ := enc_low 97 (by decide)
                have HN := hid (show (S ++ (⟨#[97]⟩ : ByteArray) ++ (⟨#[117]⟩ : ByteArray) ++ (⟨#[97]⟩ : ByteArray) ++ (⟨#[59]⟩ : ByteArray)).data.toList = manyV (20 + 1) ∧ (S ++ (⟨#[97]⟩ : ByteArray) ++ (⟨#[117]⟩ : ByteArray) ++ (⟨#[97]⟩ : ByteArray) ++ (⟨#[59]⟩ : ByteArray)).size ≤ 160 from many_step S 20 117 97 (by decide) HM.out.1 rfl rfl)
                have z1 : (⟨#[97]⟩ : ByteArray).size = 1 := rfl
                have z2 : (⟨#[117]⟩ : ByteArray).size = 1 := rfl
                have z3 : (⟨#[97]⟩ : ByteArray).size = 1 := rfl
                go_wp2_with fail
                go_roundw
                case rel =>
                  first
                    | exact ⟨_, 20 + 1, by decide, rfl, rfl, HN.out.2, HN.out.1, HM.out.2⟩
                    | ((repeat apply Exists.intro); refine ⟨?_, rfl⟩; exact ⟨_, 20 + 1, by decide, rfl, rfl, HN.out.2, HN.out.1, HM.out.2⟩)
                    | ((repeat apply Exists.intro); exact ⟨⟨_, 20 + 1, by decide, rfl, rfl, HN.out.2, HN.out.1, HM.out.2⟩, rfl⟩)
                case measure => simp [intOf]
              · have hA : Utf8.encode 118 = ⟨#[118]⟩ := enc_low 118 (by decide)
                have hB : Utf8.encode 97 = ⟨#[97]⟩ := enc_low 97 (by decide)
                have HN := hid (show (S ++ (⟨#[97]⟩ : ByteArray) ++ (⟨#[118]⟩ : ByteArray) ++ (⟨#[97]⟩ : ByteArray) ++ (⟨#[59]⟩ : ByteArray)).data.toList = manyV (21 + 1) ∧ (S ++ (⟨#[97]⟩ : ByteArray) ++ (⟨#[118]⟩ : ByteArray) ++ (⟨#[97]⟩ : ByteArray) ++ (⟨#[59]⟩ : ByteArray)).size ≤ 160 from many_step S 21 118 97 (by decide) HM.out.1 rfl rfl)
                have z1 : (⟨#[97]⟩ : ByteArray).size = 1 := rfl
                have z2 : (⟨#[118]⟩ : ByteArray).size = 1 := rfl
                have z3 : (⟨#[97]⟩ : ByteArray).size = 1 := rfl
                go_wp2_with fail
                go_roundw
                case rel =>
                  first
                    | exact ⟨_, 21 + 1, by decide, rfl, rfl, HN.out.2, HN.out.1, HM.out.2⟩
                    | ((repeat apply Exists.intro); refine ⟨?_, rfl⟩; exact ⟨_, 21 + 1, by decide, rfl, rfl, HN.out.2, HN.out.1, HM.out.2⟩)
                    | ((repeat apply Exists.intro); exact ⟨⟨_, 21 + 1, by decide, rfl, rfl, HN.out.2, HN.out.1, HM.out.2⟩, rfl⟩)
                case measure => simp [intOf]
              · have hA : Utf8.encode 119 = ⟨#[119]⟩ := enc_low 119 (by decide)
                have hB : Utf8.encode 97 = ⟨#[97]⟩ := enc_low 97 (by decide)
                have HN := hid (show (S ++ (⟨#[97]⟩ : ByteArray) ++ (⟨#[119]⟩ : ByteArray) ++ (⟨#[97]⟩ : ByteArray) ++ (⟨#[59]⟩ : ByteArray)).data.toList = manyV (22 + 1) ∧ (S ++ (⟨#[97]⟩ : ByteArray) ++ (⟨#[119]⟩ : ByteArray) ++ (⟨#[97]⟩ : ByteArray) ++ (⟨#[59]⟩ : ByteArray)).size ≤ 160 from many_step S 22 119 97 (by decide) HM.out.1 rfl rfl)
                have z1 : (⟨#[97]⟩ : ByteArray).size = 1 := rfl
                have z2 : (⟨#[119]⟩ : ByteArray).size = 1 := rfl
                have z3 : (⟨#[97]⟩ : ByteArray).size = 1 := rfl
                go_wp2_with fail
                go_roundw
                case rel =>
                  first
                    | exact ⟨_, 22 + 1, by decide, rfl, rfl, HN.out.2, HN.out.1, HM.out.2⟩
                    | ((repeat apply Exists.intro); refine ⟨?_, rfl⟩; exact ⟨_, 22 + 1, by decide, rfl, rfl, HN.out.2, HN.out.1, HM.out.2⟩)
                    | ((repeat apply Exists.intro); exact ⟨⟨_, 22 + 1, by decide, rfl, rfl, HN.out.2, HN.out.1, HM.out.2⟩, rfl⟩)
                case measure => simp [intOf]
              · have hA : Utf8.encode 120 = ⟨#[120]⟩ := enc_low 120 (by decide)
                have hB : Utf8.encode 97 = ⟨#[97]⟩ := enc_low 97 (by decide)
                have HN := hid (show (S ++ (⟨#[97]⟩ : ByteArray) ++ (⟨#[120]⟩ : ByteArray) ++ (⟨#[97]⟩ : ByteArray) ++ (⟨#[59]⟩ : ByteArray)).data.toList = manyV (23 + 1) ∧ (S ++ (⟨#[97]⟩ : ByteArray) ++ (⟨#[120]⟩ : ByteArray) ++ (⟨#[97]⟩ : ByteArray) ++ (⟨#[59]⟩ : ByteArray)).size ≤ 160 from many_step S 23 120 97 (by decide) HM.out.1 rfl rfl)
                have z1 : (⟨#[97]⟩ : ByteArray).size = 1 := rfl
                have z2 : (⟨#[120]⟩ : ByteArray).size = 1 := rfl
                have z3 : (⟨#[97]⟩ : ByteArray).size = 1 := rfl
                go_wp2_with fail
                go_roundw
                case rel =>
                  first
                    | exact ⟨_, 23 + 1, by decide, rfl, rfl, HN.out.2, HN.out.1, HM.out.2⟩
                    | ((repeat apply Exists.intro); refine ⟨?_, rfl⟩; exact ⟨_, 23 + 1, by decide, rfl, rfl, HN.out.2, HN.out.1, HM.out.2⟩)
                    | ((repeat apply Exists.intro); exact ⟨⟨_, 23 + 1, by decide, rfl, rfl, HN.out.2, HN.out.1, HM.out.2⟩, rfl⟩)
                case measure => simp [intOf]
              · have hA : Utf8.encode 121 = ⟨#[121]⟩ := enc_low 121 (by decide)
                have hB : Utf8.encode 97 = ⟨#[97]⟩ := enc_low 97 (by decide)
                have HN := hid (show (S ++ (⟨#[97]⟩ : ByteArray) ++ (⟨#[121]⟩ : ByteArray) ++ (⟨#[97]⟩ : ByteArray) ++ (⟨#[59]⟩ : ByteArray)).data.toList = manyV (24 + 1) ∧ (S ++ (⟨#[97]⟩ : ByteArray) ++ (⟨#[121]⟩ : ByteArray) ++ (⟨#[97]⟩ : ByteArray) ++ (⟨#[59]⟩ : ByteArray)).size ≤ 160 from many_step S 24 121 97 (by decide) HM.out.1 rfl rfl)
                have z1 : (⟨#[97]⟩ : ByteArray).size = 1 := rfl
                have z2 : (⟨#[121]⟩ : ByteArray).size = 1 := rfl
                have z3 : (⟨#[97]⟩ : ByteArray).size = 1 := rfl
                go_wp2_with fail
                go_roundw
                case rel =>
                  first
                    | exact ⟨_, 24 + 1, by decide, rfl, rfl, HN.out.2, HN.out.1, HM.out.2⟩
                    | ((repeat apply Exists.intro); refine ⟨?_, rfl⟩; exact ⟨_, 24 + 1, by decide, rfl, rfl, HN.out.2, HN.out.1, HM.out.2⟩)
                    | ((repeat apply Exists.intro); exact ⟨⟨_, 24 + 1, by decide, rfl, rfl, HN.out.2, HN.out.1, HM.out.2⟩, rfl⟩)
                case measure => simp [intOf]
              · have hA : Utf8.encode 122 = ⟨#[122]⟩ := enc_low 122 (by decide)
                have hB : Utf8.encode 97 = ⟨#[97]⟩ := enc_low 97 (by decide)
                have HN := hid (show (S ++ (⟨#[97]⟩ : ByteArray) ++ (⟨#[122]⟩ : ByteArray) ++ (⟨#[97]⟩ : ByteArray) ++ (⟨#[59]⟩ : ByteArray)).data.toList = manyV (25 + 1) ∧ (S ++ (⟨#[97]⟩ : ByteArray) ++ (⟨#[122]⟩ : ByteArray) ++ (⟨#[97]⟩ : ByteArray) ++ (⟨#[59]⟩ : ByteArray)).size ≤ 160 from many_step S 25 122 97 (by decide) HM.out.1 rfl rfl)
                have z1 : (⟨#[97]⟩ : ByteArray).size = 1 := rfl
                have z2 : (⟨#[122]⟩ : ByteArray).size = 1 := rfl
                have z3 : (⟨#[97]⟩ : ByteArray).size = 1 := rfl
                go_wp2_with fail
                go_roundw
                case rel =>
                  first
                    | exact ⟨_, 25 + 1, by decide, rfl, rfl, HN.out.2, HN.out.1, HM.out.2⟩
                    | ((repeat apply Exists.intro); refine ⟨?_, rfl⟩; exact ⟨_, 25 + 1, by decide, rfl, rfl, HN.out.2, HN.out.1, HM.out.2⟩)
                    | ((repeat apply Exists.intro); exact ⟨⟨_, 25 + 1, by decide, rfl, rfl, HN.out.2, HN.out.1, HM.out.2⟩, rfl⟩)
                case measure => simp [intOf]
              · have hA : Utf8.encode 97 = ⟨#[97]⟩ := enc_low 97 (by decide)
                have hB : Utf8.encode 98 = ⟨#[98]⟩ := enc_low 98 (by decide)
                have HN := hid (show (S ++ (⟨#[97]⟩ : ByteArray) ++ (⟨#[97]⟩ : ByteArray) ++ (⟨#[98]⟩ : ByteArray) ++ (⟨#[59]⟩ : ByteArray)).data.toList = manyV (26 + 1) ∧ (S ++ (⟨#[97]⟩ : ByteArray) ++ (⟨#[97]⟩ : ByteArray) ++ (⟨#[98]⟩ : ByteArray) ++ (⟨#[59]⟩ : ByteArray)).size ≤ 160 from many_step S 26 97 98 (by decide) HM.out.1 rfl rfl)
                have z1 : (⟨#[97]⟩ : ByteArray).size = 1 := rfl
                have z2 : (⟨#[97]⟩ : ByteArray).size = 1 := rfl
                have z3 : (⟨#[98]⟩ : ByteArray).size = 1 := rfl
                go_wp2_with fail
                go_roundw
                case rel =>
                  first
                    | exact ⟨_, 26 + 1, by decide, rfl, rfl, HN.out.2, HN.out.1, HM.out.2⟩
                    | ((repeat apply Exists.intro); refine ⟨?_, rfl⟩; exact ⟨_, 26 + 1, by decide, rfl, rfl, HN.out.2, HN.out.1, HM.out.2⟩)
                    | ((repeat apply Exists.intro); exact ⟨⟨_, 26 + 1, by decide, rfl, rfl, HN.out.2, HN.out.1, HM.out.2⟩, rfl⟩)
                case measure => simp [intOf]
              · have hA : Utf8.encode 98 = ⟨#[98]⟩ := enc_low 98 (by decide)
                have HN := hid (show (S ++ (⟨#[97]⟩ : ByteArray) ++ (⟨#[98]⟩ : ByteArray) ++ (⟨#[98]⟩ : ByteArray) ++ (⟨#[59]⟩ : ByteArray)).data.toList = manyV (27 + 1) ∧ (S ++ (⟨#[97]⟩ : ByteArray) ++ (⟨#[98]⟩ : ByteArray) ++ (⟨#[98]⟩ : ByteArray) ++ (⟨#[59]⟩ : ByteArray)).size ≤ 160 from many_step S 27 98 98 (by decide) HM.out.1 rfl rfl)
                have z1 : (⟨#[97]⟩ : ByteArray).size = 1 := rfl
                have z2 : (⟨#[98]⟩ : ByteArray).size = 1 := rfl
                have z3 : (⟨#[98]⟩ : ByteArray).size = 1 := rfl
                go_wp2_with fail
                go_roundw
                case rel =>
                  first
                    | exact ⟨_, 27 + 1, by decide, rfl, rfl, HN.out.2, HN.out.1, HM.out.2⟩
                    | ((repeat apply Exists.intro); refine ⟨?_, rfl⟩; exact ⟨_, 27 + 1, by decide, rfl, rfl, HN.out.2, HN.out.1, HM.out.2⟩)
                    | ((repeat apply Exists.intro); exact ⟨⟨_, 27 + 1, by decide, rfl, rfl, HN.out.2, HN.out.1, HM.out.2⟩, rfl⟩)
                case measure => simp [intOf]
              · have hA : Utf8.encode 99 = ⟨#[99]⟩ := enc_low 99 (by decide)
                have hB : Utf8.encode 98 = ⟨#[98]⟩ := enc_low 98 (by decide)
                have HN := hid (show (S ++ (⟨#[97]⟩ : ByteArray) ++ (⟨#[99]⟩ : ByteArray) ++ (⟨#[98]⟩ : ByteArray) ++ (⟨#[59]⟩ : ByteArray)).data.toList = manyV (28 + 1) ∧ (S ++ (⟨#[97]⟩ : ByteArray) ++ (⟨#[99]⟩ : ByteArray) ++ (⟨#[98]⟩ : ByteArray) ++ (⟨#[59]⟩ : ByteArray)).size ≤ 160 from many_step S 28 99 98 (by decide) HM.out.1 rfl rfl)
                have z1 : (⟨#[97]⟩ : ByteArray).size = 1 := rfl
                have z2 : (⟨#[99]⟩ : ByteArray).size = 1 := rfl
                have z3 : (⟨#[98]⟩ : ByteArray).size = 1 := rfl
                go_wp2_with fail
                go_roundw
                case rel =>
                  first
                    | exact ⟨_, 28 + 1, by decide, rfl, rfl, HN.out.2, HN.out.1, HM.out.2⟩
                    | ((repeat apply Exists.intro); refine ⟨?_, rfl⟩; exact ⟨_, 28 + 1, by decide, rfl, rfl, HN.out.2, HN.out.1, HM.out.2⟩)
                    | ((repeat apply Exists.intro); exact ⟨⟨_, 28 + 1, by decide, rfl, rfl, HN.out.2, HN.out.1, HM.out.2⟩, rfl⟩)
                case measure => simp [intOf]
              · have hA : Utf8.encode 100 = ⟨#[100]⟩ := enc_low 100 (by decide)
                have hB : Utf8.encode 98 = ⟨#[98]⟩ := enc_low 98 (by decide)
                have HN := hid (show (S ++ (⟨#[97]⟩ : ByteArray) ++ (⟨#[100]⟩ : ByteArray) ++ (⟨#[98]⟩ : ByteArray) ++ (⟨#[59]⟩ : ByteArray)).data.toList = manyV (29 + 1) ∧ (S ++ (⟨#[97]⟩ : ByteArray) ++ (⟨#[100]⟩ : ByteArray) ++ (⟨#[98]⟩ : ByteArray) ++ (⟨#[59]⟩ : ByteArray)).size ≤ 160 from many_step S 29 100 98 (by decide) HM.out.1 rfl rfl)
                have z1 : (⟨#[97]⟩ : ByteArray).size = 1 := rfl
                have z2 : (⟨#[100]⟩ : ByteArray).size = 1 := rfl
                have z3 : (⟨#[98]⟩ : ByteArray).size = 1 := rfl
                go_wp2_with fail
                go_roundw
                case rel =>
                  first
                    | exact ⟨_, 29 + 1, by decide, rfl, rfl, HN.out.2, HN.out.1, HM.out.2⟩
                    | ((repeat apply Exists.intro); refine ⟨?_, rfl⟩; exact ⟨_, 29 + 1, by decide, rfl, rfl, HN.out.2, HN.out.1, HM.out.2⟩)
                    | ((repeat apply Exists.intro); exact ⟨⟨_, 29 + 1, by decide, rfl, rfl, HN.out.2, HN.out.1, HM.out.2⟩, rfl⟩)
                case measure => simp [intOf]
              · have hA : Utf8.encode 101 = ⟨#[101]⟩ := enc_low 101 (by decide)
                have hB : Utf8.encode 98 = ⟨#[98]⟩ := enc_low 98 (by decide)
                have HN := hid (show (S ++ (⟨#[97]⟩ : ByteArray) ++ (⟨#[101]⟩ : ByteArray) ++ (⟨#[98]⟩ : ByteArray) ++ (⟨#[59]⟩ : ByteArray)).data.toList = manyV (30 + 1) ∧ (S ++ (⟨#[97]⟩ : ByteArray) ++ (⟨#[101]⟩ : ByteArray) ++ (⟨#[98]⟩ : ByteArray) ++ (⟨#[59]⟩ : ByteArray)).size ≤ 160 from many_step S 30 101 98 (by decide) HM.out.1 rfl rfl)
                have z1 : (⟨#[97]⟩ : ByteArray).size = 1 := rfl
                have z2 : (⟨#[101]⟩ : ByteArray).size = 1 := rfl
                have z3 : (⟨#[98]⟩ : ByteArray).size = 1 := rfl
                go_wp2_with fail
                go_roundw
                case rel =>
                  first
                    | exact ⟨_, 30 + 1, by decide, rfl, rfl, HN.out.2, HN.out.1, HM.out.2⟩
                    | ((repeat apply Exists.intro); refine ⟨?_, rfl⟩; exact ⟨_, 30 + 1, by decide, rfl, rfl, HN.out.2, HN.out.1, HM.out.2⟩)
                    | ((repeat apply Exists.intro); exact ⟨⟨_, 30 + 1, by decide, rfl, rfl, HN.out.2, HN.out.1, HM.out.2⟩, rfl⟩)
                case measure => simp [intOf]
              · have hA : Utf8.encode 102 = ⟨#[102]⟩ := enc_low 102 (by decide)
                have hB : Utf8.encode 98 = ⟨#[98]⟩ := enc_low 98 (by decide)
                have HN := hid (show (S ++ (⟨#[97]⟩ : ByteArray) ++ (⟨#[102]⟩ : ByteArray) ++ (⟨#[98]⟩ : ByteArray) ++ (⟨#[59]⟩ : ByteArray)).data.toList = manyV (31 + 1) ∧ (S ++ (⟨#[97]⟩ : ByteArray) ++ (⟨#[102]⟩ : ByteArray) ++ (⟨#[98]⟩ : ByteArray) ++ (⟨#[59]⟩ : ByteArray)).size ≤ 160 from many_step S 31 102 98 (by decide) HM.out.1 rfl rfl)
                have z1 : (⟨#[97]⟩ : ByteArray).size = 1 := rfl
                have z2 : (⟨#[102]⟩ : ByteArray).size = 1 := rfl
                have z3 : (⟨#[98]⟩ : ByteArray).size = 1 := rfl
                go_wp2_with fail
                go_roundw
                case rel =>
                  first
                    | exact ⟨_, 31 + 1, by decide, rfl, rfl, HN.out.2, HN.out.1, HM.out.2⟩
                    | ((repeat apply Exists.intro); refine ⟨?_, rfl⟩; exact ⟨_, 31 + 1, by decide, rfl, rfl, HN.out.2, HN.out.1, HM.out.2⟩)
                    | ((repeat apply Exists.intro); exact ⟨⟨_, 31 + 1, by decide, rfl, rfl, HN.out.2, HN.out.1, HM.out.2⟩, rfl⟩)
                case measure => simp [intOf]
              · have hA : Utf8.encode 103 = ⟨#[103]⟩ := enc_low 103 (by decide)
                have hB : Utf8.encode 98 = ⟨#[98]⟩ := enc_low 98 (by decide)
                have HN := hid (show (S ++ (⟨#[97]⟩ : ByteArray) ++ (⟨#[103]⟩ : ByteArray) ++ (⟨#[98]⟩ : ByteArray) ++ (⟨#[59]⟩ : ByteArray)).data.toList = manyV (32 + 1) ∧ (S ++ (⟨#[97]⟩ : ByteArray) ++ (⟨#[103]⟩ : ByteArray) ++ (⟨#[98]⟩ : ByteArray) ++ (⟨#[59]⟩ : ByteArray)).size ≤ 160 from many_step S 32 103 98 (by decide) HM.out.1 rfl rfl)
                have z1 : (⟨#[97]⟩ : ByteArray).size = 1 := rfl
                have z2 : (⟨#[103]⟩ : ByteArray).size = 1 := rfl
                have z3 : (⟨#[98]⟩ : ByteArray).size = 1 := rfl
                go_wp2_with fail
                go_roundw
                case rel =>
                  first
                    | exact ⟨_, 32 + 1, by decide, rfl, rfl, HN.out.2, HN.out.1, HM.out.2⟩
                    | ((repeat apply Exists.intro); refine ⟨?_, rfl⟩; exact ⟨_, 32 + 1, by decide, rfl, rfl, HN.out.2, HN.out.1, HM.out.2⟩)
                    | ((repeat apply Exists.intro); exact ⟨⟨_, 32 + 1, by decide, rfl, rfl, HN.out.2, HN.out.1, HM.out.2⟩, rfl⟩)
                case measure => simp [intOf]
              · have hA : Utf8.encode 104 = ⟨#[104]⟩ := enc_low 104 (by decide)
                have hB : Utf8.encode 98 = ⟨#[98]⟩ := enc_low 98 (by decide)
                have HN := hid (show (S ++ (⟨#[97]⟩ : ByteArray) ++ (⟨#[104]⟩ : ByteArray) ++ (⟨#[98]⟩ : ByteArray) ++ (⟨#[59]⟩ : ByteArray)).data.toList = manyV (33 + 1) ∧ (S ++ (⟨#[97]⟩ : ByteArray) ++ (⟨#[104]⟩ : ByteArray) ++ (⟨#[98]⟩ : ByteArray) ++ (⟨#[59]⟩ : ByteArray)).size ≤ 160 from many_step S 33 104 98 (by decide) HM.out.1 rfl rfl)
                have z1 : (⟨#[97]⟩ : ByteArray).size = 1 := rfl
                have z2 : (⟨#[104]⟩ : ByteArray).size = 1 := rfl
                have z3 : (⟨#[98]⟩ : ByteArray).size = 1 := rfl
                go_wp2_with fail
                go_roundw
                case rel =>
                  first
                    | exact ⟨_, 33 + 1, by decide, rfl, rfl, HN.out.2, HN.out.1, HM.out.2⟩
                    | ((repeat apply Exists.intro); refine ⟨?_, rfl⟩; exact ⟨_, 33 + 1, by decide, rfl, rfl, HN.out.2, HN.out.1, HM.out.2⟩)
                    | ((repeat apply Exists.intro); exact ⟨⟨_, 33 + 1, by decide, rfl, rfl, HN.out.2, HN.out.1, HM.out.2⟩, rfl⟩)
                case measure => simp [intOf]
              · have hA : Utf8.encode 105 = ⟨#[105]⟩ := enc_low 105 (by decide)
                have hB : Utf8.encode 98 = ⟨#[98]⟩ := enc_low 98 (by decide)
                have HN := hid (show (S ++ (⟨#[97]⟩ : ByteArray) ++ (⟨#[105]⟩ : ByteArray) ++ (⟨#[98]⟩ : ByteArray) ++ (⟨#[59]⟩ : ByteArray)).data.toList = manyV (34 + 1) ∧ (S ++ (⟨#[97]⟩ : ByteArray) ++ (⟨#[105]⟩ : ByteArray) ++ (⟨#[98]⟩ : ByteArray) ++ (⟨#[59]⟩ : ByteArray)).size ≤ 160 from many_step S 34 105 98 (by decide) HM.out.1 rfl rfl)
                have z1 : (⟨#[97]⟩ : ByteArray).size = 1 := rfl
                have z2 : (⟨#[105]⟩ : ByteArray).size = 1 := rfl
                have z3 : (⟨#[98]⟩ : ByteArray).size = 1 := rfl
                go_wp2_with fail
                go_roundw
                case rel =>
                  first
                    | exact ⟨_, 34 + 1, by decide, rfl, rfl, HN.out.2, HN.out.1, HM.out.2⟩
                    | ((repeat apply Exists.intro); refine ⟨?_, rfl⟩; exact ⟨_, 34 + 1, by decide, rfl, rfl, HN.out.2, HN.out.1, HM.out.2⟩)
                    | ((repeat apply Exists.intro); exact ⟨⟨_, 34 + 1, by decide, rfl, rfl, HN.out.2, HN.out.1, HM.out.2⟩, rfl⟩)
                case measure => simp [intOf]
              · have hA : Utf8.encode 106 = ⟨#[106]⟩ := enc_low 106 (by decide)
                have hB : Utf8.encode 98 = ⟨#[98]⟩ := enc_low 98 (by decide)
                have HN := hid (show (S ++ (⟨#[97]⟩ : ByteArray) ++ (⟨#[106]⟩ : ByteArray) ++ (⟨#[98]⟩ : ByteArray) ++ (⟨#[59]⟩ : ByteArray)).data.toList = manyV (35 + 1) ∧ (S ++ (⟨#[97]⟩ : ByteArray) ++ (⟨#[106]⟩ : ByteArray) ++ (⟨#[98]⟩ : ByteArray) ++ (⟨#[59]⟩ : ByteArray)).size ≤ 160 from many_step S 35 106 98 (by decide) HM.out.1 rfl rfl)
                have z1 : (⟨#[97]⟩ : ByteArray).size = 1 := rfl
                have z2 : (⟨#[106]⟩ : ByteArray).size = 1 := rfl
                have z3 : (⟨#[98]⟩ : ByteArray).size = 1 := rfl
                go_wp2_with fail
                go_roundw
                case rel =>
                  first
                    | exact ⟨_, 35 + 1, by decide, rfl, rfl, HN.out.2, HN.out.1, HM.out.2⟩
                    | ((repeat apply Exists.intro); refine ⟨?_, rfl⟩; exact ⟨_, 35 + 1, by decide, rfl, rfl, HN.out.2, HN.out.1, HM.out.2⟩)
                    | ((repeat apply Exists.intro); exact ⟨⟨_, 35 + 1, by decide, rfl, rfl, HN.out.2, HN.out.1, HM.out.2⟩, rfl⟩)
                case measure => simp [intOf]
              · have hA : Utf8.encode 107 = ⟨#[107]⟩ := enc_low 107 (by decide)
                have hB : Utf8.encode 98 = ⟨#[98]⟩ := enc_low 98 (by decide)
                have HN := hid (show (S ++ (⟨#[97]⟩ : ByteArray) ++ (⟨#[107]⟩ : ByteArray) ++ (⟨#[98]⟩ : ByteArray) ++ (⟨#[59]⟩ : ByteArray)).data.toList = manyV (36 + 1) ∧ (S ++ (⟨#[97]⟩ : ByteArray) ++ (⟨#[107]⟩ : ByteArray) ++ (⟨#[98]⟩ : ByteArray) ++ (⟨#[59]⟩ : ByteArray)).size ≤ 160 from many_step S 36 107 98 (by decide) HM.out.1 rfl rfl)
                have z1 : (⟨#[97]⟩ : ByteArray).size = 1 := rfl
                have z2 : (⟨#[107]⟩ : ByteArray).size = 1 := rfl
                have z3 : (⟨#[98]⟩ : ByteArray).size = 1 := rfl
                go_wp2_with fail
                go_roundw
                case rel =>
                  first
                    | exact ⟨_, 36 + 1, by decide, rfl, rfl, HN.out.2, HN.out.1, HM.out.2⟩
                    | ((repeat apply Exists.intro); refine ⟨?_, rfl⟩; exact ⟨_, 36 + 1, by decide, rfl, rfl, HN.out.2, HN.out.1, HM.out.2⟩)
                    | ((repeat apply Exists.intro); exact ⟨⟨_, 36 + 1, by decide, rfl, rfl, HN.out.2, HN.out.1, HM.out.2⟩, rfl⟩)
                case measure => simp [intOf]
              · have hA : Utf8.encode 108 = ⟨#[108]⟩ := enc_low 108 (by decide)
                have hB : Utf8.encode 98 = ⟨#[98]⟩ := enc_low 98 (by decide)
                have HN := hid (show (S ++ (⟨#[97]⟩ : ByteArray) ++ (⟨#[108]⟩ : ByteArray) ++ (⟨#[98]⟩ : ByteArray) ++ (⟨#[59]⟩ : ByteArray)).data.toList = manyV (37 + 1) ∧ (S ++ (⟨#[97]⟩ : ByteArray) ++ (⟨#[108]⟩ : ByteArray) ++ (⟨#[98]⟩ : ByteArray) ++ (⟨#[59]⟩ : ByteArray)).size ≤ 160 from many_step S 37 108 98 (by decide) HM.out.1 rfl rfl)
                have z1 : (⟨#[97]⟩ : ByteArray).size = 1 := rfl
                have z2 : (⟨#[108]⟩ : ByteArray).size = 1 := rfl
                have z3 : (⟨#[98]⟩ : ByteArray).size = 1 := rfl
                go_wp2_with fail
                go_roundw
                case rel =>
                  first
                    | exact ⟨_, 37 + 1, by decide, rfl, rfl, HN.out.2, HN.out.1, HM.out.2⟩
                    | ((repeat apply Exists.intro); refine ⟨?_, rfl⟩; exact ⟨_, 37 + 1, by decide, rfl, rfl, HN.out.2, HN.out.1, HM.out.2⟩)
                    | ((repeat apply Exists.intro); exact ⟨⟨_, 37 + 1, by decide, rfl, rfl, HN.out.2, HN.out.1, HM.out.2⟩, rfl⟩)
                case measure => simp [intOf]
              · have hA : Utf8.encode 109 = ⟨#[109]⟩ := enc_low 109 (by decide)
                have hB : Utf8.encode 98 = ⟨#[98]⟩ := enc_low 98 (by decide)
                have HN := hid (show (S ++ (⟨#[97]⟩ : ByteArray) ++ (⟨#[109]⟩ : ByteArray) ++ (⟨#[98]⟩ : ByteArray) ++ (⟨#[59]⟩ : ByteArray)).data.toList = manyV (38 + 1) ∧ (S ++ (⟨#[97]⟩ : ByteArray) ++ (⟨#[109]⟩ : ByteArray) ++ (⟨#[98]⟩ : ByteArray) ++ (⟨#[59]⟩ : ByteArray)).size ≤ 160 from many_step S 38 109 98 (by decide) HM.out.1 rfl rfl)
                have z1 : (⟨#[97]⟩ : ByteArray).size = 1 := rfl
                have z2 : (⟨#[109]⟩ : ByteArray).size = 1 := rfl
                have z3 : (⟨#[98]⟩ : ByteArray).size = 1 := rfl
                go_wp2_with fail
                go_roundw
                case rel =>
                  first
                    | exact ⟨_, 38 + 1, by decide, rfl, rfl, HN.out.2, HN.out.1, HM.out.2⟩
                    | ((repeat apply Exists.intro); refine ⟨?_, rfl⟩; exact ⟨_, 38 + 1, by decide, rfl, rfl, HN.out.2, HN.out.1, HM.out.2⟩)
                    | ((repeat apply Exists.intro); exact ⟨⟨_, 38 + 1, by decide, rfl, rfl, HN.out.2, HN.out.1, HM.out.2⟩, rfl⟩)
                case measure => simp [intOf]
              · have hA : Utf8.encode 110 = ⟨#[110]⟩ := enc_low 110 (by decide)
                have hB : Utf8.encode 98 = ⟨#[98]⟩ := enc_low 98 (by decide)
                have HN := hid (show (S ++ (⟨#[97]⟩ : ByteArray) ++ (⟨#[110]⟩ : ByteArray) ++ (⟨#[98]⟩ : ByteArray) ++ (⟨#[59]⟩ : ByteArray)).data.toList = manyV (39 + 1) ∧ (S ++ (⟨#[97]⟩ : ByteArray) ++ (⟨#[110]⟩ : ByteArray) ++ (⟨#[98]⟩ : ByteArray) ++ (⟨#[59]⟩ : ByteArray)).size ≤ 160 from many_step S 39 110 98 (by decide) HM.out.1 rfl rfl)
                have z1 : (⟨#[97]⟩ : ByteArray).size = 1 := rfl
                have z2 : (⟨#[110]⟩ : ByteArray).size = 1 := rfl
                have z3 : (⟨#[98]⟩ : ByteArray).size = 1 := rfl
                go_wp2_with fail
                go_roundw
                case rel =>
                  first
                    | exact ⟨_, 39 + 1, by decide, rfl, rfl, HN.out.2, HN.out.1, HM.out.2⟩
                    | ((repeat apply Exists.intro); refine ⟨?_, rfl⟩; exact ⟨_, 39 + 1, by decide, rfl, rfl, HN.out.2, HN.out.1, HM.out.2⟩)
                    | ((repeat apply Exists.intro); exact ⟨⟨_, 39 + 1, by decide, rfl, rfl, HN.out.2, HN.out.1, HM.out.2⟩, rfl⟩)
                case measure => simp [intOf]
            · obtain rfl : k = 40 := by omega
              have HML := hid HM.out.1
              have HBN := hid (below2 HBB.out HM.out.2)
              have HP1 := hid (fun X => parseP S false (polV S.data.toList) X (by omega) rfl)
              rw [show (polV S.data.toList).length = 32 by rw [HML.out]; exact many_32] at HP1
              have HP2 := hid (fun X => parseP ⟨#[]⟩ true [] X (by decide) empty_0)
              have hb1 := (Below.refl _ wr).alloc (Nat.le_refl _) (.cells #[.string ⟨#[67, 111, 110, 116, 101, 110, 116, 45, 83, 101, 99, 117, 114, 105, 116, 121, 45, 80, 111, 108, 105, 99, 121, 45, 82, 101, 112, 111, 114, 116, 45, 79, 110, 108, 121]⟩, .string ⟨#[97]⟩, .string ⟨#[99, 111, 110, 116, 101, 110, 116, 45, 115, 101, 99, 117, 114, 105, 116, 121, 45, 112, 111, 108, 105, 99, 121]⟩, .string ⟨#[98, 44, 32, 44, 99, 32, 100]⟩] 29)
              have HF1 := hid (fromP (.slice (some ⟨wr.heap.size, 0, none⟩) 2 2) H0 P0 (wr.alloc (.cells #[.string ⟨#[67, 111, 110, 116, 101, 110, 116, 45, 83, 101, 99, 117, 114, 105, 116, 121, 45, 80, 111, 108, 105, 99, 121, 45, 82, 101, 112, 111, 114, 116, 45, 79, 110, 108, 121]⟩, .string ⟨#[97]⟩, .string ⟨#[99, 111, 110, 116, 101, 110, 116, 45, 115, 101, 99, 117, 114, 105, 116, 121, 45, 112, 111, 108, 105, 99, 121]⟩, .string ⟨#[98, 44, 32, 44, 99, 32, 100]⟩] 29)) (hd_0 wr) szd_0 (by decide) (by decide) from_0)
              have HF2 := hid (fun X => fromP (.slice none 0 0) [] [] X (hd_nil X) szd_n (by decide) (by decide) from_nil)
              have HB2 := hid (below2 HBN.out hb1)
              clear hk hlt HM hb1 HBN HBB HE HFP HFR
              go_wp2_with fail
              refine HF1.out.mono ?_
              rintro e w1 ⟨a1, c1, rfl, ⟨h1, h2, hpl⟩, hb1⟩
              have HPL := hid hpl
              have HB3 := hid (below2 HB2.out hb1)
              clear hpl hb1 HF1 HB2
              go_wp2_with fail
              refine (HP1.out _).mono ?_
              rintro e w2 ⟨a2, c2, rfl, ⟨h3, h4, _⟩, hb2⟩
              have HPL2 := hid (HPL.out.kept hb2)
              have fp2 := field_p0 a2 32 c2 false w2
              have HB4 := hid (below2 HB3.out hb2)
              clear hb2 HP1 HPL HB3
              go_wp2_with fail
              refine (HP2.out _).mono ?_
              rintro e w3 ⟨a3, c3, rfl, ⟨h5, h6, _⟩, hb3⟩
              have HPL3 := hid (HPL2.out.kept hb3)
              have fp3 := field_p0 a3 0 c3 true w3
              have HB5 := hid (below2 HB4.out hb3)
              clear hb3 HPL2 HB4
              go_wp2_with fail
              refine (HP2.out _).mono ?_
              rintro e w4 ⟨a4, c4, rfl, ⟨h7, h8, _⟩, hb4⟩
              have HPL4 := hid (HPL3.out.kept hb4)
              have fp4 := field_p1 a4 0 c4 true w4
              have HB6 := hid (below2 HB5.out hb4)
              clear hb4 HPL3 HB5 HP2
              obtain ⟨a', c', ea, q1, q2, hvw⟩ := HPL4.out
              injection ea with ea1 ea2 ea3
              clear ea2 ea3 q1 q2
              subst ea1
              obtain ⟨b, off, u0, x0, rfl, f0, f1, po0⟩ := hvw 0 (by decide)
              obtain ⟨b', off', u1, x1, eb, g0, g1, po1⟩ := hvw 1 (by decide)
              injection eb with eb
              injection eb with eb1 eb2
              subst eb1 eb2
              obtain ⟨b', off', u2, x2, eb, k0, k1, po2⟩ := hvw 2 (by decide)
              injection eb with eb
              injection eb with eb1 eb2
              subst eb1 eb2
              have HC := hid (show ∀ Z, Below w4.heap.size w4 Z → Z.cell? ⟨b, off, none⟩ = some (.slice u0 1 x0) ∧ Z.cell? ⟨b, off + 1, none⟩ = some (.bool false) ∧ Z.cell? ⟨b, off + 2, none⟩ = some (.slice u1 1 x1) ∧ Z.cell? ⟨b, off + 2 + 1, none⟩ = some (.bool false) ∧ Z.cell? ⟨b, off + 4, none⟩ = some (.slice u2 1 x2) ∧ Z.cell? ⟨b, off + 4 + 1, none⟩ = some (.bool true) from fun Z hZ => ⟨kept_cell f0 hZ, kept_cell f1 hZ, kept_cell g0 hZ, kept_cell g1 hZ, kept_cell k0 hZ, kept_cell k1 hZ⟩)
              have HT1 := hid (text10 (.slice u0 1 x0) false [⟨[98], []⟩] w4 po0 (by decide) (by decide))
              have HT2 := hid (fun Z (hZ : Below w4.heap.size w4 Z) => text10 (.slice u1 1 x1) false [⟨[99], [[100]]⟩] Z (po1.kept hZ) (by decide) (by decide))
              rw [show (⟨(txP [⟨[98], []⟩]).toArray⟩ : ByteArray) = ⟨#[98]⟩ from rfl] at HT1
              rw [show (⟨(txP [⟨[99], [[100]]⟩]).toArray⟩ : ByteArray) = ⟨#[99, 32, 100]⟩ from rfl] at HT2
              clear hvw f0 f1 g0 g1 k0 k1 po0 po1 po2 HPL4
              obtain ⟨f0, f1, g0, g1, k0, k1⟩ := HC.out w4 (Below.refl _ _)
              go_wp2_with fail
              refine HT1.out.mono ?_
              rintro e w5 ⟨rfl, hb5⟩
              have HB7 := hid (below2 HB6.out hb5)
              have HT3 := hid (HT2.out w5 hb5)
              have HB45 := hid hb5
              clear f0 f1 g0 g1 k0 k1 HB6 HT1 hb5
              obtain ⟨f0, f1, g0, g1, k0, k1⟩ := HC.out w5 HB45.out
              go_wp2_with fail
              refine HT3.out.mono ?_
              rintro e w6 ⟨rfl, hb6⟩
              have HB8 := hid (below2 HB7.out hb6)
              clear f0 f1 g0 g1 k0 k1 HB7 HT3 HT2
              obtain ⟨f0, f1, g0, g1, k0, k1⟩ := HC.out w6 (below2 HB45.out hb6)
              clear hb6
              go_wp2_with fail
              refine (HF2.out _).mono ?_
              rintro e w7 ⟨a7, c7, rfl, ⟨h9, h10, _⟩, hb7⟩
              have HB9 := hid (below2 HB8.out hb7)
              have HKN := hid (known10 w7)
              clear f0 f1 g0 g1 k0 k1 hb7 HB8 HF2
              go_wp2_with fail
              refine HKN.out.mono ?_
              rintro e w8 ⟨rfl, hb8⟩
              have HB10 := hid (below2 HB9.out hb8)
              clear hb8 HKN HB9
              go_wp2_with fail
              go_ret
              exact ⟨rfl, HB10.out⟩

end Go.Proofs.Ytplabofdcnpcpaa
