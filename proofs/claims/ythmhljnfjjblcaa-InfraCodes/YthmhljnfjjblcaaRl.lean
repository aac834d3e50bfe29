/-
  The walk of the document's own answer of chapter 1: ostiaryref1's Encode64.
-/
import Derived.Test.YthmhljnfjjblcaaRk
set_option linter.unusedSimpArgs false
set_option linter.unusedVariables false
namespace Go.Proofs.Ythmhljnfjjblcaa
open Go.RowKit

theorem row3 (r : List UInt8) (h : 0 < r.length) (a b c : UInt8) (ha : a = r.getD 0 0) (hb : b = r.getD 1 0) (hc : c = r.getD 2 0) : (Lib.byteCells (r.take 3) ++ (List.replicate 3 (Value.int .u8 0)).drop (r.take 3).length).toArray = #[.int .u8 (a.toNat : Int), .int .u8 (b.toNat : Int), .int .u8 (c.toNat : Int)] := by
  match r with
  | [] => simp at h
  | [x] => simp at ha hb hc; subst ha hb hc; rfl
  | [x, y] => simp at ha hb hc; subst ha hb hc; rfl
  | x :: y :: z :: r => simp at ha hb hc; subst ha hb hc; rfl

theorem extract64 : ∀ n, n < 64 → ((ByteArray.mk #[65, 66, 67, 68, 69, 70, 71, 72, 73, 74, 75, 76, 77, 78, 79, 80, 81, 82, 83, 84, 85, 86, 87, 88, 89, 90, 97, 98, 99, 100, 101, 102, 103, 104, 105, 106, 107, 108, 109, 110, 111, 112, 113, 114, 115, 116, 117, 118, 119, 120, 121, 122, 48, 49, 50, 51, 52, 53, 54, 55, 56, 57, 43, 47]).extract n (n + 1)).data.toList = [d64 n] := by decide +kernel

theorem size_61 : (ByteArray.mk #[61]).size = 1 := rfl

theorem list_61 : (ByteArray.mk #[61]).data.toList = [61] := rfl

def ChunkRel (n : Nat) (W : World) (v : Value) (wx : World) : Prop := v = .int .i64 (n : Int) ∧ wx = W

set_option maxHeartbeats 2000000 in
set_option maxRecDepth 100000 in
theorem rencode64_any (a0 : Option Addr) (len cap : Nat) (l : List UInt8) (w : World) (hv : SlB w (.slice a0 len cap) l) (hcap : len ≤ cap) (hcm : cap ≤ maxLen) (hs : l.length ≤ 1000000) :
    Calls Try.prog 31 #[.slice a0 len cap] w fun e w' => e = .returned (.string ⟨(e64 l).toArray⟩) ∧ Below w.heap.size w w' := by
  have hll := hv.length
  subst hll
  unfold maxLen at hcm
  go_enter Try.func31, Try.ntmps31
  go_wp2
  go_loopw [3, 4] (fun o i wr => ∃ (k : Nat) (t : ByteArray), k ≤ l.length + 2 ∧ i = .int .i64 k ∧ o = .string t ∧ t.data.toList ++ e64 (l.drop k) = e64 l ∧ t.size ≤ 4 * k ∧ Below w.heap.size w wr) (fun _ i _ => l.length + 3 - (intOf i).toNat)
  case atStart => exact ⟨0, _, by omega, rfl, rfl, rfl, by simp; decide, Below.refl _ w⟩
  case round =>
    obtain ⟨k, t, hk, rfl, rfl, hacc, hts, hbw⟩ := hrel
    have HACC := hid hacc
    clear hacc
    by_cases hlt : k < l.length
    · obtain ⟨p, rfl, _, hpc⟩ := (hv.kept hbw).some (by omega)
      have hki : (k : Int) < (l.length : Int) := by omega
      have hkc : (k : Int) ≤ (cap : Int) := by omega
      have hpc2 := hid hpc
      clear hpc
      have hkl : k ≤ l.length := by omega
      have hck : ¬ cap = k := by omega
      obtain ⟨a, ha⟩ : ∃ a, a = (l.drop k).getD 0 0 := ⟨_, rfl⟩
      obtain ⟨b, hb⟩ : ∃ b, b = (l.drop k).getD 1 0 := ⟨_, rfl⟩
      obtain ⟨c, hc⟩ : ∃ c, c = (l.drop k).getD 2 0 := ⟨_, rfl⟩
      obtain ⟨n, hn⟩ : ∃ n, n = min 3 (l.drop k).length := ⟨_, rfl⟩
      have hdl : (l.drop k).length = l.length - k := by simp
      have hn13 : 1 ≤ n ∧ n ≤ 3 := by omega
      obtain ⟨hn1, hn3⟩ := hn13
      have hcp := copy_upto wr.drew 70 (p.add k) (l.length - k) (cap - k) ((l.drop k).take 3) (by simp) (by
        intro j hj
        have hj' : k + j < l.length := by simp at hj; omega
        have e : wr.drew.cell? ((p.add k).add j) = wr.cell? ((p.add k).add j) := rfl
        rw [e, Addr.add_add, hpc2.out (k + j) hj']
        simp)
      rw [row3 (l.drop k) (by omega) a b c ha hb hc] at hcp
      have hcl : ((l.drop k).take 3).length = n := by rw [hn]; simp
      rw [hcl] at hcp
      have HE := hid (e64_fours (l.drop k) (by omega) a b c ha hb hc)
      rw [← hn] at HE
      have HCP := hid hcp
      have ho := or24i a b c
      obtain ⟨V, hV⟩ : ∃ V : Nat, V = a.toNat * 65536 + b.toNat * 256 + c.toNat := ⟨_, rfl⟩
      rw [← hV] at ho HE
      have hVb : V < 16777216 := by
        have h1 := a.toNat_lt
        have h2 := b.toNat_lt
        have h3 := c.toNat_lt
        omega
      have hab : a.toNat < 256 := a.toNat_lt
      have hbb : b.toNat < 256 := b.toNat_lt
      have hcb : c.toNat < 256 := c.toNat_lt
      clear ha hb hc hn hdl hcp hcl hV
      go_wp2
      go_cut [6] (fun v wx => ChunkRel n (wr.alloc (.cells #[.int .u8 (a.toNat : Int), .int .u8 (b.toNat : Int), .int .u8 (c.toNat : Int)] 70)).drew v wx)
      case first =>
        go_region_law (refine step_copy_run rfl (.tmp 16) (.tmp 19) 22 22 rfl (.slice (some ⟨wr.heap.size, 0, none⟩) 3 3) (.slice (some (p.add k)) (l.length - k) (cap - k)) rfl rfl (.int .i64 (n : Int)) (wr.alloc (.cells #[.int .u8 (a.toNat : Int), .int .u8 (b.toNat : Int), .int .u8 (c.toNat : Int)] 70)).drew (by exact HCP.out) ?_)
        all_goals
          go_wp2
          go_meet
          case rel => exact ⟨rfl, rfl⟩
      case rest =>
        obtain ⟨rfl, rfl⟩ := hcut
        have hbx : Below w.heap.size w (wr.alloc (.cells #[.int .u8 (a.toNat : Int), .int .u8 (b.toNat : Int), .int .u8 (c.toNat : Int)] 70)).drew := (hbw.alloc hbw.size _).drew
        clear hpc2 HCP
        go_wp2
        clear ho hab hbb hcb hck hkc hki
        obtain ⟨i0, hi0⟩ : ∃ i : Nat, i = V / 262144 % 64 := ⟨_, rfl⟩
        obtain ⟨i1, hi1⟩ : ∃ i : Nat, i = V / 4096 % 64 := ⟨_, rfl⟩
        obtain ⟨i2, hi2⟩ : ∃ i : Nat, i = V / 64 % 64 := ⟨_, rfl⟩
        obtain ⟨i3, hi3⟩ : ∃ i : Nat, i = V % 64 := ⟨_, rfl⟩
        have g0 : bits .and .i64 ((V : Int) / 262144) 63 = (i0 : Int) := by have := and63i (V / 262144) (by omega); rw [hi0]; exact this
        have g1 : bits .and .i64 ((V : Int) / 4096) 63 = (i1 : Int) := by have := and63i (V / 4096) (by omega); rw [hi1]; exact this
        have g2 : bits .and .i64 ((V : Int) / 64) 63 = (i2 : Int) := by have := and63i (V / 64) (by omega); rw [hi2]; exact this
        have g3 : bits .and .i64 (V : Int) 63 = (i3 : Int) := by have := and63i V (by omega); rw [hi3]; exact this
        have b0 : i0 < 64 := by omega
        have b1 : i1 < 64 := by omega
        have b2 : i2 < 64 := by omega
        have b3 : i3 < 64 := by omega
        have f0 := hid (show four n V 0 = d64 i0 by unfold four; rw [if_pos (by omega), hi0])
        have f1 := hid (show four n V 1 = d64 i1 by unfold four; rw [if_pos (by omega), hi1])
        have f2 := hid (show 2 ≤ n → four n V 2 = d64 i2 from fun h => by unfold four; rw [if_pos h, hi2])
        have f3 := hid (show 3 ≤ n → four n V 3 = d64 i3 from fun h => by unfold four; rw [if_pos h, hi3]; simp)
        have e2 := hid (show ¬ 2 ≤ n → four n V 2 = 61 from fun h => by unfold four; rw [if_neg h])
        have e3 := hid (show ¬ 3 ≤ n → four n V 3 = 61 from fun h => by unfold four; rw [if_neg h])
        clear hi0 hi1 hi2 hi3
        have hz64 := size64
        go_loop [3, 8] (fun o q => ∃ (j : Nat) (u : ByteArray), j ≤ 4 ∧ q = .int .i64 j ∧ o = .string u ∧ u.data.toList = t.data.toList ++ (fours n V).take j ∧ u.size ≤ t.size + j) (fun _ q => 4 - (intOf q).toNat)
        case atStart => exact ⟨0, t, by omega, rfl, rfl, by simp, by omega⟩
        case round =>
          obtain ⟨j, u, hj, rfl, rfl, hu, hus⟩ := hrel
          have HU := hid hu
          clear hu
          by_cases hj4 : j < 4
          · rcases (show j = 0 ∨ j = 1 ∨ j = 2 ∨ j = 3 by omega) with rfl | rfl | rfl | rfl
            · have hle : (0 : Int) ≤ (n : Int) := by omega
              go_wp2
              go_round
              case rel =>
                refine ⟨1, _, by omega, by go_num, rfl, ?_, ?_⟩
                · rw [ByteArray.data_append, Array.toList_append, HU.out, extract64 i0 b0]
                  have e : (fours n V).take 1 = (fours n V).take 0 ++ [four n V 0] := rfl
                  rw [e, f0.out, List.append_assoc]
                · simp [size_61] <;> omega
              case measure => simp [intOf]
            · have hle : (1 : Int) ≤ (n : Int) := by omega
              go_wp2
              go_round
              case rel =>
                refine ⟨2, _, by omega, by go_num, rfl, ?_, ?_⟩
                · rw [ByteArray.data_append, Array.toList_append, HU.out, extract64 i1 b1]
                  have e : (fours n V).take 2 = (fours n V).take 1 ++ [four n V 1] := rfl
                  rw [e, f1.out, List.append_assoc]
                · simp [size_61] <;> omega
              case measure => simp [intOf]
            · by_cases hqn : 2 ≤ n
              · have hle : (2 : Int) ≤ (n : Int) := by omega
                go_wp2
                go_round
                case rel =>
                  refine ⟨3, _, by omega, by go_num, rfl, ?_, ?_⟩
                  · rw [ByteArray.data_append, Array.toList_append, HU.out, extract64 i2 b2]
                    have e : (fours n V).take 3 = (fours n V).take 2 ++ [four n V 2] := rfl
                    rw [e, f2.out hqn, List.append_assoc]
                  · simp [size_61] <;> omega
                case measure => simp [intOf]
              · have hle : (n : Int) < (2 : Int) := by omega
                go_wp2
                go_round
                case rel =>
                  refine ⟨3, _, by omega, by go_num, rfl, ?_, ?_⟩
                  · rw [ByteArray.data_append, Array.toList_append, HU.out, list_61]
                    have e : (fours n V).take 3 = (fours n V).take 2 ++ [four n V 2] := rfl
                    rw [e, e2.out hqn, List.append_assoc]
                  · simp [size_61] <;> omega
                case measure => simp [intOf]
            · by_cases hqn : 3 ≤ n
              · have hle : (3 : Int) ≤ (n : Int) := by omega
                go_wp2
                go_round
                case rel =>
                  refine ⟨4, _, by omega, by go_num, rfl, ?_, ?_⟩
                  · rw [ByteArray.data_append, Array.toList_append, HU.out, extract64 i3 b3]
                    have e : (fours n V).take 4 = (fours n V).take 3 ++ [four n V 3] := rfl
                    rw [e, f3.out hqn, List.append_assoc]
                  · simp [size_61] <;> omega
                case measure => simp [intOf]
              · have hle : (n : Int) < (3 : Int) := by omega
                go_wp2
                go_round
                case rel =>
                  refine ⟨4, _, by omega, by go_num, rfl, ?_, ?_⟩
                  · rw [ByteArray.data_append, Array.toList_append, HU.out, list_61]
                    have e : (fours n V).take 4 = (fours n V).take 3 ++ [four n V 3] := rfl
                    rw [e, e3.out hqn, List.append_assoc]
                  · simp [size_61] <;> omega
                case measure => simp [intOf]
          · obtain rfl : j = 4 := by omega
            go_wp2
            go_roundw
            case rel =>
              refine ⟨k + 3, u, by omega, by go_num, rfl, ?_, by omega, hbx⟩
              have e : (fours n V).take 4 = fours n V := rfl
              rw [HU.out, e, ← HACC.out, HE.out, List.drop_drop, List.append_assoc]
            case measure => simp [intOf]; omega
    · have hd : l.drop k = [] := List.drop_of_length_le (by omega)
      have hfin : t.data.toList = e64 l := by have := HACC.out; rw [hd] at this; simpa [e64] using this
      have HF := hid hfin
      clear hd hfin HACC
      go_wp2
      go_ret
      exact ⟨ret_str HF.out, hbw⟩

end Go.Proofs.Ythmhljnfjjblcaa
