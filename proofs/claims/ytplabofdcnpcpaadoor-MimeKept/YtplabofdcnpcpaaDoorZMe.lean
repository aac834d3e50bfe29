/-
  The walks of mime's fits, of the reader's upTo and quoted.
-/
import Derived.Test.YtplabofdcnpcpaaDoorZMc
import Derived.Test.YtplabofdcnpcpaaDoorZGb
import Derived.Laws.AppendOwn
set_option linter.unusedSimpArgs false
set_option linter.unusedVariables false
namespace Go.Proofs.YtplabofdcnpcpaaDoor
open Go.RowKit

theorem infoU8 : (Tryd.prog.info? 5).map (fun i => (i.zero, i.size, i.bytes)) = some (some (.int .u8 0), 1, 1) := by kernel_rfl

theorem ret_str6 {a b : ByteArray} (h : a = b) : Ending.returned (.string a) = .returned (.string b) := by rw [h]

def ba (l : List UInt8) : ByteArray := ⟨l.toArray⟩
theorem ba_size (l : List UInt8) : (ba l).size = l.length := xsize l
theorem ba_list (l : List UInt8) : (ba l).data.toList = l := rfl
theorem mba_self (R : ByteArray) : ba R.data.toList = R := (xself R).symm

set_option maxHeartbeats 1000000 in
set_option maxRecDepth 100000 in
theorem upTo_gen (S : ByteArray) (b : Nat) (R : ByteArray) (w : World) (hR : Rdr w b R) (hs : R.size ≤ 4000000000)
    (hI : Calls Tryd.prog 71 #[.string R, .string S] w fun e w' => e = .returned (.int .i64 (Lib.indexAny R.data.toList S.data.toList)) ∧ Below w.heap.size w w') :
    Calls Tryd.prog 45 #[.pointer (some ⟨b, 0, none⟩), .string S] w fun e w' => e = .returned (.string (ba (upA S.data.toList R.data.toList))) ∧ Rdr w' b (ba (upR S.data.toList R.data.toList)) ∧ But b w w' := by
  have HI := hid hI
  have hc1 := hR.cell
  have HR := hid hR
  clear hI hR
  rcases up_index S.data.toList R.data.toList with ⟨h1, h2, h3⟩ | ⟨i, hi, h1, h2, h3⟩
  · have HA := hid (show R.extract 0 R.size = ba (upA S.data.toList R.data.toList) by rw [h2]; exact xba (by rw [extract_drop]; rfl))
    have HB := hid (show ByteArray.empty = ba (upR S.data.toList R.data.toList) by rw [h3]; rfl)
    clear h2 h3
    go_enter Tryd.func45, Tryd.ntmps45
    go_wp2_with fail
    refine HI.out.mono ?_
    rintro e w1 ⟨rfl, hb1⟩
    rw [h1]
    have H1 := hid (HR.out.kept hb1)
    have hc2 := H1.out.cell
    have hf2 := H1.out.frozen
    have HBt := hid (But.of hb1 (Nat.le_of_lt HR.out.lt))
    clear hb1
    go_wp2
    go_ret
    rw [← HA.out, ← HB.out]
    refine ⟨?_, H1.out.set _, HBt.out.set _ _⟩
    simp
  · have hi' : (i : Int) < (R.size : Int) := by rw [Lib.size_eq]; omega
    have HA := hid (show R.extract 0 i = ba (upA S.data.toList R.data.toList) by rw [h2]; exact xba (by rw [Lib.extract_data]; simp [ba]))
    have HB := hid (show R.extract i R.size = ba (upR S.data.toList R.data.toList) by rw [h3]; exact xba (by rw [extract_drop]; rfl))
    clear h2 h3
    go_enter Tryd.func45, Tryd.ntmps45
    go_wp2_with fail
    refine HI.out.mono ?_
    rintro e w1 ⟨rfl, hb1⟩
    rw [h1]
    have H1 := hid (HR.out.kept hb1)
    have hc2 := H1.out.cell
    have hf2 := H1.out.frozen
    have HBt := hid (But.of hb1 (Nat.le_of_lt HR.out.lt))
    clear hb1
    go_wp2
    go_ret
    rw [← HA.out, ← HB.out]
    refine ⟨rfl, H1.out.set _, HBt.out.set _ _⟩

theorem fit_step (l : List UInt8) (k : Nat) (h : k < l.length) : fitV (l.take (k + 1)) = (fitV (l.take k) && fitC l[k]) := by
  unfold fitV
  rw [List.take_succ_eq_append_getElem h, List.all_append]; simp

theorem fit_bad (l : List UInt8) (k : Nat) (h : k < l.length) (hb : fitC l[k] = false) : fitV l = false := by
  unfold fitV
  rw [List.all_eq_false]
  exact ⟨l[k], List.getElem_mem h, by rw [hb]; decide⟩

set_option maxHeartbeats 1000000 in
theorem fits_any (s : ByteArray) (w : World) (hs : s.size ≤ 140737488351232) :
    Calls Tryd.prog 101 #[.string s] w fun e w' => e = .returned (.bool (fitV s.data.toList)) ∧ w' = w := by
  go_enter Tryd.func101, Tryd.ntmps101
  go_wp2
  go_loop [7] (fun i => ∃ k : Nat, k ≤ s.size ∧ i = .int .i64 k ∧ fitV (s.data.toList.take k) = true) (fun i => s.size - (intOf i).toNat)
  case atStart => exact ⟨0, Nat.zero_le _, rfl, rfl⟩
  case round =>
    obtain ⟨k, hk, rfl, hf⟩ := hrel
    have HF := hid hf
    clear hf
    by_cases hlt : k < s.size
    · have hl : k < s.data.toList.length := by simpa using hlt
      have HS := hid (fit_step s.data.toList k hl)
      have HBd := hid (fit_bad s.data.toList k hl)
      have hx : s.data.toList[k] = s[k] := rfl
      rw [hx] at HS HBd
      go_wp2
      all_goals first
        | (go_round
           case rel => exact ⟨k + 1, by omega, by go_num, by rw [HS.out, HF.out, Bool.true_and]; unfold fitC; simp at *; omega⟩
           case measure => simp [intOf]; omega)
        | (go_ret
           exact ⟨ret_tf (HBd.out (by unfold fitC; simp at *; omega)).symm, rfl⟩)
    · have HA := hid (take_all s k hlt)
      go_wp2
      go_ret
      exact ⟨ret_tf (by rw [← HF.out, HA.out]), rfl⟩

end Go.Proofs.YtplabofdcnpcpaaDoor
