/-
  The walks of the document's own answers of chapter 1 that chapter 2's call: Digit, Lower, In (the first set), Escape, Percent, Hex.
  The walk of the document's own answer of chapter 1: ostiaryref1's Unpercent.
  The walks of the document's own answers: ostiaryref1's Begins and Ends, ostiaryref2's bad.
-/
import Derived.Test.YtdpihilikhbamaaGreatDoorWi
import Derived.Test.YtdpihilikhbamaaGreatDoorWf
import Derived.Test.YtdpihilikhbamaaGreatDoorPd
import Derived.Test.YtdpihilikhbamaaGreatDoorPe
import Derived.Test.YtdpihilikhbamaaGreatDoorPs
import Derived.Test.YtdpihilikhbamaaGreatDoorWb
import Derived.Test.YtdpihilikhbamaaGreatDoorWa
import Derived.Test.YtdpihilikhbamaaGreatDoorHa
import Derived.Test.YtdpihilikhbamaaGreatDoorVb
import Derived.LoopN
import Derived.RegionTactic
import Derived.Deep.RegionWith
import Derived.Deep.QuietTactic
import Derived.BigQuiet
import Derived.Laws.AppendOwn
import Derived.OwnWalk
import Derived.Deep.RegionLaw
set_option linter.unusedSimpArgs false
set_option linter.unusedVariables false
namespace Go.Proofs.YtdpihilikhbamaaGreatDoor
open Go.RowKit

theorem ret_str {l : List UInt8} {t : ByteArray} (h : t.data.toList = l) : Ending.returned (.string t) = .returned (.string ⟨l.toArray⟩) := by
  rw [← h, Lib.mk_data]

set_option maxHeartbeats 400000 in
theorem rdigit_any (c : Int) (w : World) :
    Calls Tryz.prog 40 #[.int .u8 c] w fun e w' => e = .returned (.bool (digitI c)) ∧ w = w' := by
  go_enter Tryz.func40, Tryz.ntmps40
  go_wp2
  all_goals
    go_ret
    exact ⟨ret_bool (by rw [Bool.eq_iff_iff]; simp [digitI]; omega), rfl⟩

set_option maxHeartbeats 1000000 in
theorem rlower_any (s : ByteArray) (w : World) (hs : s.size ≤ 140737488351232) :
    Calls Tryz.prog 26 #[.string s] w fun e w' => e = .returned (.string ⟨(low s.data.toList).toArray⟩) ∧ Below w.heap.size w w' := by
  have hcv := run_bytes_of_string (P := Tryz.prog) w 9 68 5 s Tryz.underlying9 Tryz.underlying68 Tryz.underlying5
  have hcap := grownCap_ge w s.size 0 5
  have hr0 := rowIs_bytes w 5 s (grownCap w s.size 0 5) hcap
  have hb0 : Below w.heap.size w (w.drew.alloc (.cells (bytesRow s (grownCap w s.size 0 5)) 5 ((bytesRow s (grownCap w s.size 0 5)).size, (bytesRow s (grownCap w s.size 0 5)).size + 1))) := (Below.refl _ w).drew.alloc (Nat.le_refl _) _
  generalize (w.drew.alloc (.cells (bytesRow s (grownCap w s.size 0 5)) 5 ((bytesRow s (grownCap w s.size 0 5)).size, (bytesRow s (grownCap w s.size 0 5)).size + 1))) = w0 at hcv hr0 hb0
  generalize grownCap w s.size 0 5 = cap at hcv hcap
  go_enter Tryz.func26, Tryz.ntmps26
  go_wp2
  clear hcv
  go_loopw [4] (fun i wr => ∃ k : Nat, k ≤ s.size ∧ i = .int .i64 k ∧ rowIs wr w.heap.size 5 (lowTo s.data.toList k) ∧ Below w.heap.size w wr)
    (fun i _ => s.size - (intOf i).toNat)
  case atStart => exact ⟨0, Nat.zero_le _, rfl, by rw [lowTo_zero]; exact hr0, hb0⟩
  case round =>
    obtain ⟨k, hk, rfl, hr, hbw⟩ := hrel
    by_cases hlt : k < s.size
    · have hl : k < s.data.toList.length := by simpa using hlt
      have hl' : k < (lowTo s.data.toList k).length := by rw [lowTo_length]; exact hl
      have hc := hr.cell k hl'
      rw [lowTo_at _ _ hl] at hc
      have hf := hr.frozen k hl'
      have hsucc := lowTo_succ s.data.toList k hl
      have hat := lowTo_at s.data.toList k hl hl'
      generalize s.data.toList[k] = c at hc hsucc hat
      have HS := hid hsucc
      have HAt := hid hat
      clear hsucc hat
      have hc8 : c.toNat < 256 := c.toNat_lt
      by_cases hu : 65 ≤ c.toNat ∧ c.toNat ≤ 90
      · have h1 : (65 : Int) ≤ (c.toNat : Int) := by omega
        have h2 : (c.toNat : Int) ≤ 90 := by omega
        have HL := hid (lowC_yes c hu)
        clear hu
        go_wp2
        go_roundw
        case rel =>
          refine ⟨k + 1, by omega, by go_num, ?_, hbw.setCell (p := ⟨w.heap.size, k, none⟩) (Nat.le_refl _) _⟩
          rw [HS.out, ← HL.out]
          exact hr.set k _
        case measure => simp [intOf]; omega
      · have HL := hid (lowC_no c hu)
        have hu' : (c.toNat : Int) < 65 ∨ 90 < (c.toNat : Int) := by omega
        clear hu
        rcases hu' with h1 | h1
        all_goals
          go_wp2
          go_roundw
          case rel =>
            refine ⟨k + 1, by omega, by go_num, ?_, hbw⟩
            have e : lowC c = (lowTo s.data.toList k)[k] := by rw [HL.out, HAt.out]
            rw [HS.out, e, List.set_getElem_self]
            exact hr
          case measure => simp [intOf]; omega
    · have hk' : k = s.data.toList.length := by simp; omega
      have hr' : rowIs wr w.heap.size 5 (low s.data.toList) := by rw [← lowTo_all, ← hk']; exact hr
      clear hr hk'
      have hcv := hr'.string (P := Tryz.prog) (src := 68) (dst := 9) (cap := cap) Tryz.underlying68 Tryz.underlying5 Tryz.underlying9
      rw [show (low s.data.toList).length = s.size by simp [low]] at hcv
      go_wp2
      go_ret
      exact ⟨rfl, hbw⟩

/-- A control byte, or one of the first m of t. -/
def inTo (c : Int) (t : List UInt8) (m : Nat) : Bool := (decide (c < 32) || decide (126 < c)) || (t.take m).any fun x => c == (x.toNat : Int)

theorem inTo_zero (c : Int) (t : List UInt8) : inTo c t 0 = (decide (c < 32) || decide (126 < c)) := by simp [inTo]

theorem inTo_succ (c : Int) (t : ByteArray) (k : Nat) (h : k < t.size) : inTo c t.data.toList (k + 1) = (inTo c t.data.toList k || c == (t[k].toNat : Int)) := by
  unfold inTo
  rw [take_snoc t k h, List.any_append, Bool.or_assoc]
  have e : [t[k]].any (fun x => c == (x.toNat : Int)) = (c == (t[k].toNat : Int)) := by simp
  rw [e]
  simp only [Bool.or_assoc]

theorem inTo_all (c : Int) (t : ByteArray) : inTo c t.data.toList t.size = ((decide (c < 32) || decide (126 < c)) || t.data.toList.any fun x => c == (x.toNat : Int)) := by
  unfold inTo
  rw [take_all t t.size (by omega)]

def setL (set : Int) : List UInt8 :=
  if set = 2 then [32, 34, 60, 62, 96] else if set = 3 then [32, 34, 35, 60, 62] else if set = 4 then [32, 34, 35, 60, 62, 39] else if set = 5 then [32, 34, 35, 60, 62, 63, 94, 96, 123, 125] else if set = 6 then [32, 34, 35, 60, 62, 63, 94, 96, 123, 125, 47, 58, 59, 61, 64, 91, 92, 93, 124] else []

theorem setL_in (c set : Int) (h : 1 ≤ set ∧ set ≤ 6) : ((decide (c < 32) || decide (126 < c)) || (setL set).any fun x => c == (x.toNat : Int)) = inSetI c set := by
  rw [Bool.eq_iff_iff, inSetI_iff]
  have h' : set = 1 ∨ set = 2 ∨ set = 3 ∨ set = 4 ∨ set = 5 ∨ set = 6 := by omega
  rcases h' with rfl | rfl | rfl | rfl | rfl | rfl <;> simp [setL, inSetP] <;> omega

set_option maxHeartbeats 1000000 in
theorem rin_1 (c : Int) (w : World) :
    Calls Tryz.prog 55 #[.int .u8 c, .int .i64 1] w fun e w' => e = .returned (.bool (inSetI c 1)) ∧ w = w' := by
  have HF := hid (setL_in c 1 (by omega))
  have hc : c < 32 ∨ (32 ≤ c ∧ 126 < c) ∨ (32 ≤ c ∧ c ≤ 126) := by omega
  rcases hc with hc | ⟨hc1, hc2⟩ | ⟨hc1, hc2⟩
  all_goals
    go_enter Tryz.func55, Tryz.ntmps55
    go_wp2
    generalize hT : ByteArray.mk #[] = t
    have hts : t.size ≤ 19 := by rw [← hT]; decide
    have HA : Hid (inTo c t.data.toList t.size = inSetI c 1) := hid ((inTo_all c t).trans (by rw [← hT]; exact HF.out))
    clear hT HF
    go_loop [5, 7] (fun o j => ∃ m : Nat, m ≤ t.size ∧ j = .int .i64 m ∧ o = .bool (inTo c t.data.toList m)) (fun _ j => t.size - (intOf j).toNat)
    case atStart => exact ⟨0, by omega, rfl, by rw [inTo_zero] <;> (try congr 1) <;> (try simp) <;> omega⟩
    case round =>
      obtain ⟨m, hm, rfl, rfl⟩ := hrel
      by_cases hlt : m < t.size
      · have HS := hid (inTo_succ c t m hlt)
        have hot : inTo c t.data.toList m = true ∨ inTo c t.data.toList m = false := by cases inTo c t.data.toList m <;> simp
        rcases hot with hot | hot
        all_goals
          go_wp2
          go_round
          case rel => exact ⟨m + 1, by omega, by go_num, by rw [HS.out, hot]; simp⟩
          case measure => simp [intOf]; omega
      · obtain rfl : m = t.size := by omega
        go_wp2
        go_ret
        exact ⟨ret_bool HA.out, rfl⟩

theorem extract_hex : ∀ n, n < 16 → ((ByteArray.mk #[48, 49, 50, 51, 52, 53, 54, 55, 56, 57, 65, 66, 67, 68, 69, 70]).extract n (n + 1)).data.toList = [hexD n] := by decide +kernel

set_option maxHeartbeats 1000000 in
theorem rescape_any (c : UInt8) (w : World) :
    Calls Tryz.prog 56 #[.int .u8 c.toNat] w fun e w' => e = .returned (.string ⟨(esc c).toArray⟩) ∧ Below w.heap.size w w' := by
  have hc8 := c.toNat_lt
  have ha := and15 c.toNat hc8
  have hsz : (ByteArray.mk #[48, 49, 50, 51, 52, 53, 54, 55, 56, 57, 65, 66, 67, 68, 69, 70]).size = 16 := rfl
  have h1 : (c.toNat : Int) / 16 ≤ 15 := by omega
  have h2 : (c.toNat : Int) % 16 ≤ 15 := by omega
  have h3 : (0 : Int) ≤ (c.toNat : Int) / 16 := by omega
  have h4 : (0 : Int) ≤ (c.toNat : Int) % 16 := by omega
  go_enter Tryz.func56, Tryz.ntmps56
  go_wp2
  go_quiet (fail)
  go_wp2
  go_ret
  refine ⟨ret_str ?_, below_drewN (Below.refl _ w) _⟩
  rw [ByteArray.data_append, ByteArray.data_append, Array.toList_append, Array.toList_append, extract_hex _ (by omega), extract_hex _ (by omega)]
  rfl

/-- A text's one byte. -/
theorem extract_at (s : ByteArray) (k : Nat) (h : k < s.size) : (s.extract k (k + 1)).data.toList = [s[k]] := by
  rw [Lib.extract_data]
  have h' : k < s.data.toList.length := by simpa using h
  have := List.drop_eq_getElem_cons h'
  rw [List.take_drop] at *
  simp [this, List.drop_take]
  rfl

set_option maxHeartbeats 1000000 in
theorem rpercent_any (s : ByteArray) (w : World) (hs : s.size ≤ 1000000) :
    Calls Tryz.prog 25 #[.string s, .int .i64 1] w fun e w' => e = .returned (.string ⟨(pct 1 s.data.toList).toArray⟩) ∧ Below w.heap.size w w' := by
  go_enter Tryz.func25, Tryz.ntmps25
  go_wp2
  go_loopw [5, 6] (fun o i wr => ∃ (k : Nat) (t : ByteArray), k ≤ s.size ∧ i = .int .i64 k ∧ o = .string t ∧ t.data.toList = pct 1 (s.data.toList.take k) ∧ Below w.heap.size w wr) (fun _ i _ => s.size - (intOf i).toNat)
  case atStart => exact ⟨0, _, Nat.zero_le _, rfl, rfl, rfl, Below.refl _ w⟩
  case round =>
    obtain ⟨k, t, hk, rfl, rfl, ht, hbw⟩ := hrel
    have htl : t.size ≤ 3 * k := by
      rw [Lib.size_eq, ht]
      have := pct_le 1 (s.data.toList.take k)
      simp at this
      omega
    have HT := hid ht
    clear ht
    by_cases hlt : k < s.size
    · have HS := hid (take_snoc s k hlt)
      have HP := hid (pct_snoc 1 (s.data.toList.take k) s[k])
      by_cases hin : inSetI (s[k].toNat : Int) 1 = true
      · go_wp2_with (first | (go_at_call 55; refine (rin_1 _ _).mono ?_; rintro e w' ⟨rfl, rfl⟩))
        refine (rescape_any s[k] wr).mono ?_
        rintro e w1 ⟨rfl, hb1⟩
        have hes : (ByteArray.mk (esc s[k]).toArray).size = 3 := rfl
        go_wp2
        go_roundw
        case rel =>
          refine ⟨k + 1, _, by omega, by go_num, rfl, ?_, hbw.trans (hb1.mono hbw.size)⟩
          rw [ByteArray.data_append, Array.toList_append, HT.out, HS.out, HP.out, pct1, if_pos hin]
        case measure => simp [intOf]; omega
      · have hin' : inSetI (s[k].toNat : Int) 1 = false := by simpa using hin
        clear hin
        go_wp2_with (first | (go_at_call 55; refine (rin_1 _ _).mono ?_; rintro e w' ⟨rfl, rfl⟩))
        go_roundw
        case rel =>
          refine ⟨k + 1, _, by omega, by go_num, rfl, ?_, hbw⟩
          rw [ByteArray.data_append, Array.toList_append, HT.out, HS.out, HP.out, pct1, hin', extract_at s k hlt]
          rfl
        case measure => simp [intOf]; omega
    · have ht := HT.out
      rw [take_all s k hlt] at ht
      have HT2 := hid ht
      clear ht HT
      go_wp2
      go_ret
      exact ⟨ret_str HT2.out, hbw⟩

def hexI (c : Int) : Int := if is16I c then val16I c else -1

set_option maxHeartbeats 400000 in
theorem rhex_any (c : Int) (w : World) (h0 : 0 ≤ c) (h1 : c ≤ 255) :
    Calls Tryz.prog 41 #[.int .u8 c] w fun e w' => e = .returned (.int .i64 (hexI c)) ∧ w = w' := by
  by_cases hd : digitI c = true
  · have hd2 : 48 ≤ c ∧ c ≤ 57 := by simp [digitI] at hd; omega
    go_enter Tryz.func41, Tryz.ntmps41
    go_wp2_with (go_at_call 40; refine (rdigit_any _ _).mono ?_; rintro e w' ⟨rfl, rfl⟩)
    all_goals
      go_ret
      exact ⟨ret_int (by simp [hexI, is16I, val16I, hd, digitI]; omega), rfl⟩
  · have hd' : digitI c = false := by simpa using hd
    have hd2 : c < 48 ∨ 57 < c := by simp [digitI] at hd'; omega
    clear hd
    have hc : (97 ≤ c ∧ c ≤ 102) ∨ (65 ≤ c ∧ c ≤ 70) ∨ (c < 65 ∨ (70 < c ∧ c < 97) ∨ 102 < c) := by omega
    rcases hc with ⟨h3, h4⟩ | ⟨h3, h4⟩ | h3 | ⟨h3, h4⟩ | h3
    all_goals
      go_enter Tryz.func41, Tryz.ntmps41
      go_wp2_with (go_at_call 40; refine (rdigit_any _ _).mono ?_; rintro e w' ⟨rfl, rfl⟩)
    all_goals
      go_ret
      refine ⟨ret_int ?_, rfl⟩
      have e1 : is16I c = (decide (65 ≤ c) && decide (c ≤ 70) || decide (97 ≤ c) && decide (c ≤ 102)) := by simp [is16I, hd']
      unfold hexI
      rw [e1]
      simp [val16I, digitI]
      omega

end Go.Proofs.YtdpihilikhbamaaGreatDoor

namespace Go.Proofs.YtdpihilikhbamaaGreatDoor
open Go.RowKit

theorem hexI_yes (c : Int) (h : is16I c = true) : hexI c = val16I c := by simp [hexI, h]
theorem hexI_no (c : Int) (h : is16I c = false) : hexI c = -1 := by simp [hexI, h]

/-- An append to a row of the call's own, in a region that draws its order. -/
theorem step_append_own {P : Program} {ops : Array Oper} {o : Oper} {a : Act} {w : World} {K : Act → World → Prop} {Q : Exit → Act → World → Prop} {E : Prop} (hgd : o.guard = none) (s x : Operand) (t : TypeId)
    (ho : o.op = .call { callee := .builtin .append, args := #[s, x], argTypes := #[t, t] })
    (base : Nat) (e : TypeId) (i : TypeInfo) (z : Value) (size bytes : Nat) (ht : P.underlying t = some (.slice e)) (hi : P.info? e = some i) (hz : i.zero = some z)
    (hsize : i.size = size) (hby : i.bytes = bytes) (hzs : z.cells.size = size) (hsz : 0 < size)
    (v : Value) (n : Nat) (xs : List Value) (hs : a.eval s = v) (hown : w.ownsRow base e size v n xs)
    (ad : Addr) (m c : Nat) (news : List Value) (hx : a.eval x = .slice (some ad) m c) (hl : news.length = m * size) (hnews : ∀ j u, news[j]? = some u → w.cell? (ad.add j) = some u) (h1 : ∀ u ∈ news, u.oneCell' = true)
    (h63 : n + m ≤ maxLen) (hbytes : (n + m) * bytes ≤ 140737488355328) (hbase : base ≤ w.heap.size)
    (h : ∀ v' w', w'.ownsRow base e size v' (n + m) (xs ++ news) → w.grownBy w' v.ownBlock → (v' = .slice none 0 0 ↔ v = .slice none 0 0 ∧ m = 0) → K (a.put o.dst v') w') :
    if Region.wanted o (yielded ops a.tmps) = true then Oper.wp P o a w K Q else E := by
  rw [if_pos (by simp [Region.wanted, hgd])]
  exact wp_append_own w s x t ho base e i z size bytes ht hi hz hsize hby hzs hsz v n xs hs hown ad m c news hx hl hnews h1 h63 hbytes hbase h

theorem pcd_at37 (s : ByteArray) (k : Nat) (h : k + 2 < s.size) (h37 : s[k] = 37) : pcd (s.data.toList.drop k) = if is16I s[k + 1].toNat && is16I s[k + 2].toNat then (UInt8.ofNat (val16I s[k + 1].toNat * 16 + val16I s[k + 2].toNat).toNat, true) else (37, false) := by
  rw [drop_cons s k (by omega), drop_cons s (k + 1) (by omega), drop_cons s (k + 2) (by omega), h37]
  exact pcd_three _ _ _

theorem pcd_short_at (s : ByteArray) (k : Nat) (hk : k < s.size) (h : ¬ k + 2 < s.size) : pcd (s.data.toList.drop k) = (s[k], false) := by
  rw [drop_cons s k hk]
  refine pcd_short _ _ ?_
  simp
  omega

theorem pcd_other_at (s : ByteArray) (k : Nat) (hk : k < s.size) (h : s[k] ≠ 37) : pcd (s.data.toList.drop k) = (s[k], false) := by
  rw [drop_cons s k hk]
  exact pcd_other _ _ h

theorem unpct_at (s : ByteArray) (k : Nat) (hk : k < s.size) (c : UInt8) (b : Bool) (h : pcd (s.data.toList.drop k) = (c, b)) : unpct (s.data.toList.drop k) = c :: unpct (s.data.toList.drop (if b then k + 3 else k + 1)) := by
  have hd := drop_cons s k hk
  have hu := unpct_cons s[k] (s.data.toList.drop (k + 1))
  rw [← hd] at hu
  rw [hu, h]
  cases b
  · rfl
  · simp [List.drop_drop]

set_option maxHeartbeats 2000000 in
set_option maxRecDepth 100000 in
theorem runpercent_any (s : ByteArray) (w : World) (hs : s.size ≤ 1000000) :
    Calls Tryz.prog 27 #[.string s] w fun e w' => e = .returned (.string ⟨(unpct s.data.toList).toArray⟩) ∧ Below w.heap.size w w' := by
  obtain ⟨i0, hi, hz0, hz1, hz2⟩ := info_parts infoByte
  go_enter Tryz.func27, Tryz.ntmps27
  go_wp2
  go_loopw [3, 4] (fun v i wr => ∃ (k : Nat) (acc : List UInt8), k ≤ s.size ∧ i = .int .i64 k ∧ wr.ownsRow w.heap.size 5 1 v acc.length (Lib.byteCells acc) ∧ Below w.heap.size w wr ∧ acc ++ unpct (s.data.toList.drop k) = unpct s.data.toList ∧ acc.length ≤ k)
    (fun _ i _ => s.size - (intOf i).toNat)
  case atStart => exact ⟨0, [], Nat.zero_le _, rfl, World.ownsRow_nil w _ _ _, Below.refl _ w, rfl, Nat.le_refl _⟩
  case round =>
    obtain ⟨k, acc, hk, rfl, hown, hbw, hacc, hal⟩ := hrel
    have HA := hid hacc
    clear hacc
    by_cases hlt : k < s.size
    · have hc8 : s[k].toNat < 256 := s[k].toNat_lt
      by_cases hyes : ∃ h : k + 2 < s.size, s[k] = 37 ∧ is16I (s[k + 1].toNat : Int) = true ∧ is16I (s[k + 2].toNat : Int) = true
      · obtain ⟨h2, h37, ha, hb⟩ := hyes
        have HP := hid (unpct_at s k hlt _ true (by rw [pcd_at37 s k h2 h37, ha, hb]; rfl))
        have h37' : (s[k].toNat : Int) = 37 := by rw [h37]; rfl
        have hva := hexI_yes _ ha
        have hvb := hexI_yes _ hb
        have hra := val16_lt (s[k + 1].toNat : Int)
        have hrb := val16_lt (s[k + 2].toNat : Int)
        have la : s[k + 1].toNat < 256 := s[k + 1].toNat_lt
        have lb : s[k + 2].toNat < 256 := s[k + 2].toNat_lt
        have hNN : Hid (((UInt8.ofNat (val16I s[k + 1].toNat * 16 + val16I s[k + 2].toNat).toNat).toNat : Int) = 16 * val16I s[k + 1].toNat + val16I s[k + 2].toNat) := by
          have : (UInt8.ofNat (val16I s[k + 1].toNat * 16 + val16I s[k + 2].toNat).toNat).toNat = (val16I s[k + 1].toNat * 16 + val16I s[k + 2].toNat).toNat % 256 := by simp
          refine hid ?_
          rw [this]
          omega
        generalize (UInt8.ofNat (val16I s[k + 1].toNat * 16 + val16I s[k + 2].toNat).toNat) = cc at HP hNN
        generalize val16I (s[k + 1].toNat : Int) = va at *
        generalize val16I (s[k + 2].toNat : Int) = vb at *
        obtain ⟨hra1, hra2⟩ := hra
        obtain ⟨hrb1, hrb2⟩ := hrb
        clear h37 ha hb
        have hge : decide (0 ≤ va) = true := by simp; omega
        have hgb : decide (0 ≤ vb) = true := by simp; omega
        go_wp2_with (go_at_call 41; refine (rhex_any _ _ (by omega) (by omega)).mono ?_; rintro e w' ⟨rfl, rfl⟩)
        have hw1 : IntKind.i64.wrap ((k : Int) + 1) = (k : Int) + 1 := by rw [IntKind.wrap_i64]; omega
        have hw2 : IntKind.i64.wrap ((k : Int) + 2) = (k : Int) + 2 := by rw [IntKind.wrap_i64]; omega
        have hw3 : IntKind.i64.wrap (16 * va) = 16 * va := by rw [IntKind.wrap_i64]; omega
        have hw4 : IntKind.i64.wrap (16 * va + vb) = 16 * va + vb := by rw [IntKind.wrap_i64]; omega
        have hw5 : IntKind.u8.wrap (16 * va + vb) = (cc.toNat : Int) := by rw [hNN.out, IntKind.wrap_u8]; omega
        have ht1 : ((k : Int) + 1).toNat = k + 1 := by omega
        have ht2 : ((k : Int) + 2).toNat = k + 2 := by omega
        have hq1 : (0 : Int) ≤ (k : Int) + 1 := by omega
        have hq2 : (0 : Int) ≤ (k : Int) + 2 := by omega
        have hq3 : (k : Int) + 1 < (s.size : Int) := by omega
        have hq4 : (k : Int) + 2 < (s.size : Int) := by omega
        have hbs := hbw.size
        go_region_law (first | (refine step_append_own rfl (.tmp 38) (.tmp 52) 68 rfl w.heap.size 5 i0 (.int .u8 0) 1 1 Tryz.underlying68 hi hz0 hz1 hz2 rfl (by decide) u3 acc.length (Lib.byteCells acc) rfl (by exact hown.alloc _) ⟨wr.heap.size, 0, none⟩ 1 1 [.int .u8 (cc.toNat : Int)] rfl rfl (by intro j u hj; match j, hj with | 0, hj => simp at hj; subst hj; simp [Addr.add]) (by intro u hu; simp at hu; subst hu; rfl) (by unfold maxLen; omega) (by omega) (by simp; omega) ?_; intro v' w2 hown' hgrow hnil) | (go_simp; go_at_call 41; refine (rhex_any _ _ (by omega) (by omega)).mono ?_; rintro e w' ⟨rfl, rfl⟩; go_simp))
        all_goals
          go_wp2
          go_roundw
          case rel =>
            refine ⟨k + 3, acc ++ [cc], by omega, by go_num, ?_, ?_, ?_, by simp; omega⟩
            · rw [Lib.byteCells_append, byteCells_one]; simpa using hown'
            · exact (hbw.alloc hbw.size _).drew.grown hgrow (by simp; omega) (fun g hg => (hown.lt g hg).1)
            · rw [← HA.out, HP.out, List.append_assoc]; rfl
          case measure => simp [intOf]; omega
      · have hno : pcd (s.data.toList.drop k) = (s[k], false) := by
          by_cases h37 : s[k] = 37
          · by_cases h2 : k + 2 < s.size
            · rw [pcd_at37 s k h2 h37, h37]
              by_cases ha : is16I (s[k + 1].toNat : Int) = true
              · by_cases hb : is16I (s[k + 2].toNat : Int) = true
                · exact absurd ⟨h2, h37, ha, hb⟩ hyes
                · simp [hb]
              · simp [ha]
            · exact pcd_short_at s k hlt h2
          · exact pcd_other_at s k hlt h37
        have HP := hid (unpct_at s k hlt _ false hno)
        have hcase : (((s[k].toNat : Int) == 37) = false) ∨ ((s[k].toNat : Int) = 37 ∧ s.size ≤ k + 2) ∨ (∃ h : k + 2 < s.size, (s[k].toNat : Int) = 37 ∧ is16I (s[k + 1].toNat : Int) = false) ∨ (∃ h : k + 2 < s.size, (s[k].toNat : Int) = 37 ∧ is16I (s[k + 1].toNat : Int) = true ∧ is16I (s[k + 2].toNat : Int) = false) := by
          by_cases h37 : s[k] = 37
          · have h37' : (s[k].toNat : Int) = 37 := by rw [h37]; rfl
            by_cases h2 : k + 2 < s.size
            · by_cases ha : is16I (s[k + 1].toNat : Int) = true
              · by_cases hb : is16I (s[k + 2].toNat : Int) = true
                · exact absurd ⟨h2, h37, ha, hb⟩ hyes
                · exact .inr (.inr (.inr ⟨h2, h37', ha, by simpa using hb⟩))
              · exact .inr (.inr (.inl ⟨h2, h37', by simpa using ha⟩))
            · exact .inr (.inl ⟨h37', by omega⟩)
          · left
            rw [beq_eq_false_iff_ne]
            intro e
            apply h37
            exact UInt8.toNat_inj.1 (by show s[k].toNat = 37; omega)
        clear hno hyes
        have hbs := hbw.size
        rcases hcase with h37 | ⟨h37, h2⟩ | ⟨h2, h37, ha⟩ | ⟨h2, h37, ha, hb⟩
        · go_wp2_with (at_builtin; refine wpList_append_own _ rfl _ _ 68 rfl w.heap.size 5 i0 (.int .u8 0) 1 1 Tryz.underlying68 hi hz0 hz1 hz2 rfl (by decide) _ _ _ rfl (hown.alloc _) ⟨wr.heap.size, 0, none⟩ 1 1 [.int .u8 s[k].toNat] rfl rfl ?c1 ?c2 ?c3 ?c4 ?c5 ?_)
          case c1 =>
            intro j u hj
            match j, hj with
            | 0, hj => simp at hj; subst hj; simp [Addr.add] <;> exact h37.symm
          case c2 => intro u hu; simp at hu; subst hu; rfl
          case c3 => unfold maxLen; omega
          case c4 => omega
          case c5 => simp; omega
          intro v' w2 hown' hgrow hnil
          go_wp2
          go_roundw
          case rel =>
            refine ⟨k + 1, acc ++ [s[k]], by omega, by go_num, ?_, ?_, ?_, by simp; omega⟩
            · rw [Lib.byteCells_append, byteCells_one]
              first | simpa using hown' | (simp only [h37] at hown' ⊢; simpa using hown')
            · exact (hbw.alloc hbw.size _).grown hgrow (by simp; omega) (fun g hg => (hown.lt g hg).1)
            · rw [← HA.out, HP.out, List.append_assoc]; rfl
          case measure => simp [intOf]; omega
        · have hd : decide ((k : Int) + 2 < (s.size : Int)) = false := by simp; omega
          go_wp2_with (at_builtin; refine wpList_append_own _ rfl _ _ 68 rfl w.heap.size 5 i0 (.int .u8 0) 1 1 Tryz.underlying68 hi hz0 hz1 hz2 rfl (by decide) _ _ _ rfl (hown.alloc _) ⟨wr.heap.size, 0, none⟩ 1 1 [.int .u8 s[k].toNat] rfl rfl ?c1 ?c2 ?c3 ?c4 ?c5 ?_)
          case c1 =>
            intro j u hj
            match j, hj with
            | 0, hj => simp at hj; subst hj; simp [Addr.add] <;> exact h37.symm
          case c2 => intro u hu; simp at hu; subst hu; rfl
          case c3 => unfold maxLen; omega
          case c4 => omega
          case c5 => simp; omega
          intro v' w2 hown' hgrow hnil
          go_wp2
          go_roundw
          case rel =>
            refine ⟨k + 1, acc ++ [s[k]], by omega, by go_num, ?_, ?_, ?_, by simp; omega⟩
            · rw [Lib.byteCells_append, byteCells_one]
              first | simpa using hown' | (simp only [h37] at hown' ⊢; simpa using hown')
            · exact (hbw.alloc hbw.size _).grown hgrow (by simp; omega) (fun g hg => (hown.lt g hg).1)
            · rw [← HA.out, HP.out, List.append_assoc]; rfl
          case measure => simp [intOf]; omega
        · have hva := hexI_no _ ha
          have la : s[k + 1].toNat < 256 := s[k + 1].toNat_lt
          have hd : (k : Int) + 2 < (s.size : Int) := by omega
          go_wp2_with (first | (go_at_call 41; refine (rhex_any _ _ (by omega) (by omega)).mono ?_; rintro e w' ⟨rfl, rfl⟩) | (at_builtin; refine wpList_append_own _ rfl _ _ 68 rfl w.heap.size 5 i0 (.int .u8 0) 1 1 Tryz.underlying68 hi hz0 hz1 hz2 rfl (by decide) _ _ _ rfl (hown.alloc _) ⟨wr.heap.size, 0, none⟩ 1 1 [.int .u8 s[k].toNat] rfl rfl ?c1 ?c2 ?c3 ?c4 ?c5 ?_))
          case c1 =>
            intro j u hj
            match j, hj with
            | 0, hj => simp at hj; subst hj; simp [Addr.add] <;> exact h37.symm
          case c2 => intro u hu; simp at hu; subst hu; rfl
          case c3 => unfold maxLen; omega
          case c4 => omega
          case c5 => simp; omega
          intro v' w2 hown' hgrow hnil
          go_wp2
          go_roundw
          case rel =>
            refine ⟨k + 1, acc ++ [s[k]], by omega, by go_num, ?_, ?_, ?_, by simp; omega⟩
            · rw [Lib.byteCells_append, byteCells_one]
              first | simpa using hown' | (simp only [h37] at hown' ⊢; simpa using hown')
            · exact (hbw.alloc hbw.size _).grown hgrow (by simp; omega) (fun g hg => (hown.lt g hg).1)
            · rw [← HA.out, HP.out, List.append_assoc]; rfl
          case measure => simp [intOf]; omega
        · have hva := hexI_yes _ ha
          have hvb := hexI_no _ hb
          have la : s[k + 1].toNat < 256 := s[k + 1].toNat_lt
          have lb : s[k + 2].toNat < 256 := s[k + 2].toNat_lt
          have hd : (k : Int) + 2 < (s.size : Int) := by omega
          have hra := (val16_lt (s[k + 1].toNat : Int)).1
          go_wp2_with (first | (go_at_call 41; refine (rhex_any _ _ (by omega) (by omega)).mono ?_; rintro e w' ⟨rfl, rfl⟩) | (at_builtin; refine wpList_append_own _ rfl _ _ 68 rfl w.heap.size 5 i0 (.int .u8 0) 1 1 Tryz.underlying68 hi hz0 hz1 hz2 rfl (by decide) _ _ _ rfl (hown.alloc _) ⟨wr.heap.size, 0, none⟩ 1 1 [.int .u8 s[k].toNat] rfl rfl ?c1 ?c2 ?c3 ?c4 ?c5 ?_))
          case c1 =>
            intro j u hj
            match j, hj with
            | 0, hj => simp at hj; subst hj; simp [Addr.add] <;> exact h37.symm
          case c2 => intro u hu; simp at hu; subst hu; rfl
          case c3 => unfold maxLen; omega
          case c4 => omega
          case c5 => simp; omega
          intro v' w2 hown' hgrow hnil
          go_wp2
          go_roundw
          case rel =>
            refine ⟨k + 1, acc ++ [s[k]], by omega, by go_num, ?_, ?_, ?_, by simp; omega⟩
            · rw [Lib.byteCells_append, byteCells_one]
              first | simpa using hown' | (simp only [h37] at hown' ⊢; simpa using hown')
            · exact (hbw.alloc hbw.size _).grown hgrow (by simp; omega) (fun g hg => (hown.lt g hg).1)
            · rw [← HA.out, HP.out, List.append_assoc]; rfl
          case measure => simp [intOf]; omega
    · have hd := drop_none s k hlt
      have he : acc = unpct s.data.toList := by rw [← HA.out, hd]; simp [unpct, unpctN]
      have hS := SlB.own hown
      rw [he] at hS
      have hcv := hS.string (P := Tryz.prog) (src := 68) (dst := 9) Tryz.underlying68 Tryz.underlying5 Tryz.underlying9
      clear hd he hS
      go_wp2
      go_ret
      exact ⟨rfl, hbw⟩

end Go.Proofs.YtdpihilikhbamaaGreatDoor

namespace Go.Proofs.YtdpihilikhbamaaGreatDoor
open Go.RowKit

theorem begins_eq (s t : ByteArray) (h : t.size ≤ s.size) : ((s.extract 0 t.size).toList == t.toList) = Lib.hasPrefix s.data.toList t.data.toList := by
  rw [Lib.toList_data, Lib.toList_data, Lib.extract_data, Bool.eq_iff_iff]
  unfold Lib.hasPrefix
  rw [List.isPrefixOf_iff_prefix, List.prefix_iff_eq_take, beq_iff_eq]
  simp
  exact eq_comm

theorem begins_no (s t : ByteArray) (h : ¬ t.size ≤ s.size) : Lib.hasPrefix s.data.toList t.data.toList = false := by
  rw [← Bool.not_eq_true]
  unfold Lib.hasPrefix
  rw [List.isPrefixOf_iff_prefix]
  intro hp
  have := hp.length_le
  simp at this
  exact h this

set_option maxHeartbeats 400000 in
theorem begins_any (s t : ByteArray) (w : World) (hs : s.size ≤ 4000000000) (ht : t.size ≤ 4000000000) :
    Calls Tryz.prog 21 #[.string s, .string t] w fun e w' => e = .returned (.bool (Lib.hasPrefix s.data.toList t.data.toList)) ∧ w = w' := by
  by_cases h : t.size ≤ s.size
  · have HE := hid (begins_eq s t h)
    have h' : (t.size : Int) ≤ (s.size : Int) := by omega
    have hd := decide_eq_true h'
    go_enter Tryz.func21, Tryz.ntmps21
    go_wp2
    go_ret
    exact ⟨ret_bool (by simpa using HE.out), rfl⟩
  · have HE := hid (begins_no s t h)
    have h' : ¬ (t.size : Int) ≤ (s.size : Int) := by omega
    have hd := decide_eq_false h'
    go_enter Tryz.func21, Tryz.ntmps21
    go_wp2
    go_ret
    exact ⟨ret_bool HE.out.symm, rfl⟩

theorem ends_eq (s t : ByteArray) (h : t.size ≤ s.size) : ((s.extract (s.size - t.size) s.size).toList == t.toList) = Lib.hasSuffix s.data.toList t.data.toList := by
  rw [Lib.toList_data, Lib.toList_data, Lib.extract_data, Bool.eq_iff_iff]
  unfold Lib.hasSuffix
  rw [List.isSuffixOf_iff_suffix, List.suffix_iff_eq_drop, beq_iff_eq]
  have e : s.size - (s.size - t.size) = t.size := by omega
  rw [e, List.take_of_length_le (by simp; omega)]
  simp
  exact eq_comm

theorem ends_no (s t : ByteArray) (h : ¬ t.size ≤ s.size) : Lib.hasSuffix s.data.toList t.data.toList = false := by
  rw [← Bool.not_eq_true]
  unfold Lib.hasSuffix
  rw [List.isSuffixOf_iff_suffix]
  intro hp
  have := hp.length_le
  simp at this
  exact h this

set_option maxHeartbeats 400000 in
theorem ends_any (s t : ByteArray) (w : World) (hs : s.size ≤ 4000000000) (ht : t.size ≤ 4000000000) :
    Calls Tryz.prog 22 #[.string s, .string t] w fun e w' => e = .returned (.bool (Lib.hasSuffix s.data.toList t.data.toList)) ∧ w = w' := by
  by_cases h : t.size ≤ s.size
  · have HE := hid (ends_eq s t h)
    have h' : (t.size : Int) ≤ (s.size : Int) := by omega
    have hd := decide_eq_true h'
    have ht : ((s.size : Int) - (t.size : Int)).toNat = s.size - t.size := by omega
    have h0 : (0 : Int) ≤ (s.size : Int) - (t.size : Int) := by omega
    have h1 : (s.size : Int) - (t.size : Int) ≤ (s.size : Int) := by omega
    go_enter Tryz.func22, Tryz.ntmps22
    go_wp2
    go_ret
    exact ⟨ret_bool (by simpa [ht] using HE.out), rfl⟩
  · have HE := hid (ends_no s t h)
    have h' : ¬ (t.size : Int) ≤ (s.size : Int) := by omega
    have hd := decide_eq_false h'
    go_enter Tryz.func22, Tryz.ntmps22
    go_wp2
    go_ret
    exact ⟨ret_bool HE.out.symm, rfl⟩

def forbB : ByteArray := ⟨#[0, 9, 10, 13, 32, 35, 47, 58, 60, 62, 63, 64, 91, 92, 93, 94, 124]⟩

theorem forb_mem (c : UInt8) : forb c = true ↔ ∃ k, ∃ h : k < forbB.size, forbB[k] = c := by
  have key : ∀ n < 256, (forb (UInt8.ofNat n) = true ↔ ∃ k, ∃ h : k < 17, forbL[k]'h = UInt8.ofNat n) := by
    have k2 : ∀ n < 256, forb (UInt8.ofNat n) = forbL.any (fun x => x == UInt8.ofNat n) := by decide +kernel
    intro n hn
    rw [k2 n hn, List.any_eq_true]
    constructor
    · rintro ⟨x, hx, he⟩
      obtain ⟨k, hk, rfl⟩ := List.getElem_of_mem hx
      exact ⟨k, hk, by simpa using he⟩
    · rintro ⟨k, hk, he⟩
      exact ⟨_, List.getElem_mem hk, by simpa using he⟩
  have := key c.toNat c.toNat_lt
  have e : UInt8.ofNat c.toNat = c := by simp
  rw [e] at this
  exact this

set_option maxHeartbeats 1000000 in
theorem rbad_any (c : UInt8) (w : World) :
    Calls Tryz.prog 24 #[.int .u8 (c.toNat : Int)] w fun e w' => e = .returned (.bool (forb c)) ∧ w = w' := by
  have hc8 := c.toNat_lt
  have HS := hid (show forbB.size = 17 from rfl)
  go_enter Tryz.func24, Tryz.ntmps24
  go_wp2
  go_loop [3] (fun i => ∃ k : Nat, k ≤ 17 ∧ i = .int .i64 k ∧ ∀ j, ∀ h : j < forbB.size, j < k → forbB[j] ≠ c) (fun i => 17 - (intOf i).toNat)
  case atStart => exact ⟨0, by omega, rfl, fun j _ h => absurd h (by omega)⟩
  case round =>
    obtain ⟨k, hk, rfl, hno⟩ := hrel
    have HN := hid hno
    clear hno
    by_cases hlt : k < 17
    · have hb : k < forbB.size := hlt
      have hlt' : (k : Int) < 17 := by omega
      have hx : (ByteArray.mk #[0, 9, 10, 13, 32, 35, 47, 58, 60, 62, 63, 64, 91, 92, 93, 94, 124]).size = 17 := rfl
      have hxk : k < (ByteArray.mk #[0, 9, 10, 13, 32, 35, 47, 58, 60, 62, 63, 64, 91, 92, 93, 94, 124]).size := by rw [hx]; exact hlt
      have hb8 : (ByteArray.mk #[0, 9, 10, 13, 32, 35, 47, 58, 60, 62, 63, 64, 91, 92, 93, 94, 124])[k].toNat < 256 := (ByteArray.mk #[0, 9, 10, 13, 32, 35, 47, 58, 60, 62, 63, 64, 91, 92, 93, 94, 124])[k].toNat_lt
      by_cases he : (ByteArray.mk #[0, 9, 10, 13, 32, 35, 47, 58, 60, 62, 63, 64, 91, 92, 93, 94, 124])[k] = c
      · have HF := hid ((forb_mem c).2 ⟨k, hb, he⟩)
        have he' : ((ByteArray.mk #[0, 9, 10, 13, 32, 35, 47, 58, 60, 62, 63, 64, 91, 92, 93, 94, 124])[k].toNat : Int) = (c.toNat : Int) := by rw [he]
        go_wp2
        go_ret
        exact ⟨ret_bool HF.out.symm, rfl⟩
      · have he' : (((ByteArray.mk #[0, 9, 10, 13, 32, 35, 47, 58, 60, 62, 63, 64, 91, 92, 93, 94, 124])[k].toNat : Int) == (c.toNat : Int)) = false := by
          rw [beq_eq_false_iff_ne]
          intro e
          exact he (UInt8.toNat_inj.1 (by omega))
        have HE := hid he
        clear he
        go_wp2
        go_round
        case rel =>
          refine ⟨k + 1, by omega, by go_num, fun j hj hjk => ?_⟩
          by_cases h1 : j = k
          · subst h1; exact HE.out
          · exact HN.out j hj (by omega)
        case measure => simp [intOf]; omega
    · have hk17 : k = 17 := by omega
      subst hk17
      have HF : Hid (forb c = false) := by
        refine hid ?_
        rw [← Bool.not_eq_true, forb_mem]
        rintro ⟨k, h, e⟩
        exact HN.out k h h e
      go_wp2
      go_ret
      exact ⟨ret_bool HF.out.symm, rfl⟩

end Go.Proofs.YtdpihilikhbamaaGreatDoor
