/-
  The walks of the document's own answers of chapter 6: ostiaryref6's value, back, quoted.
  The walk of the document's own answer of chapter 6: ostiaryref6's param.
-/
import Derived.Test.YtiemggepdeaogaaGreatDoorNa
set_option linter.unusedSimpArgs false
set_option linter.unusedVariables false
namespace Go.Proofs.YtiemggepdeaogaaGreatDoor
open Go.RowKit

set_option maxHeartbeats 1000000 in
theorem rvalue_any (s : ByteArray) (w : World) (hs : s.size ≤ 140737488351232) :
    Calls Tryz.prog 42 #[.string s] w fun e w' => e = .returned (.bool (fitV s.data.toList)) ∧ w' = w := by
  go_enter Tryz.func42, Tryz.ntmps42
  go_wp2
  go_loop [3] (fun i => ∃ k : Nat, k ≤ s.size ∧ i = .int .i64 k ∧ fitV (s.data.toList.take k) = true) (fun i => s.size - (intOf i).toNat)
  case atStart => exact ⟨0, Nat.zero_le _, rfl, rfl⟩
  case round =>
    obtain ⟨k, hk, rfl, hf⟩ := hrel
    have HF := hid hf
    clear hf
    by_cases hlt : k < s.size
    · have hl : k < s.data.toList.length := by simpa using hlt
      have HS := hid (fit_step s.data.toList k hl)
      have HBd := hid (fit_bad s.data.toList k hl)
      have hx : s.data.toList[k] = s[k] := rfl
      rw [hx] at HS HBd
      go_wp2
      all_goals first
        | (go_round
           case rel => exact ⟨k + 1, by omega, by go_num, by rw [HS.out, HF.out, Bool.true_and]; unfold fitC; simp at *; omega⟩
           case measure => simp [intOf]; omega)
        | (go_ret
           exact ⟨ret_tf (HBd.out (by unfold fitC; simp at *; omega)).symm, rfl⟩)
    · have HA := hid (take_all s k hlt)
      go_wp2
      go_ret
      exact ⟨ret_tf (by rw [← HF.out, HA.out]), rfl⟩

theorem tB_x (l : List UInt8) : tB (120 :: l) = 120 :: tR l := by
  have h1 : tR (120 :: l) = 120 :: tR l := by
    unfold tR Lib.trimRightS
    rw [List.reverse_cons]
    have := dropWhile_stop5 (bl4.contains ·) l.reverse [] 120 (by decide)
    rw [this]
    simp
  show tL (tR (120 :: l)) = _
  rw [h1]
  exact tL_keep (by decide)

set_option maxHeartbeats 1000000 in
theorem rback_any (s : ByteArray) (w : World) (hs : s.size ≤ 4000000000) :
    Calls Tryz.prog 39 #[.string s] w fun e w' => e = .returned (.string (ba (tR s.data.toList))) ∧ w = w' := by
  have h1 : ((⟨#[120]⟩ : ByteArray) ++ s).data.toList = 120 :: s.data.toList := by simp
  have hz : ((⟨#[120]⟩ : ByteArray) ++ s).size ≤ 9223372036854775807 := by rw [Lib.size_eq, h1, List.length_cons, ← Lib.size_eq]; omega
  obtain ⟨T, hT⟩ : ∃ T, ba (120 :: tR s.data.toList) = T := ⟨_, rfl⟩
  have HTr : Hid (∀ w : World, Calls Tryz.prog 37 #[.string ((⟨#[120]⟩ : ByteArray) ++ s), .bool false] w fun e w' => e = .returned (.string T) ∧ w = w') := fun w => by
    have := rtrim_any ((⟨#[120]⟩ : ByteArray) ++ s) w hz
    rw [h1, tB_x] at this
    rw [← hT]; exact this
  have hT1 : (1 : Int) ≤ (T.size : Int) := by rw [← hT, ba_size, List.length_cons]; omega
  have HV := hid (show T.extract 1 T.size = ba (tR s.data.toList) from xba (by rw [extract_drop, ← hT]; rfl))
  clear h1 hz hT
  go_enter Tryz.func39, Tryz.ntmps39
  go_wp2_with fail
  refine (HTr.out _).mono ?_
  rintro e w1 ⟨rfl, rfl⟩
  go_wp2
  go_ret
  rw [HV.out]
  exact ⟨rfl, rfl⟩

theorem str_app (s : ByteArray) (k : Nat) (h : k < s.size) (T : List UInt8) : (ba T : ByteArray) ++ s.extract k (k + 1) = ba (T ++ [s[k]]) := word_app s k h T

set_option maxHeartbeats 4000000 in
set_option maxRecDepth 100000 in
theorem rquoted_any (s : ByteArray) (w : World) (hs : s.size ≤ 4000000000) :
    Calls Tryz.prog 69 #[.string s] w fun e w' => e = .returned (.tuple #[.string (ba (quo s.data.toList).1), .string (ba (quo s.data.toList).2)]) ∧ Below w.heap.size w w' := by
  go_enter Tryz.func69, Tryz.ntmps69
  go_wp2
  go_loopw [4, 5] (fun o i wr => ∃ (k : Nat) (T : List UInt8), k ≤ s.size ∧ i = .int .i64 k ∧ o = .string (ba T) ∧ T.length ≤ k ∧ QR (quo s.data.toList).1 (quo s.data.toList).2 T (s.data.toList.drop k) ∧ wr = w) (fun o i _ => s.size - (intOf i).toNat)
  case atStart => exact ⟨0, [], Nat.zero_le _, rfl, rfl, Nat.le_refl _, QR.start _, rfl⟩
  case round =>
    obtain ⟨k, T, hk, rfl, rfl, hTl, hq, rfl⟩ := hrel
    have hTs : (ba T).size ≤ 4000000000 := by rw [ba_size]; omega
    by_cases hlt : k < s.size
    · have hd := drop_cons s k hlt
      rw [hd] at hq
      have hlt' : (k : Int) < (s.size : Int) := by omega
      have HA := hid (str_app s k hlt T)
      have hb := s[k].toNat_lt
      by_cases h92 : s[k] = 92
      · have e92 : (s[k].toNat : Int) = 92 := by rw [h92]; rfl
        by_cases h1 : k + 1 < s.size
        · have h1' : (k : Int) + 1 < (s.size : Int) := by omega
          have hd1 := drop_cons s (k + 1) h1
          rw [hd1, h92] at hq
          have HQ := hid hq.esc
          have HA1 := hid (str_app s (k + 1) h1 T)
          have h2' : (k : Int) + 1 + 1 ≤ (s.size : Int) := by omega
          clear hq hd hd1 h92
          go_wp2
          go_roundw
          case rel => exact ⟨k + 2, T ++ [s[k + 1]], by omega, by go_num, by rw [← HA1.out], by simp; omega, HQ.out, trivial⟩
          case measure => simp [intOf]; omega
        · have h1' : ¬ (k : Int) + 1 < (s.size : Int) := by omega
          have hd1 : s.data.toList.drop (k + 1) = [] := List.drop_eq_nil_of_le (by simp; omega)
          rw [hd1] at hq
          have HQ := hid (hq.one (by rw [h92]; decide))
          have hwk : (k : Int) + 1 ≤ (s.size : Int) := by omega
          clear hq hd hd1 h92
          go_wp2
          go_roundw
          case rel => exact ⟨k + 1, T ++ [s[k]], by omega, by go_num, by rw [← HA.out], by simp; omega, by rw [show s.data.toList.drop (k + 1) = [] from List.drop_eq_nil_of_le (by simp; omega)]; exact HQ.out, trivial⟩
          case measure => simp [intOf]; omega
      · have e92 : ((s[k].toNat : Int) == 92) = false := by rw [beq_eq_false_iff_ne]; intro e; exact h92 (UInt8.toNat_inj.1 (by show s[k].toNat = 92; omega))
        by_cases h34 : s[k] = 34
        · have e34 : (s[k].toNat : Int) = 34 := by rw [h34]; rfl
          rw [h34] at hq
          obtain ⟨q1, q2⟩ := hq.close
          have HQ1 := hid q1
          have HQ2 := hid q2
          have hwk : (k : Int) + 1 ≤ (s.size : Int) := by omega
          clear hq hd h34 h92 q1 q2
          go_wp2
          go_region
          go_wp2
          go_ret2
          refine ⟨?_, (Below.refl _ _).drew⟩
          rw [HQ2.out, ← HQ1.out]
          have e : s.extract (k + 1) s.size = ba (s.data.toList.drop (k + 1)) := xba (by rw [extract_drop]; rfl)
          rw [← e]
          rfl
        · have e34 : ((s[k].toNat : Int) == 34) = false := by rw [beq_eq_false_iff_ne]; intro e; exact h34 (UInt8.toNat_inj.1 (by show s[k].toNat = 34; omega))
          have hwk : (k : Int) + 1 ≤ (s.size : Int) := by omega
          have HQ := hid (show QR (quo s.data.toList).1 (quo s.data.toList).2 (T ++ [s[k]]) (s.data.toList.drop (k + 1)) by
            cases hr : s.data.toList.drop (k + 1) with
            | nil => rw [hr] at hq; exact hq.one h34
            | cons d r => rw [hr] at hq; exact hq.oth h34 h92)
          clear hq hd h34 h92
          go_wp2
          go_roundw
          case rel => exact ⟨k + 1, T ++ [s[k]], by omega, by go_num, by rw [← HA.out], by simp; omega, HQ.out, trivial⟩
          case measure => simp [intOf]; omega
    · have hd : s.data.toList.drop k = [] := List.drop_eq_nil_of_le (by simp; omega)
      rw [hd] at hq
      obtain ⟨q1, q2⟩ := hq.nil
      have HQ1 := hid q1
      have HQ2 := hid q2
      clear hq hd q1 q2
      go_wp2
      go_ret2
      rw [HQ2.out, ← HQ1.out]
      exact ⟨rfl, Below.refl _ _⟩

end Go.Proofs.YtiemggepdeaogaaGreatDoor

namespace Go.Proofs.YtiemggepdeaogaaGreatDoor
open Go.RowKit

/-- The block b holds a parameter of the document's own. -/
def TwoR (w : World) (b : Nat) (n v : ByteArray) : Prop := w.heap[b]? = some (.cells #[.string n, .string v] 50 (0, 0))

theorem TwoR.lt {w : World} {b : Nat} {n v : ByteArray} (h : TwoR w b n v) : b < w.heap.size := (Array.getElem?_eq_some_iff.1 h).1
theorem TwoR.range {w : World} {b : Nat} {n v : ByteArray} (h : TwoR w b n v) : w.rangeAt b 0 [.string n, .string v] := fun j u hu => by
  rw [Nat.zero_add, Lib.cell_of_heap h]
  match j, hu with
  | 0, hu => simpa using hu
  | 1, hu => simpa using hu
  | j + 2, hu => simp at hu
theorem TwoR.cells {w : World} {b : Nat} {n v : ByteArray} (h : TwoR w b n v) : w.cell? ⟨b, 0, none⟩ = some (.string n) ∧ w.cell? ⟨b, 1, none⟩ = some (.string v) ∧ w.frozen? ⟨b, 0, none⟩ = false ∧ w.frozen? ⟨b, 1, none⟩ = false :=
  ⟨by rw [Lib.cell_of_heap h]; rfl, by rw [Lib.cell_of_heap h]; rfl, Lib.frozen_of_heap h 0, Lib.frozen_of_heap h 1⟩
theorem TwoR.set {w : World} {b : Nat} {n v n' v' : ByteArray} (h : TwoR w b n v) : TwoR ((w.setCell ⟨b, 0, none⟩ (.string n')).setCell ⟨b, 1, none⟩ (.string v')) b n' v' := by
  have h1 := Lib.heap_setCell_same h (i := 0) (.string n')
  have h2 := Lib.heap_setCell_same h1 (i := 1) (.string v')
  exact h2
theorem TwoR.kept {w w' : World} {b : Nat} {n v : ByteArray} (h : TwoR w b n v) (hb : Below w.heap.size w w') : TwoR w' b n v := (hb.block b h.lt).trans h

theorem results_r3 {fn : Func} {p q r : Tmp} (h : fn.results = #[.cell p 50, .tmp q, .tmp r]) (tmps : Array Value) (w : World) (b : Nat) (n v : ByteArray) (hp : tmps.getD p undef = .pointer (some ⟨b, 0, none⟩)) (hc : w.rangeAt b 0 [.string n, .string v]) : (results fn tmps).run Tryz.prog w = .ok (.tuple #[hdVal n v, tmps.getD q undef, tmps.getD r undef]) w := by
  rw [Array.getD_eq_getD_getElem?] at hp
  simp only [results, h]
  simp [Sem.run_bind, Result.andThen, hp, asAddr, run_loadVar_mid w b 0 50 [.string n, .string v] _ hc Tryz.underlying50 rfl (by kernel_rfl), hdVal]

/-- What the document's own piece tells. -/
def rOkV (l : List UInt8) : Bool := isE (rstP l) && valB6 ((rstP l).drop 1)
def rNV (l : List UInt8) : List UInt8 := if rOkV l then low (namP l) else []
def rVV (l : List UInt8) : List UInt8 := if rOkV l then valV ((rstP l).drop 1) else []

set_option maxRecDepth 100000 in
theorem tok_lowC (c : UInt8) : tokC (lowC c) = tokC c := by
  have := byte_all (p := fun c => tokC (lowC c) == tokC c) (by decide) c
  simpa using this
theorem tokL_lowE (l : List UInt8) : tokL (low l) = tokL l := by
  unfold tokL low
  rw [List.all_map, List.isEmpty_map]
  congr 1
  refine congrArg (fun p => l.all p) ?_
  funext c; exact tok_lowC c

theorem step_ref (out : List Hd) (l : List UInt8) : stepP out l = if (tokL (rNV l) && fitV (rVV l)) && !has6 out (rNV l) then out ++ [⟨rNV l, rVV l⟩] else out := by
  unfold stepP parB parN parV rNV rVV rOkV
  cases h1 : isE (rstP l) with
  | false => simp [tokL]
  | true =>
    cases h2 : valB6 ((rstP l).drop 1) with
    | false => simp [tokL]
    | true => simp only [Bool.true_and, if_true, tokL_lowE]

theorem nam_at (l : List UInt8) (k : Nat) (hk : k ≤ (tL l).length) (h1 : ∀ x ∈ (tL l).take k, [(59 : UInt8), 61].contains x = false) (h2 : k = (tL l).length ∨ ∃ h : k < (tL l).length, [(59 : UInt8), 61].contains (tL l)[k] = true) : namP l = (tL l).take k ∧ rstP l = (tL l).drop k := by
  have := up_stop [59, 61] ((tL l).take k) ((tL l).drop k) h1 (by
    rcases h2 with rfl | ⟨h, hc⟩
    · left; simp
    · right; exact ⟨_, _, List.drop_eq_getElem_cons h, hc⟩)
  rw [List.take_append_drop] at this
  exact this

theorem upR59 (l : List UInt8) (k : Nat) (h1 : ∀ x ∈ l.take k, [(59 : UInt8), 61].contains x = false) (h2 : l.drop k = [] ∨ (l.drop k).head? = some 59) : upR [59] l = l.drop k := by
  have := up_stop [59] (l.take k) (l.drop k) (fun x hx => by
    have := h1 x hx
    simp at this ⊢
    exact this.1) (by
    rcases h2 with h | h
    · exact .inl h
    · right
      cases hd : l.drop k with
      | nil => rw [hd] at h; cases h
      | cons c r => rw [hd] at h; simp at h; subst h; exact ⟨59, r, rfl, rfl⟩)
  rw [List.take_append_drop] at this
  exact this.2

theorem isQ_pre (l : List UInt8) : Lib.hasPrefix l [34] = isQ l := by
  unfold Lib.hasPrefix isQ
  cases l with
  | nil => rfl
  | cons c r =>
    by_cases h : c = 34
    · subst h; simp [List.isPrefixOf]
    · have h2 : (34 : UInt8) ≠ c := fun e => h e.symm
      simp [List.isPrefixOf, h, h2]
      exact (beq_eq_false_iff_ne.2 h2).trans (beq_eq_false_iff_ne.2 h).symm

theorem ret_r3 {n n' v v' l l' : ByteArray} {b b' : Bool} (h1 : n = n') (h2 : v = v') (h3 : l = l') (h4 : b = b') : Ending.returned (.tuple #[hdVal n v, .string l, .bool b]) = .returned (.tuple #[hdVal n' v', .string l', .bool b']) := by rw [h1, h2, h3, h4]

def RpPost (l : List UInt8) (w : World) (e : Ending) (w' : World) : Prop := e = .returned (.tuple #[hdVal (ba (rNV l)) (ba (rVV l)), .string (ba ((parR l).drop 1)), .bool (!(parR l).isEmpty)]) ∧ Below w.heap.size w w'

theorem blank_of (c : UInt8) : bl4.contains c = (((c.toNat : Int) == 9) || ((c.toNat : Int) == 10) || ((c.toNat : Int) == 13) || ((c.toNat : Int) == 32)) := by
  have := pE_contains c
  unfold bl4
  rw [this]
  unfold pE endI
  cases ((c.toNat : Int) == 9) <;> cases ((c.toNat : Int) == 10) <;> cases ((c.toNat : Int) == 13) <;> cases ((c.toNat : Int) == 32) <;> rfl

set_option maxHeartbeats 8000000 in
set_option maxRecDepth 100000 in
theorem rparam_any (s : ByteArray) (w : World) (hs : s.size ≤ 1000000000) :
    Calls Tryz.prog 41 #[.string s] w (RpPost s.data.toList w) := by
  have H0 := hid (show TwoR (w.alloc (.cells #[.string ⟨#[]⟩, .string ⟨#[]⟩] 50)) w.heap.size ⟨#[]⟩ ⟨#[]⟩ from heap_alloc_new _ _)
  have HB0 := hid (show Below w.heap.size w (w.alloc (.cells #[.string ⟨#[]⟩, .string ⟨#[]⟩] 50)) from (Below.refl _ w).alloc (Nat.le_refl _) _)
  go_enter Tryz.func41, Tryz.ntmps41
  go_wp2
  generalize (w.alloc (.cells #[.string ⟨#[]⟩, .string ⟨#[]⟩] 50)) = W at *
  go_loop [0] (fun o => ∃ S : ByteArray, o = .string S ∧ S.size ≤ s.size ∧ tL S.data.toList = tL s.data.toList) (fun o => match o with | .string S => S.size | _ => 0)
  case atStart => exact ⟨s, rfl, Nat.le_refl _, rfl⟩
  case round =>
    obtain ⟨S, rfl, hSs, htl⟩ := hrel
    have HTl := hid htl
    clear htl
    by_cases hgo : ∃ h : 0 < S.size, bl4.contains S[0] = true
    · obtain ⟨h0, hbl⟩ := hgo
      have h0' : (0 : Int) < (S.size : Int) := by omega
      have hcs := hbl
      rw [blank_of] at hcs
      have HN := hid (show tL (S.extract 1 S.size).data.toList = tL s.data.toList by
        rw [← HTl.out, ext_from1 S h0]
        unfold tL Lib.trimLeftS
        rw [List.dropWhile_cons_of_pos (by exact hbl)])
      have hsz : (S.extract 1 S.size).size + 1 ≤ S.size := by simp; omega
      clear hbl
      have hw : (((S[0]'h0).toNat : Int) == 9) = true ∨ ((((S[0]'h0).toNat : Int) == 9) = false ∧ (((S[0]'h0).toNat : Int) == 10) = true) ∨ ((((S[0]'h0).toNat : Int) == 9) = false ∧ (((S[0]'h0).toNat : Int) == 10) = false ∧ (((S[0]'h0).toNat : Int) == 13) = true) ∨ ((((S[0]'h0).toNat : Int) == 9) = false ∧ (((S[0]'h0).toNat : Int) == 10) = false ∧ (((S[0]'h0).toNat : Int) == 13) = false ∧ (((S[0]'h0).toNat : Int) == 32) = true) := by
        revert hcs
        cases (((S[0]'h0).toNat : Int) == 9) <;> cases (((S[0]'h0).toNat : Int) == 10) <;> cases (((S[0]'h0).toNat : Int) == 13) <;> cases (((S[0]'h0).toNat : Int) == 32) <;> simp
      clear hcs
      rcases hw with c1 | ⟨c1, c2⟩ | ⟨c1, c2, c3⟩ | ⟨c1, c2, c3, c4⟩
      all_goals
        go_wp2
        go_round
        case rel => exact ⟨S.extract 1 S.size, rfl, by omega, HN.out⟩
        case measure => simp; omega
    · have htS : tL S.data.toList = S.data.toList := by
        rcases Nat.eq_zero_or_pos S.size with h | h
        · have : S.data.toList = [] := List.eq_nil_of_length_eq_zero (by rw [← Lib.size_eq]; exact h)
          rw [this]; rfl
        · rw [ext_from1 S h]
          refine tL_keep ?_
          cases hb : bl4.contains S[0] with
          | false => rfl
          | true => exact absurd ⟨h, hb⟩ hgo
      have HSl := hid (show tL s.data.toList = S.data.toList by rw [← HTl.out]; exact htS)
      have hcs : ¬ (0 : Int) < (S.size : Int) ∨ ∃ h0 : 0 < S.size, (((S[0]'h0).toNat : Int) == 9) = false ∧ (((S[0]'h0).toNat : Int) == 10) = false ∧ (((S[0]'h0).toNat : Int) == 13) = false ∧ (((S[0]'h0).toNat : Int) == 32) = false := by
        rcases Nat.eq_zero_or_pos S.size with h | h
        · exact .inl (by omega)
        · right
          refine ⟨h, ?_⟩
          have hb : bl4.contains S[0] = false := by
            cases hb : bl4.contains S[0] with
            | false => rfl
            | true => exact absurd ⟨h, hb⟩ hgo
          rw [blank_of] at hb
          revert hb
          cases (((S[0]'h).toNat : Int) == 9) <;> cases (((S[0]'h).toNat : Int) == 10) <;> cases (((S[0]'h).toNat : Int) == 13) <;> cases (((S[0]'h).toNat : Int) == 32) <;> simp
      clear hgo htS
      have hsS : S.size ≤ 1000000000 := by omega
      rcases hcs with hc | ⟨h0, c1, c2, c3, c4⟩
      all_goals
        go_wp2
        go_loop [5] (fun i => ∃ k : Nat, k ≤ S.size ∧ i = .int .i64 k ∧ ∀ x ∈ S.data.toList.take k, [(59 : UInt8), 61].contains x = false) (fun i => S.size - (intOf i).toNat)
        case atStart => exact ⟨0, Nat.zero_le _, rfl, by simp⟩
        case round =>
          obtain ⟨k, hk, rfl, hno⟩ := hrel
          have HNo := hid hno
          clear hno
          have hcase : (∃ h : k < S.size, ((S[k].toNat : Int) != 59) = true ∧ ((S[k].toNat : Int) != 61) = true ∧ [(59 : UInt8), 61].contains S[k] = false) ∨ (∃ h : k < S.size, ((S[k].toNat : Int) != 59) = true ∧ S[k] = 61) ∨ (∃ h : k < S.size, S[k] = 59) ∨ k = S.size := by
            by_cases h : k < S.size
            · by_cases h59 : S[k] = 59
              · exact .inr (.inr (.inl ⟨h, h59⟩))
              · by_cases h61 : S[k] = 61
                · exact .inr (.inl ⟨h, byte_bne (a := S[k]) (b := 59) h59, h61⟩)
                · exact .inl ⟨h, byte_bne (a := S[k]) (b := 59) h59, byte_bne (a := S[k]) (b := 61) h61, by simp [h59, h61]⟩
            · exact .inr (.inr (.inr (by omega)))
          rcases hcase with ⟨hlt, b1, b2, hb3⟩ | hcase
          · have hlt' : (k : Int) < (S.size : Int) := by omega
            have HN2 := hid (show ∀ x ∈ S.data.toList.take (k + 1), [(59 : UInt8), 61].contains x = false by
              intro x hx
              rw [take_snoc S k hlt] at hx
              rcases List.mem_append.1 hx with h | h
              · exact HNo.out x h
              · rw [List.mem_singleton.1 h]; exact hb3)
            clear hb3
            go_wp2
            go_round
            case rel => exact ⟨k + 1, by omega, by go_num, HN2.out⟩
            case measure => simp [intOf]; omega
          · have hnm := nam_at s.data.toList k (by rw [HSl.out, ← Lib.size_eq]; exact hk) (by rw [HSl.out]; exact HNo.out) (by
              rw [HSl.out]
              rcases hcase with ⟨h, _, e⟩ | ⟨h, e⟩ | h
              · exact .inr ⟨by simpa using h, by show [(59 : UInt8), 61].contains S[k] = true; rw [e]; rfl⟩
              · exact .inr ⟨by simpa using h, by show [(59 : UInt8), 61].contains S[k] = true; rw [e]; rfl⟩
              · exact .inl (by rw [h]; simp))
            rw [HSl.out] at hnm
            obtain ⟨N, hN⟩ : ∃ N, S.extract 0 k = N := ⟨_, rfl⟩
            have hNl : N.data.toList = namP s.data.toList := by rw [hnm.1, ← hN, Lib.extract_data]; simp
            have hNs : N.size ≤ 1000000000 := by rw [← hN]; simp; omega
            have HLw : Hid (∀ w : World, Calls Tryz.prog 22 #[.string N] w fun e w' => e = .returned (.string (ba (low (namP s.data.toList)))) ∧ Below w.heap.size w w') := fun w => by
              rw [← hNl]; exact rlower_any N w (by omega)
            have HRs := hid hnm.2
            have HNe := hid hN
            have hk' : (k : Int) ≤ (S.size : Int) := by omega
            have hk0 : k ≤ S.size := hk
            clear hnm hNl hN
            rcases hcase with hcase | hcase
            · -- behind the name stands '='
              obtain ⟨hlt, b1, e61⟩ := hcase
              all_goals try (exfalso; omega)
              all_goals
                have hlt' : (k : Int) < (S.size : Int) := by omega
                have b2 : (S[k].toNat : Int) = 61 := by rw [e61]; rfl
                have hke : ((k : Int) == (S.size : Int)) = false := by rw [beq_eq_false_iff_ne]; omega
                have hE : isE (rstP s.data.toList) = true := by unfold isE; rw [HRs.out, drop_cons S k hlt, e61]; rfl
                have hk1 : (k : Int) + 1 ≤ (S.size : Int) := by omega
                obtain ⟨D, hD⟩ : ∃ D, S.extract (k + 1) S.size = D := ⟨_, rfl⟩
                have hDl : (rstP s.data.toList).drop 1 = D.data.toList := by rw [HRs.out, ← hD, extract_drop, List.drop_drop]
                have hDs : D.size ≤ 1000000000 := by rw [← hD]; simp; omega
                have HRN := hid (show rNV s.data.toList = if valB6 D.data.toList then low (namP s.data.toList) else [] by unfold rNV rOkV; rw [hE, hDl, Bool.true_and])
                have HRV := hid (show rVV s.data.toList = if valB6 D.data.toList then valV D.data.toList else [] by unfold rVV rOkV; rw [hE, hDl, Bool.true_and])
                have HPR := hid (show parR s.data.toList = valR D.data.toList by unfold parR; rw [hE, hDl]; rfl)
                have HDe := hid hD
                clear hE hDl hD e61
                obtain ⟨q, hq⟩ : ∃ q, isQ D.data.toList = q := ⟨_, rfl⟩
                have HBg : Hid (∀ w : World, Calls Tryz.prog 68 #[.string D, .string ⟨#[34]⟩] w fun e w' => e = .returned (.bool q) ∧ w = w') := fun w => by
                  have := begins_any D ⟨#[34]⟩ w (by omega) (by decide)
                  rw [show (⟨#[34]⟩ : ByteArray).data.toList = [34] from rfl, isQ_pre, hq] at this
                  exact this
                cases q with
                | true =>
                  have hd0 : 0 < D.size := by
                    rcases Nat.eq_zero_or_pos D.size with h | h
                    · have : D.data.toList = [] := List.eq_nil_of_length_eq_zero (by rw [← Lib.size_eq]; exact h)
                      rw [this] at hq; simp [isQ] at hq
                    · exact h
                  have hd1 : (1 : Int) ≤ (D.size : Int) := by omega
                  obtain ⟨G, hG⟩ : ∃ G, D.extract 1 D.size = G := ⟨_, rfl⟩
                  have hGl : D.data.toList.drop 1 = G.data.toList := by rw [← hG, extract_drop]
                  have hGs : G.size ≤ 1000000000 := by rw [← hG]; simp; omega
                  have hql := quo_len _ G.data.toList (Nat.le_refl _)
                  rw [← Lib.size_eq] at hql
                  obtain ⟨V, hV⟩ : ∃ V, ba (quo G.data.toList).1 = V := ⟨_, rfl⟩
                  obtain ⟨Z, hZ⟩ : ∃ Z, ba (quo G.data.toList).2 = Z := ⟨_, rfl⟩
                  have hZs : Z.size ≤ 1000000000 := by rw [← hZ, ba_size]; omega
                  have HQu : Hid (∀ w : World, Calls Tryz.prog 69 #[.string G] w fun e w' => e = .returned (.tuple #[.string V, .string Z]) ∧ Below w.heap.size w w') := fun w => by
                    rw [← hV, ← hZ]; exact rquoted_any G w (by omega)
                  have HA1 := hid (show ba (rNV s.data.toList) = ba (low (namP s.data.toList)) by rw [HRN.out]; unfold valB6; rw [hq]; rfl)
                  have HA2 := hid (show ba (rVV s.data.toList) = V by rw [HRV.out]; unfold valB6 valV; rw [hq, hGl]; exact hV)
                  have HA3 := hid (show parR s.data.toList = upR [59] Z.data.toList by rw [HPR.out]; unfold valR; rw [hq, hGl, ← hZ]; rfl)
                  have HGe := hid hG
                  clear hq hG hGl hql hV hZ HRN HRV HPR
                  go_wp2_with fail
                  rw [HNe.out]
                  refine (HLw.out _).mono ?_
                  rintro e w1 ⟨rfl, hb1⟩
                  go_wp2_with fail
                  rw [HDe.out]
                  refine (HBg.out _).mono ?_
                  rintro e w2 ⟨rfl, rfl⟩
                  go_wp2_with fail
                  rw [HGe.out]
                  refine (HQu.out _).mono ?_
                  rintro e w3 ⟨rfl, hb3⟩
                  go_wp2_with fail
                  refine (rpart6_any Z 59 _ (by omega)).mono ?_
                  rintro e w4 ⟨rfl, hb4⟩
                  have HB4 := hid (belowT (belowT (belowT HB0.out hb1) hb3) hb4)
                  have HT4 := hid (((H0.out.kept hb1).kept hb3).kept hb4)
                  obtain ⟨c0, c1', g0, g1⟩ := HT4.out.cells
                  clear hb1 hb3 hb4
                  go_wp2
                  refine bodyPost_ret (results_r3 rfl _ _ w.heap.size (ba (low (namP s.data.toList))) V rfl HT4.out.set.range) rfl ⟨?_, (HB4.out.setCell (p := ⟨w.heap.size, 0, none⟩) (Nat.le_refl _) _).setCell (p := ⟨w.heap.size, 1, none⟩) (Nat.le_refl _) _⟩
                  rw [HA1.out, HA2.out, HA3.out, List.drop_one]; rfl
                | false =>
                  have hul := upA_le [59] D.data.toList
                  rw [← Lib.size_eq] at hul
                  obtain ⟨A, hA⟩ : ∃ A, ba (upA [59] D.data.toList) = A := ⟨_, rfl⟩
                  have hAl : A.data.toList = upA [59] D.data.toList := by rw [← hA]; rfl
                  have hAs : A.size ≤ 1000000000 := by rw [← hA, ba_size]; omega
                  obtain ⟨V, hV⟩ : ∃ V, ba (tR A.data.toList) = V := ⟨_, rfl⟩
                  have HBk : Hid (∀ w : World, Calls Tryz.prog 39 #[.string A] w fun e w' => e = .returned (.string V) ∧ w = w') := fun w => by
                    rw [← hV]; exact rback_any A w (by omega)
                  have HPt : Hid (∀ w : World, Calls Tryz.prog 38 #[.string D, .int .u8 59] w fun e w' => e = .returned (.tuple #[.string A, .string (ba ((upR [59] D.data.toList).drop 1)), .bool (!(upR [59] D.data.toList).isEmpty)]) ∧ Below w.heap.size w w') := fun w => by
                    rw [← hA]; exact rpart6_any D 59 w (by omega)
                  have HA3 := hid (show parR s.data.toList = upR [59] D.data.toList by rw [HPR.out]; unfold valR; rw [hq]; rfl)
                  have hvb : valB6 D.data.toList = !(tR A.data.toList).isEmpty := by unfold valB6; rw [hq, hAl]; rfl
                  have hvv : valV D.data.toList = tR A.data.toList := by unfold valV; rw [hq, hAl]; rfl
                  rw [hvb] at HRN HRV
                  rw [hvv] at HRV
                  by_cases hem : tR A.data.toList = []
                  · have hVe : V = ⟨#[]⟩ := by rw [← hV, hem]; rfl
                    have HA1 := hid (show ba (rNV s.data.toList) = ⟨#[]⟩ by rw [HRN.out, hem]; rfl)
                    have HA2 := hid (show ba (rVV s.data.toList) = ⟨#[]⟩ by rw [HRV.out, hem]; rfl)
                    subst hVe
                    clear hq hul hA hAl hV HRN HRV HPR hvb hvv hem
                    go_wp2_with fail
                    rw [HNe.out]
                    refine (HLw.out _).mono ?_
                    rintro e w1 ⟨rfl, hb1⟩
                    go_wp2_with fail
                    rw [HDe.out]
                    refine (HBg.out _).mono ?_
                    rintro e w2 ⟨rfl, rfl⟩
                    go_wp2_with fail
                    refine (HPt.out _).mono ?_
                    rintro e w3 ⟨rfl, hb3⟩
                    go_wp2_with fail
                    refine (HBk.out _).mono ?_
                    rintro e w4 ⟨rfl, rfl⟩
                    have HB4 := hid (belowT (belowT HB0.out hb1) hb3)
                    have HT4 := hid ((H0.out.kept hb1).kept hb3)
                    obtain ⟨c0, c1', g0, g1⟩ := HT4.out.cells
                    clear hb1 hb3
                    go_wp2
                    refine bodyPost_ret (results_r3 rfl _ _ w.heap.size ⟨#[]⟩ ⟨#[]⟩ rfl HT4.out.set.range) rfl ⟨?_, (HB4.out.setCell (p := ⟨w.heap.size, 0, none⟩) (Nat.le_refl _) _).setCell (p := ⟨w.heap.size, 1, none⟩) (Nat.le_refl _) _⟩
                    rw [HA1.out, HA2.out, HA3.out, List.drop_one]; rfl
                  · have hVe : V.toList.isEmpty = false := by rw [← hV]; exact xempty_no _ hem
                    have hnb : (!(tR A.data.toList).isEmpty) = true := by
                      cases h : tR A.data.toList with
                      | nil => exact absurd h hem
                      | cons => rfl
                    have HA1 := hid (show ba (rNV s.data.toList) = ba (low (namP s.data.toList)) by rw [HRN.out, hnb]; rfl)
                    have HA2 := hid (show ba (rVV s.data.toList) = V by rw [HRV.out, hnb]; exact hV)
                    clear hq hul hA hAl hV HRN HRV HPR hvb hvv hem hnb
                    go_wp2_with fail
                    rw [HNe.out]
                    refine (HLw.out _).mono ?_
                    rintro e w1 ⟨rfl, hb1⟩
                    go_wp2_with fail
                    rw [HDe.out]
                    refine (HBg.out _).mono ?_
                    rintro e w2 ⟨rfl, rfl⟩
                    go_wp2_with fail
                    refine (HPt.out _).mono ?_
                    rintro e w3 ⟨rfl, hb3⟩
                    go_wp2_with fail
                    refine (HBk.out _).mono ?_
                    rintro e w4 ⟨rfl, rfl⟩
                    have HB4 := hid (belowT (belowT HB0.out hb1) hb3)
                    have HT4 := hid ((H0.out.kept hb1).kept hb3)
                    obtain ⟨c0, c1', g0, g1⟩ := HT4.out.cells
                    clear hb1 hb3
                    go_wp2
                    refine bodyPost_ret (results_r3 rfl _ _ w.heap.size (ba (low (namP s.data.toList))) V rfl HT4.out.set.range) rfl ⟨?_, (HB4.out.setCell (p := ⟨w.heap.size, 0, none⟩) (Nat.le_refl _) _).setCell (p := ⟨w.heap.size, 1, none⟩) (Nat.le_refl _) _⟩
                    rw [HA1.out, HA2.out, HA3.out, List.drop_one]; rfl
            · -- nothing, or a semicolon
              have hE : isE (rstP s.data.toList) = false := by
                unfold isE; rw [HRs.out]
                rcases hcase with ⟨h, e⟩ | h
                · rw [drop_cons S k h, e]; rfl
                · rw [List.drop_eq_nil_of_le (by simp; omega)]; rfl
              have HUp := hid (show parR s.data.toList = upR [59] S.data.toList by
                unfold parR; rw [hE]
                show rstP s.data.toList = _
                rw [HRs.out, upR59 S.data.toList k HNo.out]
                rcases hcase with ⟨h, e⟩ | h
                · right; rw [drop_cons S k h, e]; rfl
                · left; exact List.drop_eq_nil_of_le (by simp; omega))
              have HA1 := hid (show ba (rNV s.data.toList) = ⟨#[]⟩ by unfold rNV rOkV; rw [hE]; rfl)
              have HA2 := hid (show ba (rVV s.data.toList) = ⟨#[]⟩ by unfold rVV rOkV; rw [hE]; rfl)
              clear hE
              have hgo : (∃ h : k < S.size, ((S[k].toNat : Int) != 59) = false ∧ ((S[k].toNat : Int) == 59) = true ∧ ((k : Int) == (S.size : Int)) = false) ∨ (¬ (k : Int) < (S.size : Int) ∧ ((k : Int) == (S.size : Int)) = true) := by
                rcases hcase with ⟨h, e⟩ | h
                · exact .inl ⟨h, by rw [e]; rfl, by rw [e]; rfl, by rw [beq_eq_false_iff_ne]; omega⟩
                · exact .inr ⟨by omega, by rw [h]; simp⟩
              clear hcase
              rcases hgo with ⟨hlt, b1, b2, b3⟩ | ⟨b1, b3⟩
              all_goals try (exfalso; omega)
              all_goals
                go_wp2_with fail
                rw [HNe.out]
                refine (HLw.out _).mono ?_
                rintro e w1 ⟨rfl, hb1⟩
                go_wp2_with fail
                refine (rpart6_any S 59 _ (by omega)).mono ?_
                rintro e w3 ⟨rfl, hb3⟩
                have HB4 := hid (belowT (belowT HB0.out hb1) hb3)
                have HT4 := hid ((H0.out.kept hb1).kept hb3)
                obtain ⟨c0, c1', g0, g1⟩ := HT4.out.cells
                clear hb1 hb3
                go_wp2
                refine bodyPost_ret (results_r3 rfl _ _ w.heap.size ⟨#[]⟩ ⟨#[]⟩ rfl HT4.out.set.range) rfl ⟨?_, (HB4.out.setCell (p := ⟨w.heap.size, 0, none⟩) (Nat.le_refl _) _).setCell (p := ⟨w.heap.size, 1, none⟩) (Nat.le_refl _) _⟩
                rw [HA1.out, HA2.out, HUp.out, List.drop_one]; rfl

end Go.Proofs.YtiemggepdeaogaaGreatDoor
