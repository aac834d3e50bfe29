/-
  The walks of the document's own answers that chapter 9's call: ostiaryref1's Part and Words, ostiaryref9's Bits.
  The walk of ostiaryref1's Words.
  The walks of ostiaryref9's Parse and Strongest.
-/
import Derived.Test.YtbdlicomkpnalaaGreatDoorZOi
import Derived.Test.YtbdlicomkpnalaaGreatDoorZt
import Derived.RegionTactic
set_option linter.unusedSimpArgs false
set_option linter.unusedVariables false
namespace Go.Proofs.YtbdlicomkpnalaaGreatDoor
open Go.RowKit

theorem ret_ssb9 {a b c d : ByteArray} {x y : Bool} (h : a = b) (g : c = d) (k : x = y) : Ending.returned (.tuple #[.string a, .string c, .bool x]) = .returned (.tuple #[.string b, .string d, .bool y]) := by rw [h, g, k]

theorem byte_is9 {a b : UInt8} (h : a = b) : ((a.toNat : Int) == (b.toNat : Int)) = true := by rw [h]; simp
theorem byte_not9 {a b : UInt8} (h : a ≠ b) : ((a.toNat : Int) == (b.toNat : Int)) = false := by
  rw [beq_eq_false_iff_ne]
  intro e
  exact h (UInt8.toNat_inj.1 (by omega))
theorem ba_ext9 {a b : ByteArray} (h : a.data.toList = b.data.toList) : a = b := by
  cases a; cases b; simp at h; simp [h]

set_option maxHeartbeats 1000000 in
theorem rpart9_any (s : ByteArray) (c : UInt8) (w : World) (hs : s.size ≤ 4000000000) :
    Calls Tryz.prog 44 #[.string s, .int .u8 (c.toNat : Int)] w fun e w' => e = .returned (.tuple #[.string ⟨(part c s.data.toList).1.toArray⟩, .string ⟨(part c s.data.toList).2.1.toArray⟩, .bool (part c s.data.toList).2.2]) ∧ Below w.heap.size w w' := by
  go_enter Tryz.func44, Tryz.ntmps44
  go_wp2
  go_loop [7] (fun i => ∃ k : Nat, k ≤ s.size ∧ i = .int .i64 k ∧ c ∉ s.data.toList.take k) (fun i => s.size - (intOf i).toNat)
  case atStart => exact ⟨0, Nat.zero_le _, rfl, by simp⟩
  case round =>
    obtain ⟨k, hk, rfl, hno⟩ := hrel
    have HN := hid hno
    clear hno
    have hc8 := c.toNat_lt
    by_cases hlt : k < s.size
    · have hk' : (k : Int) ≤ (s.size : Int) := by omega
      have hk2 : (k : Int) + 1 ≤ (s.size : Int) := by omega
      by_cases he : s[k] = c
      · have HV := hid (show part c s.data.toList = (s.data.toList.take k, s.data.toList.drop (k + 1), true) by
          have e : s.data.toList = s.data.toList.take k ++ c :: s.data.toList.drop (k + 1) := by
            have := (List.take_append_drop k s.data.toList).symm
            rw [drop_cons s k hlt, he] at this
            exact this
          have h2 := part_some c (s.data.toList.take k) (s.data.toList.drop (k + 1)) HN.out
          rw [← e] at h2
          exact h2)
        have e1 : ((s[k].toNat : Int) == (c.toNat : Int)) = true := byte_is9 he
        clear he
        go_wp2
        go_region
        go_wp2
        go_ret3
        refine ⟨?_, (Below.refl _ w).drew⟩
        rw [HV.out]
        refine ret_ssb9 ?_ ?_ rfl
        · exact ba_ext9 (by rw [Lib.extract_data]; simp)
        · first | exact ba_ext9 (by rw [extract_drop]) | exact ba_ext9 (by rw [show ((k : Int) + 1).toNat = k + 1 by omega, extract_drop])
      · have HT := hid (take_snoc s k hlt)
        have e1 : ((s[k].toNat : Int) == (c.toNat : Int)) = false := byte_not9 he
        have HN2 := hid (show c ∉ s.data.toList.take (k + 1) by
          rw [HT.out, List.mem_append]
          rintro (h | h)
          · exact HN.out h
          · simp at h; exact he h.symm)
        clear he
        go_wp2
        go_round
        case rel => exact ⟨k + 1, by omega, by go_num, HN2.out⟩
        case measure => simp [intOf]; omega
    · have hno := HN.out
      rw [take_all s k hlt] at hno
      have HV := hid (part_none c _ hno)
      clear hno
      go_wp2
      go_ret3
      rw [HV.out]
      exact ⟨ret_ssb9 (Lib.mk_data s).symm rfl rfl, Below.refl _ _⟩

theorem cast_beq9 (n k : Nat) : ((n : Int) == (k : Int)) = (n == k) := by
  by_cases h : n = k
  · subst h; simp
  · rw [beq_eq_false_iff_ne.2 h, beq_eq_false_iff_ne]
    omega
theorem blank_bl9 (c : UInt8) : blankI (c.toNat : Int) = bl9 c := by
  have h1 := cast_beq9 c.toNat 9
  have h2 := cast_beq9 c.toNat 10
  have h3 := cast_beq9 c.toNat 12
  have h4 := cast_beq9 c.toNat 13
  have h5 := cast_beq9 c.toNat 32
  unfold blankI bl9 p9
  show (((c.toNat : Int) == ((9 : Nat) : Int)) || (((c.toNat : Int) == ((10 : Nat) : Int)) || (((c.toNat : Int) == ((12 : Nat) : Int)) || (((c.toNat : Int) == ((13 : Nat) : Int)) || ((c.toNat : Int) == ((32 : Nat) : Int)))))) = _
  rw [h1, h2, h3, h4, h5]
  simp only [Bool.or_assoc]

set_option maxHeartbeats 1000000 in
theorem rbits9_any (s : ByteArray) (w : World) (hs : s.size ≤ 4000000000) :
    Calls Tryz.prog 45 #[.string s] w fun e w' => e = .returned (.int .i64 (bitsV s.data.toList)) ∧ Below w.heap.size w w' := by
  obtain ⟨L, hL⟩ : ∃ L : ByteArray, L = ⟨(low s.data.toList).toArray⟩ := ⟨_, rfl⟩
  have HLw := hid (show Calls Tryz.prog 65 #[.string s] w fun e w' => e = .returned (.string L) ∧ Below w.heap.size w w' by rw [hL]; exact rlower_any s w (by omega))
  have hLl : L.data.toList = low s.data.toList := by rw [hL]
  by_cases h1 : low s.data.toList = sha2
  · have HN := hid (show bitsV s.data.toList = 256 by unfold bitsV; rw [if_pos h1])
    have e1 := beq_yes9 L [115, 104, 97, 50, 53, 54] (hLl.trans h1)
    clear h1 hL hLl
    go_enter Tryz.func45, Tryz.ntmps45
    go_wp2_with fail
    refine HLw.out.mono ?_
    rintro e w1 ⟨rfl, hb⟩
    have HB := hid hb
    go_wp2_with fail
    go_ret
    rw [HN.out]
    exact ⟨rfl, HB.out⟩
  · have e1 := beq_no9 L [115, 104, 97, 50, 53, 54] (fun h => h1 (hLl.symm.trans h))
    by_cases h2 : low s.data.toList = sha3
    · have HN := hid (show bitsV s.data.toList = 384 by unfold bitsV; rw [if_neg h1, if_pos h2])
      have e2 := beq_yes9 L [115, 104, 97, 51, 56, 52] (hLl.trans h2)
      clear h1 h2 hL hLl
      go_enter Tryz.func45, Tryz.ntmps45
      go_wp2_with fail
      refine HLw.out.mono ?_
      rintro e w1 ⟨rfl, hb⟩
      have HB := hid hb
      go_wp2_with fail
      go_ret
      rw [HN.out]
      exact ⟨rfl, HB.out⟩
    · have e2 := beq_no9 L [115, 104, 97, 51, 56, 52] (fun h => h2 (hLl.symm.trans h))
      by_cases h3 : low s.data.toList = sha5
      · have HN := hid (show bitsV s.data.toList = 512 by unfold bitsV; rw [if_neg h1, if_neg h2, if_pos h3])
        have e3 := beq_yes9 L [115, 104, 97, 53, 49, 50] (hLl.trans h3)
        clear h1 h2 h3 hL hLl
        go_enter Tryz.func45, Tryz.ntmps45
        go_wp2_with fail
        refine HLw.out.mono ?_
        rintro e w1 ⟨rfl, hb⟩
        have HB := hid hb
        go_wp2_with fail
        go_ret
        rw [HN.out]
        exact ⟨rfl, HB.out⟩
      · have HN := hid (show bitsV s.data.toList = 0 by unfold bitsV; rw [if_neg h1, if_neg h2, if_neg h3])
        have e3 := beq_no9 L [115, 104, 97, 53, 49, 50] (fun h => h3 (hLl.symm.trans h))
        clear h1 h2 h3 hL hLl
        go_enter Tryz.func45, Tryz.ntmps45
        go_wp2_with fail
        refine HLw.out.mono ?_
        rintro e w1 ⟨rfl, hb⟩
        have HB := hid hb
        go_wp2_with fail
        go_ret
        rw [HN.out]
        exact ⟨rfl, HB.out⟩

/-- The words that are told of the first k bytes, and the first byte of the one under way. -/
def WdI (l : List UInt8) (k f : Nat) (out : List (List UInt8)) : Prop :=
  f ≤ k ∧ (∀ j (h : j < l.length), f ≤ j → j < k → bl9 l[j] = false) ∧ words9 l = out ++ wdsF (l.drop k) ((l.drop f).take (k - f))

theorem wd_start (l : List UInt8) : WdI l 0 0 [] := ⟨Nat.le_refl _, fun j _ _ h => by omega, by simp [words9]⟩

theorem wd_plain {l : List UInt8} {k f : Nat} {out : List (List UInt8)} (h : WdI l k f out) (hk : k < l.length) (hc : bl9 l[k] = false) : WdI l (k + 1) f out := by
  obtain ⟨h1, h2, h3⟩ := h
  refine ⟨by omega, fun j hj a b => ?_, ?_⟩
  · by_cases hjk : j = k
    · subst hjk; exact hc
    · exact h2 j hj a (by omega)
  · rw [h3, List.drop_eq_getElem_cons hk, wdsF, if_neg (by rw [hc]; decide)]
    congr 2
    rw [show k + 1 - f = (k - f) + 1 by omega, List.take_add_one, List.getElem?_drop, show f + (k - f) = k by omega, List.getElem?_eq_getElem hk]
    rfl

theorem wd_blank {l : List UInt8} {k f : Nat} {out : List (List UInt8)} (h : WdI l k f out) (hk : k < l.length) (hc : bl9 l[k] = true) : WdI l (k + 1) (k + 1) (out ++ (if f < k then [(l.drop f).take (k - f)] else [])) := by
  obtain ⟨h1, h2, h3⟩ := h
  refine ⟨Nat.le_refl _, fun j hj a b => by omega, ?_⟩
  rw [h3, List.drop_eq_getElem_cons hk, wdsF, if_pos hc, Nat.sub_self, List.take_zero]
  by_cases hfk : f < k
  · have hne : (l.drop f).take (k - f) ≠ [] := by
      intro e
      have := congrArg List.length e
      rw [List.length_take, List.length_drop] at this
      simp at this
      omega
    rw [if_neg hne, if_pos hfk, List.append_assoc]
    rfl
  · have he : (l.drop f).take (k - f) = [] := by rw [show k - f = 0 by omega, List.take_zero]
    rw [if_pos he, if_neg hfk, List.append_nil]

theorem wd_end {l : List UInt8} {f : Nat} {out : List (List UInt8)} (h : WdI l l.length f out) : words9 l = out ++ (if f < l.length then [(l.drop f).take (l.length - f)] else []) := by
  obtain ⟨h1, h2, h3⟩ := h
  rw [h3, List.drop_eq_nil_of_le (Nat.le_refl _), wdsF]
  congr 1
  by_cases hfk : f < l.length
  · have hne : (l.drop f).take (l.length - f) ≠ [] := by
      intro e
      have := congrArg List.length e
      rw [List.length_take, List.length_drop] at this
      simp at this
      omega
    rw [if_neg hne, if_pos hfk]
  · have he : (l.drop f).take (l.length - f) = [] := by rw [show l.length - f = 0 by omega, List.take_zero]
    rw [if_pos he, if_neg hfk]

end Go.Proofs.YtbdlicomkpnalaaGreatDoor

namespace Go.Proofs.YtbdlicomkpnalaaGreatDoor
open Go.RowKit

def cT9 (L : List (List UInt8)) : List Value := L.map fun x => Value.string ⟨x.toArray⟩
theorem infoTx9 : (Tryz.prog.info? 9).map (fun i => (i.zero, i.size, i.bytes)) = some (some (.string ByteArray.empty), 1, 16) := by kernel_rfl

theorem ext_list9 (s : ByteArray) (f k : Nat) : s.extract f k = ⟨((s.data.toList.drop f).take (k - f)).toArray⟩ := by
  rw [← Lib.mk_data (s.extract f k)]
  congr 2
  rw [← ByteArray.toList_eq, Lib.extract_toList]

/-- What was told of the words when k bytes were looked at. -/
def WdW (s : ByteArray) (w wr : World) (v : Value) (k f n : Nat) (out : List (List UInt8)) : Prop :=
  (k ≤ s.size → WdI s.data.toList k f out) ∧ (k = s.size + 1 → out = words9 s.data.toList) ∧ n = out.length ∧ wr.ownsRow w.heap.size 9 1 v n (cT9 out) ∧ Below w.heap.size w wr

def WordsPost9 (l : List UInt8) (w : World) (e : Ending) (w' : World) : Prop :=
  ∃ v, e = .returned v ∧ w'.ownsRow w.heap.size 9 1 v (words9 l).length (cT9 (words9 l)) ∧ Below w.heap.size w w'

set_option maxHeartbeats 4000000 in
set_option maxRecDepth 100000 in
theorem rwords9_any (s : ByteArray) (w : World) (hs : s.size ≤ 1000000) :
    Calls Tryz.prog 43 #[.string s] w (WordsPost9 s.data.toList w) := by
  obtain ⟨i0, hi, hz0, hz1, hz2⟩ := info_parts infoTx9
  go_enter Tryz.func43, Tryz.ntmps43
  go_wp2_with fail
  go_loopw [3, 4, 5] (fun v3 v4 v5 wr => ∃ (k f n : Nat) (out : List (List UInt8)), k ≤ s.size + 1 ∧ f ≤ k ∧ n ≤ k ∧ v4 = .int .i64 f ∧ v5 = .int .i64 k ∧ Hid (WdW s w wr v3 k f n out)) (fun _ _ v5 _ => s.size + 1 - (intOf v5).toNat)
  case atStart => exact ⟨0, 0, 0, [], Nat.zero_le _, Nat.le_refl _, Nat.le_refl _, rfl, rfl, fun _ => wd_start _, (fun h => by omega), rfl, World.ownsRow_nil _ _ _ _, Below.refl _ _⟩
  case round =>
    obtain ⟨k, f, n, out, hk, hfk, hnk, rfl, rfl, HR⟩ := hrel
    by_cases hend : k = s.size + 1
    · have HF := hid (show wr.ownsRow w.heap.size 9 1 u3 (words9 s.data.toList).length (cT9 (words9 s.data.toList)) by
        have h := HR.out
        have e := h.2.1 hend
        rw [← e, ← h.2.2.1]
        exact h.2.2.2.1)
      have HB := hid HR.out.2.2.2.2
      have hng : ¬ ((k : Int) ≤ (s.size : Int)) := by omega
      clear HR hend hfk hnk hk
      go_wp2_with fail
      go_ret
      exact ⟨u3, rfl, HF.out, HB.out⟩
    · have hin : (k : Int) ≤ (s.size : Int) := by omega
      have HW := hid (HR.out.1 (by omega))
      by_cases hsz : k = s.size
      · have HKS := hid hsz
        have hek : ((k : Int) == (s.size : Int)) = true := by rw [hsz]; simp
        clear hsz hend
        by_cases hf : f < k
        · have HFK := hid hf
          have HX := hid (show s.extract f k = ⟨((s.data.toList.drop f).take (k - f)).toArray⟩ from ext_list9 s f k)
          obtain ⟨X, hX⟩ : ∃ X : ByteArray, X = s.extract f k := ⟨_, rfl⟩
          have HXE := hid (show [(s.data.toList.drop f).take (k - f)] = [X.data.toList] by rw [hX, HX.out])
          have HXC := hid (show cT9 [X.data.toList] = [.string X] by show [Value.string ⟨X.data.toList.toArray⟩] = _; rw [Lib.mk_data])
          have hlt2 : (f : Int) < (k : Int) := by omega
          have hfk2 : (f : Int) ≤ (k : Int) := by omega
          have HSZ := hid (show w.heap.size ≤ wr.heap.size from HR.out.2.2.2.2.size)
          have HO := hid HR.out.2.2.2.1
          have HNK := hid hnk

          go_wp2_with (at_builtin; refine wpList_append_own _ rfl _ _ 81 rfl w.heap.size 9 i0 _ 1 16 Tryz.underlying81 hi hz0 hz1 hz2 rfl (by decide) _ _ _ rfl (HO.out.alloc _) ⟨wr.heap.size, 0, none⟩ 1 1 [.string X] rfl rfl (by rw [hX]; exact cell_one_new _ _ _) (by simp [Value.oneCell']) (by unfold maxLen; omega) (by omega) (by have := HSZ.out; simp; omega) ?_; intro v3 w3 hown hgrow hnil)
          have HR3 := hid (show WdW s w w3 v3 (k + 1) (k + 1) (n + 1) (out ++ [X.data.toList]) by
            refine ⟨fun h => ?_, fun h => ?_, ?_, ?_, (HR.out.2.2.2.2.alloc HR.out.2.2.2.2.size _).grown hgrow (by have := HSZ.out; simp; omega) (fun k hk => (HO.out.lt k hk).1)⟩
            · have := HKS.out; omega
            · have e := wd_end (show WdI s.data.toList s.data.toList.length f out by rw [← Lib.size_eq, ← HKS.out]; exact HW.out)
              rw [e, if_pos (by rw [← Lib.size_eq]; have := HKS.out; have := HFK.out; omega), ← Lib.size_eq, ← HKS.out, HXE.out]
            · rw [List.length_append, ← HR.out.2.2.1]; rfl
            · rw [show cT9 (out ++ [X.data.toList]) = cT9 out ++ cT9 [X.data.toList] by simp [cT9], HXC.out]
              exact hown)
          clear hown hgrow hnil
          go_wp2_with fail
          go_roundw
          case rel =>
            first
              | exact ⟨k + 1, k + 1, n + 1, _, by omega, by omega, by omega, by go_num, by go_num, HR3.out⟩
              | ((repeat apply Exists.intro); refine ⟨?_, rfl⟩; exact ⟨k + 1, k + 1, n + 1, _, by omega, by omega, by omega, by go_num, by go_num, HR3.out⟩)
              | ((repeat apply Exists.intro); exact ⟨⟨k + 1, k + 1, n + 1, _, by omega, by omega, by omega, by go_num, by go_num, HR3.out⟩, rfl⟩)
          case measure => simp [intOf]; omega
        · have HFK := hid hf
          have hlt2 : ¬ ((f : Int) < (k : Int)) := by omega
          have HR3 := hid (show WdW s w wr u3 (k + 1) (k + 1) n out by
            refine ⟨fun h => ?_, fun h => ?_, HR.out.2.2.1, HR.out.2.2.2.1, HR.out.2.2.2.2⟩
            · have := HKS.out; omega
            · have e := wd_end (show WdI s.data.toList s.data.toList.length f out by rw [← Lib.size_eq, ← HKS.out]; exact HW.out)
              rw [e, if_neg (by rw [← Lib.size_eq]; have := HKS.out; have := HFK.out; omega), List.append_nil])

          go_wp2_with fail
          go_roundw
          case rel =>
            first
              | exact ⟨k + 1, (k + 1), n, _, by omega, by omega, by omega, by go_num, by go_num, HR3.out⟩
              | ((repeat apply Exists.intro); refine ⟨?_, rfl⟩; exact ⟨k + 1, (k + 1), n, _, by omega, by omega, by omega, by go_num, by go_num, HR3.out⟩)
              | ((repeat apply Exists.intro); exact ⟨⟨k + 1, (k + 1), n, _, by omega, by omega, by omega, by go_num, by go_num, HR3.out⟩, rfl⟩)
          case measure => simp [intOf]; omega
      · have hkl : k < s.data.toList.length := by rw [← Lib.size_eq]; omega
        have HKL := hid hkl
        have hek : ((k : Int) == (s.size : Int)) = false := by rw [beq_eq_false_iff_ne]; omega
        have hks : k < s.size := by omega
        have hks' : (k : Int) < (s.size : Int) := by omega
        by_cases hbl : bl9 s.data.toList[k] = true
        · have HBL := hid hbl
          have HBS := hid (show bl9 (s[k]'hks) = true from hbl)
          by_cases hf : f < k
          · have HFK := hid hf
            have HX := hid (show s.extract f k = ⟨((s.data.toList.drop f).take (k - f)).toArray⟩ from ext_list9 s f k)
            obtain ⟨X, hX⟩ : ∃ X : ByteArray, X = s.extract f k := ⟨_, rfl⟩
            have HXE := hid (show [(s.data.toList.drop f).take (k - f)] = [X.data.toList] by rw [hX, HX.out])
            have HXC := hid (show cT9 [X.data.toList] = [.string X] by show [Value.string ⟨X.data.toList.toArray⟩] = _; rw [Lib.mk_data])
            have hlt2 : (f : Int) < (k : Int) := by omega
            have hfk2 : (f : Int) ≤ (k : Int) := by omega
            have HSZ := hid (show w.heap.size ≤ wr.heap.size from HR.out.2.2.2.2.size)
            have HO := hid HR.out.2.2.2.1
            have HNK := hid hnk
            go_wp2_with fail
            refine (rblank_any _ _).mono ?_
            rintro e wq ⟨rfl, rfl⟩
            rw [blank_bl9, HBS.out]
            go_wp2_with (at_builtin; refine wpList_append_own _ rfl _ _ 81 rfl w.heap.size 9 i0 _ 1 16 Tryz.underlying81 hi hz0 hz1 hz2 rfl (by decide) _ _ _ rfl (HO.out.alloc _) ⟨wr.heap.size, 0, none⟩ 1 1 [.string X] rfl rfl (by rw [hX]; exact cell_one_new _ _ _) (by simp [Value.oneCell']) (by unfold maxLen; omega) (by omega) (by have := HSZ.out; simp; omega) ?_; intro v3 w3 hown hgrow hnil)
            have HR3 := hid (show WdW s w w3 v3 (k + 1) (k + 1) (n + 1) (out ++ [X.data.toList]) by
              refine ⟨fun h => ?_, fun h => ?_, ?_, ?_, (HR.out.2.2.2.2.alloc HR.out.2.2.2.2.size _).grown hgrow (by have := HSZ.out; simp; omega) (fun k hk => (HO.out.lt k hk).1)⟩
              · have e := wd_blank HW.out HKL.out HBL.out
                rw [if_pos HFK.out, HXE.out] at e
                exact e
              · have := HKL.out; rw [← Lib.size_eq] at this; omega
              · rw [List.length_append, ← HR.out.2.2.1]; rfl
              · rw [show cT9 (out ++ [X.data.toList]) = cT9 out ++ cT9 [X.data.toList] by simp [cT9], HXC.out]
                exact hown)
            clear hown hgrow hnil
            go_wp2_with fail
            go_roundw
            case rel =>
              first
                | exact ⟨k + 1, k + 1, n + 1, _, by omega, by omega, by omega, by go_num, by go_num, HR3.out⟩
                | ((repeat apply Exists.intro); refine ⟨?_, rfl⟩; exact ⟨k + 1, k + 1, n + 1, _, by omega, by omega, by omega, by go_num, by go_num, HR3.out⟩)
                | ((repeat apply Exists.intro); exact ⟨⟨k + 1, k + 1, n + 1, _, by omega, by omega, by omega, by go_num, by go_num, HR3.out⟩, rfl⟩)
            case measure => simp [intOf]; omega
          · have HFK := hid hf
            have hlt2 : ¬ ((f : Int) < (k : Int)) := by omega
            have HR3 := hid (show WdW s w wr u3 (k + 1) (k + 1) n out by
              refine ⟨fun h => ?_, fun h => ?_, HR.out.2.2.1, HR.out.2.2.2.1, HR.out.2.2.2.2⟩
              · have e := wd_blank HW.out HKL.out HBL.out
                rw [if_neg HFK.out, List.append_nil] at e
                exact e
              · have := HKL.out; rw [← Lib.size_eq] at this; omega)
            go_wp2_with fail
            refine (rblank_any _ _).mono ?_
            rintro e wq ⟨rfl, rfl⟩
            rw [blank_bl9, HBS.out]
            go_wp2_with fail
            go_roundw
            case rel =>
              first
                | exact ⟨k + 1, (k + 1), n, _, by omega, by omega, by omega, by go_num, by go_num, HR3.out⟩
                | ((repeat apply Exists.intro); refine ⟨?_, rfl⟩; exact ⟨k + 1, (k + 1), n, _, by omega, by omega, by omega, by go_num, by go_num, HR3.out⟩)
                | ((repeat apply Exists.intro); exact ⟨⟨k + 1, (k + 1), n, _, by omega, by omega, by omega, by go_num, by go_num, HR3.out⟩, rfl⟩)
            case measure => simp [intOf]; omega
        · have HBL := hid (show bl9 s.data.toList[k] = false by simpa using hbl)
          have HBS := hid (show bl9 (s[k]'hks) = false from HBL.out)
          have HR3 := hid (show WdW s w wr u3 (k + 1) f n out by
            refine ⟨fun h => ?_, fun h => ?_, HR.out.2.2.1, HR.out.2.2.2.1, HR.out.2.2.2.2⟩
            · exact wd_plain HW.out HKL.out HBL.out
            · have := HKL.out; rw [← Lib.size_eq] at this; omega)
          go_wp2_with fail
          refine (rblank_any _ _).mono ?_
          rintro e wq ⟨rfl, rfl⟩
          rw [blank_bl9, HBS.out]
          go_wp2_with fail
          go_roundw
          case rel =>
            first
              | exact ⟨k + 1, f, n, _, by omega, by omega, by omega, by go_num, by go_num, HR3.out⟩
              | ((repeat apply Exists.intro); refine ⟨?_, rfl⟩; exact ⟨k + 1, f, n, _, by omega, by omega, by omega, by go_num, by go_num, HR3.out⟩)
              | ((repeat apply Exists.intro); exact ⟨⟨k + 1, f, n, _, by omega, by omega, by omega, by go_num, by go_num, HR3.out⟩, rfl⟩)
          case measure => simp [intOf]; omega

end Go.Proofs.YtbdlicomkpnalaaGreatDoor

namespace Go.Proofs.YtbdlicomkpnalaaGreatDoor
open Go.RowKit

theorem infoRt : (Tryz.prog.info? 52).map (fun i => (i.zero, i.size, i.bytes)) = some (some (.agg #[.int .i64 0, .string ByteArray.empty, .string ByteArray.empty]), 3, 40) := by kernel_rfl

theorem rt_nil (w : World) : RtAt w (.slice none 0 0) [] := ⟨none, 0, rfl, Nat.le_refl _, by decide, fun j hj => by simp at hj⟩
theorem RtAt.kept {w w' : World} {v : Value} {L : List It} (h : RtAt w v L) (hb : Below w.heap.size w w') : RtAt w' v L := by
  obtain ⟨a, cap, h1, h2, h3, h4⟩ := h
  refine ⟨a, cap, h1, h2, h3, fun j hj => ?_⟩
  obtain ⟨b, off, e, c1, c2, c3⟩ := h4 j hj
  exact ⟨b, off, e, kept_cell c1 hb, kept_cell c2 hb, kept_cell c3 hb⟩
theorem own_rt {w : World} {B : Nat} {e : TypeId} {v : Value} {L : List It} (h : w.ownsRow B e 3 v L.length (cellsI L)) : RtAt w v L := by
  have h2 := h.2
  rcases h2 with ⟨hv, hn⟩ | ⟨g, cap, cur, rfl, hg, hrow, hnc, hcm, hcs, htake⟩
  · obtain rfl := List.eq_nil_of_length_eq_zero hn
    rw [hv]; exact rt_nil w
  · refine ⟨_, cap, rfl, hnc, hcm, fun j hj => ⟨g, 0, rfl, ?_⟩⟩
    rw [Nat.zero_add, h.cellAt _ (by omega), h.cellAt _ (by omega), h.cellAt _ (by omega)]
    exact cellsI_at L j hj

theorem own_tx9 {w : World} {B : Nat} {e : TypeId} {v : Value} {L : List (List UInt8)} (h : w.ownsRow B e 1 v L.length (cT9 L)) : ∃ a cap, v = .slice a L.length cap ∧ L.length ≤ cap ∧ cap ≤ maxLen ∧ ∀ j (hj : j < L.length), ∃ b, a = some ⟨b, 0, none⟩ ∧ w.cell? ⟨b, j, none⟩ = some (.string ⟨L[j].toArray⟩) := by
  have h2 := h.2
  rcases h2 with ⟨hv, hn⟩ | ⟨g, cap, cur, rfl, hg, hrow, hnc, hcm, hcs, htake⟩
  · obtain rfl := List.eq_nil_of_length_eq_zero hn
    exact ⟨none, 0, hv, Nat.le_refl _, by decide, fun j hj => by simp at hj⟩
  · refine ⟨_, cap, rfl, hnc, hcm, fun j hj => ⟨g, rfl, ?_⟩⟩
    rw [h.cellAt j (by omega)]
    simp [cT9, hj]

def RParsePost9 (l : List UInt8) (w : World) (e : Ending) (w' : World) : Prop :=
  ∃ v, e = .returned v ∧ w'.ownsRow w.heap.size 52 3 v (parse9 l).length (cellsI (parse9 l)) ∧ Below w.heap.size w w'

set_option maxHeartbeats 4000000 in
set_option maxRecDepth 100000 in
theorem rparse9_any (s : ByteArray) (w : World) (hs : s.size ≤ 1000000) :
    Calls Tryz.prog 21 #[.string s] w (RParsePost9 s.data.toList w) := by
  obtain ⟨i0, hi, hz0, hz1, hz2⟩ := info_parts infoRt
  have HF := hid (rwords9_any s w hs)
  unfold WordsPost9 at HF
  obtain ⟨W, hW⟩ : ∃ W, W = words9 s.data.toList := ⟨_, rfl⟩
  have HWL := hid (show W.length ≤ 1000001 by rw [hW]; have := (wds_len s.data.toList []).1; rw [← Lib.size_eq] at this; unfold words9; omega)
  have HWA := hid (show ∀ k (hk : k < W.length), W[k].length ≤ 1000000 by subst hW; intro k hk; have := words_at s.data.toList k hk; rw [← Lib.size_eq] at this; omega)
  have HPE := hid (show parse9 s.data.toList = W.filterMap itemV by rw [hW]; rfl)
  rw [← hW] at HF
  clear hW
  go_enter Tryz.func21, Tryz.ntmps21
  go_wp2_with fail
  refine HF.out.mono ?_
  rintro e w1 ⟨v1, rfl, hown1, hb1⟩
  obtain ⟨a1, c1, rfl, hc1, hm1, hv1⟩ := own_tx9 hown1
  have HV := hid hv1
  have HB1 := hid hb1
  clear hv1 hb1 hown1 HF
  obtain ⟨n, hn⟩ : ∃ n, n = W.length := ⟨_, rfl⟩
  have HN := hid hn
  rw [← hn] at hc1 ⊢
  have hnb : n ≤ 1000001 := by have := HWL.out; omega
  clear hn
  go_wp2_with fail
  go_loopw [3, 5] (fun v3 v5 wr => ∃ k m : Nat, k ≤ n ∧ m ≤ k ∧ v5 = .int .i64 k ∧ Hid (m = ((W.take k).filterMap itemV).length ∧ wr.ownsRow w1.heap.size 52 3 v3 m (cellsI ((W.take k).filterMap itemV)) ∧ Below w1.heap.size w1 wr)) (fun _ v5 _ => n - (intOf v5).toNat)
  case atStart => exact ⟨0, 0, Nat.zero_le _, Nat.zero_le _, rfl, rfl, World.ownsRow_nil _ _ _ _, Below.refl _ _⟩
  case round =>
    obtain ⟨k, m, hk, hmk, rfl, HR⟩ := hrel
    by_cases hlt : k < n
    · have hkW : k < W.length := by have := HN.out; omega
      obtain ⟨b1, rfl, e1⟩ := HV.out k hkW
      obtain ⟨X, hX⟩ : ∃ X : ByteArray, X = ⟨W[k].toArray⟩ := ⟨_, rfl⟩
      have cA : wr.cell? ⟨b1, k, none⟩ = some (.string X) := by rw [hX]; exact kept_cell e1 HR.out.2.2
      have hXs : X.size ≤ 1000000 := by have := HWA.out k hkW; rw [Lib.size_eq, hX]; exact this
      have HT := hid (show (W.take (k + 1)).filterMap itemV = (W.take k).filterMap itemV ++ (match itemV X.data.toList with | some x => [x] | none => []) by
        rw [List.take_succ_eq_append_getElem hkW, List.filterMap_append, hX]
        congr 1
        show List.filterMap itemV [W[k]] = _
        cases h : itemV W[k] <;> simp [h])
      have hin : (k : Int) < (n : Int) := by omega
      have hp1 := part_le 63 X.data.toList
      have hp2 := part_le 45 (part 63 X.data.toList).1
      obtain ⟨A, hA⟩ : ∃ A : ByteArray, A = ⟨(part 63 X.data.toList).1.toArray⟩ := ⟨_, rfl⟩
      obtain ⟨O, hO⟩ : ∃ A : ByteArray, A = ⟨(part 63 X.data.toList).2.1.toArray⟩ := ⟨_, rfl⟩
      have hAl : A.data.toList = (part 63 X.data.toList).1 := by rw [hA]
      obtain ⟨N, hNd⟩ : ∃ A' : ByteArray, A' = ⟨(part 45 A.data.toList).1.toArray⟩ := ⟨_, rfl⟩
      obtain ⟨V, hVd⟩ : ∃ A' : ByteArray, A' = ⟨(part 45 A.data.toList).2.1.toArray⟩ := ⟨_, rfl⟩
      obtain ⟨d, hd⟩ : ∃ d, d = (part 45 A.data.toList).2.2 := ⟨_, rfl⟩
      have hNl : N.data.toList = nameV9 X.data.toList := by rw [hNd]; show (part 45 A.data.toList).1 = _; rw [hAl]; rfl
      have hAs : A.size ≤ 4000000000 := by rw [Lib.size_eq, hAl]; rw [Lib.size_eq] at hXs; omega
      have hNs : N.size ≤ 4000000000 := by rw [Lib.size_eq, hNd]; show (part 45 A.data.toList).1.length ≤ _; rw [hAl]; rw [Lib.size_eq] at hXs; omega
      obtain ⟨q, hq⟩ : ∃ q, q = (part 63 X.data.toList).2.2 := ⟨_, rfl⟩
      have HC1 := hid (show ∀ Y, Calls Tryz.prog 44 #[.string X, .int .u8 63] Y fun e w' => e = .returned (.tuple #[.string A, .string O, .bool q]) ∧ Below Y.heap.size Y w' from fun Y => by rw [hA, hO, hq]; exact rpart9_any X 63 Y (by omega))
      have HC2 := hid (show ∀ Y, Calls Tryz.prog 44 #[.string A, .int .u8 45] Y fun e w' => e = .returned (.tuple #[.string N, .string V, .bool d]) ∧ Below Y.heap.size Y w' from fun Y => by rw [hNd, hVd, hd]; exact rpart9_any A 45 Y hAs)
      obtain ⟨b, hb⟩ : ∃ b, b = bitsV N.data.toList := ⟨_, rfl⟩
      have HSZ := hid (show ∀ Y, Calls Tryz.prog 45 #[.string N] Y fun e w' => e = .returned (.int .i64 b) ∧ Below Y.heap.size Y w' from fun Y => by rw [hb]; exact rbits9_any N Y hNs)
      have HOK := hid (show okV9 X.data.toList = (d && (b != 0)) by unfold okV9; rw [hd, hb, hNl, hAl])
      have HIT := hid (show (⟨bitsV (nameV9 X.data.toList), wantV9 X.data.toList, optV9 X.data.toList⟩ : It) = ⟨b, V.data.toList, O.data.toList⟩ by
        rw [hb, hNl, hVd, hO, hAl]; rfl)
      have HBC := hid (show b = 256 ∨ b = 384 ∨ b = 512 ∨ b = 0 by rw [hb]; exact bits_cases _)
      clear hp1 hp2 hA hO hAl hNd hVd hd hNl hAs hNs hq hb hX hXs hkW e1
      go_wp2_with fail
      refine (HC1.out _).mono ?_
      rintro e w2 ⟨rfl, hb2⟩
      have HB2 := hid hb2
      clear hb2
      go_wp2_with fail
      refine (HC2.out _).mono ?_
      rintro e w3 ⟨rfl, hb3⟩
      have HB3 := hid (below2 HB2.out hb3)
      clear hb3
      go_wp2_with fail
      refine (HSZ.out _).mono ?_
      rintro e w4 ⟨rfl, hb4⟩
      have HB4 := hid (below2 HB3.out hb4)
      clear hb4 cA
      have HW4 := hid (below2 HR.out.2.2 HB4.out)
      have HO4 := hid (own_kept HR.out.2.1 HB4.out)
      have hfin : (d && (b != 0)) = true ∨ (d && (b != 0)) = false := by cases (d && (b != 0)) <;> simp
      rcases hfin with hf | hf
      · have HI := hid (show itemV X.data.toList = some ⟨b, V.data.toList, O.data.toList⟩ by unfold itemV; rw [HOK.out, hf, if_pos rfl, HIT.out])
        rw [HI.out] at HT
        have HCE := hid (show cellsI [(⟨b, V.data.toList, O.data.toList⟩ : It)] = [.int .i64 b, .string V, .string O] by
          show [Value.int .i64 b, .string ⟨V.data.toList.toArray⟩, .string ⟨O.data.toList.toArray⟩] = _
          rw [Lib.mk_data, Lib.mk_data])
        obtain ⟨rfl, hb0⟩ : d = true ∧ b ≠ 0 := by simpa using hf
        have hbp : 0 < b := by have := HBC.out; omega
        have HSW := hid (show w1.heap.size ≤ w4.heap.size from HW4.out.size)
        clear hf hb0
        go_wp2_with (at_builtin; refine wpList_append_own _ rfl _ _ 49 rfl w1.heap.size 52 i0 _ 3 40 Tryz.underlying49 hi hz0 hz1 hz2 rfl (by decide) _ _ _ rfl (HO4.out.alloc _) ⟨w4.heap.size, 0, none⟩ 1 1 [.int .i64 b, .string V, .string O] rfl rfl ?c1 ?c2 (by unfold maxLen; omega) (by omega) (by have := HSW.out; simp; omega) ?_)
        case c1 =>
          intro q u hq
          match q, hq with
          | 0, hq => simp at hq; subst hq; simp [Addr.add]
          | 1, hq => simp at hq; subst hq; simp [Addr.add]
          | 2, hq => simp at hq; subst hq; simp [Addr.add]
        case c2 => intro u hu; simp at hu; rcases hu with rfl | rfl | rfl <;> rfl
        intro v5 w5 hown hgrow hnil
        have HR5 := hid (show m + 1 = ((W.take (k + 1)).filterMap itemV).length ∧ w5.ownsRow w1.heap.size 52 3 v5 (m + 1) (cellsI ((W.take (k + 1)).filterMap itemV)) ∧ Below w1.heap.size w1 w5 by
          refine ⟨?_, ?_, (HW4.out.alloc HW4.out.size _).grown hgrow (by have := HSW.out; simp; omega) (fun k hk => (HO4.out.lt k hk).1)⟩
          · rw [HT.out, List.length_append, ← HR.out.1]; rfl
          · rw [HT.out, cellsI_app, HCE.out]
            exact hown)
        clear hown hgrow hnil
        go_wp2_with fail
        go_roundw
        case rel =>
          first
            | exact ⟨k + 1, m + 1, by omega, by omega, by go_num, HR5.out⟩
            | ((repeat apply Exists.intro); refine ⟨?_, rfl⟩; exact ⟨k + 1, m + 1, by omega, by omega, by go_num, HR5.out⟩)
            | ((repeat apply Exists.intro); exact ⟨⟨k + 1, m + 1, by omega, by omega, by go_num, HR5.out⟩, rfl⟩)
        case measure => simp [intOf]; omega
      · have HI := hid (show itemV X.data.toList = none by unfold itemV; rw [HOK.out, hf]; rfl)
        rw [HI.out] at HT
        have HR5 := hid (show m = ((W.take (k + 1)).filterMap itemV).length ∧ w4.ownsRow w1.heap.size 52 3 u3 m (cellsI ((W.take (k + 1)).filterMap itemV)) ∧ Below w1.heap.size w1 w4 by
          rw [HT.out, List.append_nil]
          exact ⟨HR.out.1, HO4.out, HW4.out⟩)
        cases d with
        | false =>
          clear hf
          go_wp2_with fail
          go_roundw
          case rel =>
            first
              | exact ⟨k + 1, m, by omega, by omega, by go_num, HR5.out⟩
              | ((repeat apply Exists.intro); refine ⟨?_, rfl⟩; exact ⟨k + 1, m, by omega, by omega, by go_num, HR5.out⟩)
              | ((repeat apply Exists.intro); exact ⟨⟨k + 1, m, by omega, by omega, by go_num, HR5.out⟩, rfl⟩)
          case measure => simp [intOf]; omega
        | true =>
          obtain rfl : b = 0 := by simpa using hf
          clear hf
          go_wp2_with fail
          go_roundw
          case rel =>
            first
              | exact ⟨k + 1, m, by omega, by omega, by go_num, HR5.out⟩
              | ((repeat apply Exists.intro); refine ⟨?_, rfl⟩; exact ⟨k + 1, m, by omega, by omega, by go_num, HR5.out⟩)
              | ((repeat apply Exists.intro); exact ⟨⟨k + 1, m, by omega, by omega, by go_num, HR5.out⟩, rfl⟩)
          case measure => simp [intOf]; omega
    · obtain rfl : k = n := by omega
      have HFN := hid (show wr.ownsRow w.heap.size 52 3 u3 (parse9 s.data.toList).length (cellsI (parse9 s.data.toList)) by
        have h := HR.out
        rw [List.take_of_length_le (by have := HN.out; omega), ← HPE.out] at h
        rw [← h.1]
        exact own_lower9 h.2.1 HB1.out.size)
      have HBF := hid (below2 HB1.out HR.out.2.2)
      clear HR hk hmk hlt
      go_wp2_with fail
      go_ret
      exact ⟨u3, rfl, HFN.out, HBF.out⟩

end Go.Proofs.YtbdlicomkpnalaaGreatDoor
