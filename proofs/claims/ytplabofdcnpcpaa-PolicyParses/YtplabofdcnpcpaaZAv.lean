/-
  Put together out of Ob, Oc, Od, Lb3, Lc3, Ld3, Lk3, Lr, Ls, Lf3, Le3, Lhr3, Lhl3, Lhm3, Lh3, Lx, Lj3, Ly, Lq3, Lv, Lwr3, Li3, Lw3, Lb6, Lc6, Ld6, Lk6, Lf6, Le6, Lhr6, Lhl6, Lhm6, Lh6, Lj6, Lq6, Lwr6, Li5, Lw5, Li6, Lw6, Lu, Wc, Wd, We, Wf, Wg, Wh, Wk, Oe, Og, Pk, Wo, Wp, Oh, Oi, Ra, Ok, Ol.
-/
import Derived.Test.YtplabofdcnpcpaaZGa
import Derived.Test.YtplabofdcnpcpaaZGb
import Derived.Test.YtplabofdcnpcpaaZGe
import Derived.Test.YtplabofdcnpcpaaZSh
import Derived.Laws.OwnMore
import Derived.Below
import Derived.WalkSmall
import Derived.BigRegion
import Derived.BigQuiet
import Derived.Deep.QuietTactic
import Derived.LoopN
import Derived.RegionTactic
import Derived.Shelf.GgClosure.GivesRunes
import Derived.Laws.AppendOwn
import Derived.Laws.Shifts
import Derived.Deep.RegionHeld
import Derived.Deep.RegionWith
import Derived.Deep.DeepAppendRoom
import Derived.Laws.IdiomStrings
import Derived.Laws.BytesString
import Derived.Laws.CopyRow
import Derived.Lib.AppendIntMem
set_option linter.unusedSimpArgs false
set_option linter.unusedVariables false

namespace Go.Proofs.Ytplabofdcnpcpaa
open Go.RowKit

end Go.Proofs.Ytplabofdcnpcpaa

namespace Go.Proofs.Ytplabofdcnpcpaa
open Go.RowKit

end Go.Proofs.Ytplabofdcnpcpaa

namespace Go.Proofs.Ytplabofdcnpcpaa
open Go.RowKit

set_option maxHeartbeats 400000 in
theorem rblank_any (c : Int) (w : World) :
    Calls Try.prog 51 #[.int .u8 c] w fun e w' => e = .returned (.bool (blankI c)) ∧ w = w' := by
  go_enter Try.func51, Try.ntmps51
  go_wp2
  all_goals
    go_ret
    exact ⟨ret_bool (by simp [blankI, Bool.or_assoc, *]), rfl⟩

set_option maxHeartbeats 1000000 in
theorem rlower_any (s : ByteArray) (w : World) (hs : s.size ≤ 140737488351232) :
    Calls Try.prog 39 #[.string s] w fun e w' => e = .returned (.string ⟨(low s.data.toList).toArray⟩) ∧ Below w.heap.size w w' := by
  have hcv := run_bytes_of_string (P := Try.prog) w 9 70 5 s Try.underlying9 Try.underlying70 Try.underlying5
  have hcap := grownCap_ge w s.size 0 5
  have hr0 := rowIs_bytes w 5 s (grownCap w s.size 0 5) hcap
  have hb0 : Below w.heap.size w (w.drew.alloc (.cells (bytesRow s (grownCap w s.size 0 5)) 5 ((bytesRow s (grownCap w s.size 0 5)).size, (bytesRow s (grownCap w s.size 0 5)).size + 1))) := (Below.refl _ w).drew.alloc (Nat.le_refl _) _
  generalize (w.drew.alloc (.cells (bytesRow s (grownCap w s.size 0 5)) 5 ((bytesRow s (grownCap w s.size 0 5)).size, (bytesRow s (grownCap w s.size 0 5)).size + 1))) = w0 at hcv hr0 hb0
  generalize grownCap w s.size 0 5 = cap at hcv hcap
  go_enter Try.func39, Try.ntmps39
  go_wp2
  clear hcv
  go_loopw [4] (fun i wr => ∃ k : Nat, k ≤ s.size ∧ i = .int .i64 k ∧ rowIs wr w.heap.size 5 (lowTo s.data.toList k) ∧ Below w.heap.size w wr)
    (fun i _ => s.size - (intOf i).toNat)
  case atStart => exact ⟨0, Nat.zero_le _, rfl, by rw [lowTo_zero]; exact hr0, hb0⟩
  case round =>
    obtain ⟨k, hk, rfl, hr, hbw⟩ := hrel
    by_cases hlt : k < s.size
    · have hl : k < s.data.toList.length := by simpa using hlt
      have hl' : k < (lowTo s.data.toList k).length := by rw [lowTo_length]; exact hl
      have hc := hr.cell k hl'
      rw [lowTo_at _ _ hl] at hc
      have hf := hr.frozen k hl'
      have hsucc := lowTo_succ s.data.toList k hl
      have hat := lowTo_at s.data.toList k hl hl'
      generalize s.data.toList[k] = c at hc hsucc hat
      have HS := hid hsucc
      have HAt := hid hat
      clear hsucc hat
      have hc8 : c.toNat < 256 := c.toNat_lt
      by_cases hu : 65 ≤ c.toNat ∧ c.toNat ≤ 90
      · have h1 : (65 : Int) ≤ (c.toNat : Int) := by omega
        have h2 : (c.toNat : Int) ≤ 90 := by omega
        have HL := hid (lowC_yes c hu)
        clear hu
        go_wp2
        go_roundw
        case rel =>
          refine ⟨k + 1, by omega, by go_num, ?_, hbw.setCell (p := ⟨w.heap.size, k, none⟩) (Nat.le_refl _) _⟩
          rw [HS.out, ← HL.out]
          exact hr.set k _
        case measure => simp [intOf]; omega
      · have HL := hid (lowC_no c hu)
        have hu' : (c.toNat : Int) < 65 ∨ 90 < (c.toNat : Int) := by omega
        clear hu
        rcases hu' with h1 | h1
        all_goals
          go_wp2
          go_roundw
          case rel =>
            refine ⟨k + 1, by omega, by go_num, ?_, hbw⟩
            have e : lowC c = (lowTo s.data.toList k)[k] := by rw [HL.out, HAt.out]
            rw [HS.out, e, List.set_getElem_self]
            exact hr
          case measure => simp [intOf]; omega
    · have hk' : k = s.data.toList.length := by simp; omega
      have hr' : rowIs wr w.heap.size 5 (low s.data.toList) := by rw [← lowTo_all, ← hk']; exact hr
      clear hr hk'
      have hcv := hr'.string (P := Try.prog) (src := 70) (dst := 9) (cap := cap) Try.underlying70 Try.underlying5 Try.underlying9
      rw [show (low s.data.toList).length = s.size by simp [low]] at hcv
      go_wp2
      go_ret
      exact ⟨rfl, hbw⟩

end Go.Proofs.Ytplabofdcnpcpaa

namespace Go.Proofs.Ytplabofdcnpcpaa
open Go.RowKit

theorem cast_beq9 (n k : Nat) : ((n : Int) == (k : Int)) = (n == k) := by
  by_cases h : n = k
  · subst h; simp
  · rw [beq_eq_false_iff_ne.2 h, beq_eq_false_iff_ne]
    omega

theorem blank_bl9 (c : UInt8) : blankI (c.toNat : Int) = bl9 c := by
  have h1 := cast_beq9 c.toNat 9
  have h2 := cast_beq9 c.toNat 10
  have h3 := cast_beq9 c.toNat 12
  have h4 := cast_beq9 c.toNat 13
  have h5 := cast_beq9 c.toNat 32
  unfold blankI bl9 p9
  show (((c.toNat : Int) == ((9 : Nat) : Int)) || (((c.toNat : Int) == ((10 : Nat) : Int)) || (((c.toNat : Int) == ((12 : Nat) : Int)) || (((c.toNat : Int) == ((13 : Nat) : Int)) || ((c.toNat : Int) == ((32 : Nat) : Int)))))) = _
  rw [h1, h2, h3, h4, h5]
  simp only [Bool.or_assoc]

/-- The words that are told of the first k bytes, and the first byte of the one under way. -/
def WdI (l : List UInt8) (k f : Nat) (out : List (List UInt8)) : Prop :=
  f ≤ k ∧ (∀ j (h : j < l.length), f ≤ j → j < k → bl9 l[j] = false) ∧ words9 l = out ++ wdsF (l.drop k) ((l.drop f).take (k - f))

theorem wd_start (l : List UInt8) : WdI l 0 0 [] := ⟨Nat.le_refl _, fun j _ _ h => by omega, by simp [words9]⟩

theorem wd_plain {l : List UInt8} {k f : Nat} {out : List (List UInt8)} (h : WdI l k f out) (hk : k < l.length) (hc : bl9 l[k] = false) : WdI l (k + 1) f out := by
  obtain ⟨h1, h2, h3⟩ := h
  refine ⟨by omega, fun j hj a b => ?_, ?_⟩
  · by_cases hjk : j = k
    · subst hjk; exact hc
    · exact h2 j hj a (by omega)
  · rw [h3, List.drop_eq_getElem_cons hk, wdsF, if_neg (by rw [hc]; decide)]
    congr 2
    rw [show k + 1 - f = (k - f) + 1 by omega, List.take_add_one, List.getElem?_drop, show f + (k - f) = k by omega, List.getElem?_eq_getElem hk]
    rfl

theorem wd_blank {l : List UInt8} {k f : Nat} {out : List (List UInt8)} (h : WdI l k f out) (hk : k < l.length) (hc : bl9 l[k] = true) : WdI l (k + 1) (k + 1) (out ++ (if f < k then [(l.drop f).take (k - f)] else [])) := by
  obtain ⟨h1, h2, h3⟩ := h
  refine ⟨Nat.le_refl _, fun j hj a b => by omega, ?_⟩
  rw [h3, List.drop_eq_getElem_cons hk, wdsF, if_pos hc, Nat.sub_self, List.take_zero]
  by_cases hfk : f < k
  · have hne : (l.drop f).take (k - f) ≠ [] := by
      intro e
      have := congrArg List.length e
      rw [List.length_take, List.length_drop] at this
      simp at this
      omega
    rw [if_neg hne, if_pos hfk, List.append_assoc]
    rfl
  · have he : (l.drop f).take (k - f) = [] := by rw [show k - f = 0 by omega, List.take_zero]
    rw [if_pos he, if_neg hfk, List.append_nil]

theorem wd_end {l : List UInt8} {f : Nat} {out : List (List UInt8)} (h : WdI l l.length f out) : words9 l = out ++ (if f < l.length then [(l.drop f).take (l.length - f)] else []) := by
  obtain ⟨h1, h2, h3⟩ := h
  rw [h3, List.drop_eq_nil_of_le (Nat.le_refl _), wdsF]
  congr 1
  by_cases hfk : f < l.length
  · have hne : (l.drop f).take (l.length - f) ≠ [] := by
      intro e
      have := congrArg List.length e
      rw [List.length_take, List.length_drop] at this
      simp at this
      omega
    rw [if_neg hne, if_pos hfk]
  · have he : (l.drop f).take (l.length - f) = [] := by rw [show l.length - f = 0 by omega, List.take_zero]
    rw [if_pos he, if_neg hfk]

end Go.Proofs.Ytplabofdcnpcpaa

namespace Go.Proofs.Ytplabofdcnpcpaa
open Go.RowKit

def cT9 (L : List (List UInt8)) : List Value := L.map fun x => Value.string ⟨x.toArray⟩

theorem infoTx9 : (Try.prog.info? 9).map (fun i => (i.zero, i.size, i.bytes)) = some (some (.string ByteArray.empty), 1, 16) := by kernel_rfl

theorem ext_list9 (s : ByteArray) (f k : Nat) : s.extract f k = ⟨((s.data.toList.drop f).take (k - f)).toArray⟩ := by
  rw [← Lib.mk_data (s.extract f k)]
  congr 2
  rw [← ByteArray.toList_eq, Lib.extract_toList]

/-- What was told of the words when k bytes were looked at. -/
def WdW (s : ByteArray) (w wr : World) (v : Value) (k f n : Nat) (out : List (List UInt8)) : Prop :=
  (k ≤ s.size → WdI s.data.toList k f out) ∧ (k = s.size + 1 → out = words9 s.data.toList) ∧ n = out.length ∧ wr.ownsRow w.heap.size 9 1 v n (cT9 out) ∧ Below w.heap.size w wr

def WordsPost9 (l : List UInt8) (w : World) (e : Ending) (w' : World) : Prop :=
  ∃ v, e = .returned v ∧ w'.ownsRow w.heap.size 9 1 v (words9 l).length (cT9 (words9 l)) ∧ Below w.heap.size w w'

set_option maxHeartbeats 4000000 in
set_option maxRecDepth 100000 in
theorem rwords9_any (s : ByteArray) (w : World) (hs : s.size ≤ 1000000) :
    Calls Try.prog 38 #[.string s] w (WordsPost9 s.data.toList w) := by
  obtain ⟨i0, hi, hz0, hz1, hz2⟩ := info_parts infoTx9
  go_enter Try.func38, Try.ntmps38
  go_wp2_with fail
  go_loopw [3, 4, 5] (fun v3 v4 v5 wr => ∃ (k f n : Nat) (out : List (List UInt8)), k ≤ s.size + 1 ∧ f ≤ k ∧ n ≤ k ∧ v4 = .int .i64 f ∧ v5 = .int .i64 k ∧ Hid (WdW s w wr v3 k f n out)) (fun _ _ v5 _ => s.size + 1 - (intOf v5).toNat)
  case atStart => exact ⟨0, 0, 0, [], Nat.zero_le _, Nat.le_refl _, Nat.le_refl _, rfl, rfl, fun _ => wd_start _, (fun h => by omega), rfl, World.ownsRow_nil _ _ _ _, Below.refl _ _⟩
  case round =>
    obtain ⟨k, f, n, out, hk, hfk, hnk, rfl, rfl, HR⟩ := hrel
    by_cases hend : k = s.size + 1
    · have HF := hid (show wr.ownsRow w.heap.size 9 1 u3 (words9 s.data.toList).length (cT9 (words9 s.data.toList)) by
        have h := HR.out
        have e := h.2.1 hend
        rw [← e, ← h.2.2.1]
        exact h.2.2.2.1)
      have HB := hid HR.out.2.2.2.2
      have hng : ¬ ((k : Int) ≤ (s.size : Int)) := by omega
      clear HR hend hfk hnk hk
      go_wp2_with fail
      go_ret
      exact ⟨u3, rfl, HF.out, HB.out⟩
    · have hin : (k : Int) ≤ (s.size : Int) := by omega
      have HW := hid (HR.out.1 (by omega))
      by_cases hsz : k = s.size
      · have HKS := hid hsz
        have hek : ((k : Int) == (s.size : Int)) = true := by rw [hsz]; simp
        clear hsz hend
        by_cases hf : f < k
        · have HFK := hid hf
          have HX := hid (show s.extract f k = ⟨((s.data.toList.drop f).take (k - f)).toArray⟩ from ext_list9 s f k)
          obtain ⟨X, hX⟩ : ∃ X : ByteArray, X = s.extract f k := ⟨_, rfl⟩
          have HXE := hid (show [(s.data.toList.drop f).take (k - f)] = [X.data.toList] by rw [hX, HX.out])
          have HXC := hid (show cT9 [X.data.toList] = [.string X] by show [Value.string ⟨X.data.toList.toArray⟩] = _; rw [Lib.mk_data])
          have hlt2 : (f : Int) < (k : Int) := by omega
          have hfk2 : (f : Int) ≤ (k : Int) := by omega
          have HSZ := hid (show w.heap.size ≤ wr.heap.size from HR.out.2.2.2.2.size)
          have HO := hid HR.out.2.2.2.1
          have HNK := hid hnk

          go_wp2_with (at_builtin; refine wpList_append_own _ rfl _ _ 22 rfl w.heap.size 9 i0 _ 1 16 Try.underlying22 hi hz0 hz1 hz2 rfl (by decide) _ _ _ rfl (HO.out.alloc _) ⟨wr.heap.size, 0, none⟩ 1 1 [.string X] rfl rfl (by rw [hX]; exact cell_one_new _ _ _) (by simp [Value.oneCell']) (by unfold maxLen; omega) (by omega) (by have := HSZ.out; simp; omega) ?_; intro v3 w3 hown hgrow hnil)
          have HR3 := hid (show WdW s w w3 v3 (k + 1) (k + 1) (n + 1) (out ++ [X.data.toList]) by
            refine ⟨fun h => ?_, fun h => ?_, ?_, ?_, (HR.out.2.2.2.2.alloc HR.out.2.2.2.2.size _).grown hgrow (by have := HSZ.out; simp; omega) (fun k hk => (HO.out.lt k hk).1)⟩
            · have := HKS.out; omega
            · have e := wd_end (show WdI s.data.toList s.data.toList.length f out by rw [← Lib.size_eq, ← HKS.out]; exact HW.out)
              rw [e, if_pos (by rw [← Lib.size_eq]; have := HKS.out; have := HFK.out; omega), ← Lib.size_eq, ← HKS.out, HXE.out]
            · rw [List.length_append, ← HR.out.2.2.1]; rfl
            · rw [show cT9 (out ++ [X.data.toList]) = cT9 out ++ cT9 [X.data.toList] by simp [cT9], HXC.out]
              exact hown)
          clear hown hgrow hnil
          go_wp2_with fail
          go_roundw
          case rel =>
            first
              | exact ⟨k + 1, k + 1, n + 1, _, by omega, by omega, by omega, by go_num, by go_num, HR3.out⟩
              | ((repeat apply Exists.intro); refine ⟨?_, rfl⟩; exact ⟨k + 1, k + 1, n + 1, _, by omega, by omega, by omega, by go_num, by go_num, HR3.out⟩)
              | ((repeat apply Exists.intro); exact ⟨⟨k + 1, k + 1, n + 1, _, by omega, by omega, by omega, by go_num, by go_num, HR3.out⟩, rfl⟩)
          case measure => simp [intOf]; omega
        · have HFK := hid hf
          have hlt2 : ¬ ((f : Int) < (k : Int)) := by omega
          have HR3 := hid (show WdW s w wr u3 (k + 1) (k + 1) n out by
            refine ⟨fun h => ?_, fun h => ?_, HR.out.2.2.1, HR.out.2.2.2.1, HR.out.2.2.2.2⟩
            · have := HKS.out; omega
            · have e := wd_end (show WdI s.data.toList s.data.toList.length f out by rw [← Lib.size_eq, ← HKS.out]; exact HW.out)
              rw [e, if_neg (by rw [← Lib.size_eq]; have := HKS.out; have := HFK.out; omega), List.append_nil])

          go_wp2_with fail
          go_roundw
          case rel =>
            first
              | exact ⟨k + 1, (k + 1), n, _, by omega, by omega, by omega, by go_num, by go_num, HR3.out⟩
              | ((repeat apply Exists.intro); refine ⟨?_, rfl⟩; exact ⟨k + 1, (k + 1), n, _, by omega, by omega, by omega, by go_num, by go_num, HR3.out⟩)
              | ((repeat apply Exists.intro); exact ⟨⟨k + 1, (k + 1), n, _, by omega, by omega, by omega, by go_num, by go_num, HR3.out⟩, rfl⟩)
          case measure => simp [intOf]; omega
      · have hkl : k < s.data.toList.length := by rw [← Lib.size_eq]; omega
        have HKL := hid hkl
        have hek : ((k : Int) == (s.size : Int)) = false := by rw [beq_eq_false_iff_ne]; omega
        have hks : k < s.size := by omega
        have hks' : (k : Int) < (s.size : Int) := by omega
        by_cases hbl : bl9 s.data.toList[k] = true
        · have HBL := hid hbl
          have HBS := hid (show bl9 (s[k]'hks) = true from hbl)
          by_cases hf : f < k
          · have HFK := hid hf
            have HX := hid (show s.extract f k = ⟨((s.data.toList.drop f).take (k - f)).toArray⟩ from ext_list9 s f k)
            obtain ⟨X, hX⟩ : ∃ X : ByteArray, X = s.extract f k := ⟨_, rfl⟩
            have HXE := hid (show [(s.data.toList.drop f).take (k - f)] = [X.data.toList] by rw [hX, HX.out])
            have HXC := hid (show cT9 [X.data.toList] = [.string X] by show [Value.string ⟨X.data.toList.toArray⟩] = _; rw [Lib.mk_data])
            have hlt2 : (f : Int) < (k : Int) := by omega
            have hfk2 : (f : Int) ≤ (k : Int) := by omega
            have HSZ := hid (show w.heap.size ≤ wr.heap.size from HR.out.2.2.2.2.size)
            have HO := hid HR.out.2.2.2.1
            have HNK := hid hnk
            go_wp2_with fail
            refine (rblank_any _ _).mono ?_
            rintro e wq ⟨rfl, rfl⟩
            rw [blank_bl9, HBS.out]
            go_wp2_with (at_builtin; refine wpList_append_own _ rfl _ _ 22 rfl w.heap.size 9 i0 _ 1 16 Try.underlying22 hi hz0 hz1 hz2 rfl (by decide) _ _ _ rfl (HO.out.alloc _) ⟨wr.heap.size, 0, none⟩ 1 1 [.string X] rfl rfl (by rw [hX]; exact cell_one_new _ _ _) (by simp [Value.oneCell']) (by unfold maxLen; omega) (by omega) (by have := HSZ.out; simp; omega) ?_; intro v3 w3 hown hgrow hnil)
            have HR3 := hid (show WdW s w w3 v3 (k + 1) (k + 1) (n + 1) (out ++ [X.data.toList]) by
              refine ⟨fun h => ?_, fun h => ?_, ?_, ?_, (HR.out.2.2.2.2.alloc HR.out.2.2.2.2.size _).grown hgrow (by have := HSZ.out; simp; omega) (fun k hk => (HO.out.lt k hk).1)⟩
              · have e := wd_blank HW.out HKL.out HBL.out
                rw [if_pos HFK.out, HXE.out] at e
                exact e
              · have := HKL.out; rw [← Lib.size_eq] at this; omega
              · rw [List.length_append, ← HR.out.2.2.1]; rfl
              · rw [show cT9 (out ++ [X.data.toList]) = cT9 out ++ cT9 [X.data.toList] by simp [cT9], HXC.out]
                exact hown)
            clear hown hgrow hnil
            go_wp2_with fail
            go_roundw
            case rel =>
              first
                | exact ⟨k + 1, k + 1, n + 1, _, by omega, by omega, by omega, by go_num, by go_num, HR3.out⟩
                | ((repeat apply Exists.intro); refine ⟨?_, rfl⟩; exact ⟨k + 1, k + 1, n + 1, _, by omega, by omega, by omega, by go_num, by go_num, HR3.out⟩)
                | ((repeat apply Exists.intro); exact ⟨⟨k + 1, k + 1, n + 1, _, by omega, by omega, by omega, by go_num, by go_num, HR3.out⟩, rfl⟩)
            case measure => simp [intOf]; omega
          · have HFK := hid hf
            have hlt2 : ¬ ((f : Int) < (k : Int)) := by omega
            have HR3 := hid (show WdW s w wr u3 (k + 1) (k + 1) n out by
              refine ⟨fun h => ?_, fun h => ?_, HR.out.2.2.1, HR.out.2.2.2.1, HR.out.2.2.2.2⟩
              · have e := wd_blank HW.out HKL.out HBL.out
                rw [if_neg HFK.out, List.append_nil] at e
                exact e
              · have := HKL.out; rw [← Lib.size_eq] at this; omega)
            go_wp2_with fail
            refine (rblank_any _ _).mono ?_
            rintro e wq ⟨rfl, rfl⟩
            rw [blank_bl9, HBS.out]
            go_wp2_with fail
            go_roundw
            case rel =>
              first
                | exact ⟨k + 1, (k + 1), n, _, by omega, by omega, by omega, by go_num, by go_num, HR3.out⟩
                | ((repeat apply Exists.intro); refine ⟨?_, rfl⟩; exact ⟨k + 1, (k + 1), n, _, by omega, by omega, by omega, by go_num, by go_num, HR3.out⟩)
                | ((repeat apply Exists.intro); exact ⟨⟨k + 1, (k + 1), n, _, by omega, by omega, by omega, by go_num, by go_num, HR3.out⟩, rfl⟩)
            case measure => simp [intOf]; omega
        · have HBL := hid (show bl9 s.data.toList[k] = false by simpa using hbl)
          have HBS := hid (show bl9 (s[k]'hks) = false from HBL.out)
          have HR3 := hid (show WdW s w wr u3 (k + 1) f n out by
            refine ⟨fun h => ?_, fun h => ?_, HR.out.2.2.1, HR.out.2.2.2.1, HR.out.2.2.2.2⟩
            · exact wd_plain HW.out HKL.out HBL.out
            · have := HKL.out; rw [← Lib.size_eq] at this; omega)
          go_wp2_with fail
          refine (rblank_any _ _).mono ?_
          rintro e wq ⟨rfl, rfl⟩
          rw [blank_bl9, HBS.out]
          go_wp2_with fail
          go_roundw
          case rel =>
            first
              | exact ⟨k + 1, f, n, _, by omega, by omega, by omega, by go_num, by go_num, HR3.out⟩
              | ((repeat apply Exists.intro); refine ⟨?_, rfl⟩; exact ⟨k + 1, f, n, _, by omega, by omega, by omega, by go_num, by go_num, HR3.out⟩)
              | ((repeat apply Exists.intro); exact ⟨⟨k + 1, f, n, _, by omega, by omega, by omega, by go_num, by go_num, HR3.out⟩, rfl⟩)
          case measure => simp [intOf]; omega

end Go.Proofs.Ytplabofdcnpcpaa
