/-
  The walk of the reader's params: a list of parameters, and the set of their names.
-/
import Derived.Test.YtplabofdcnpcpaaDoorZMg
import Derived.Maps.OwnSet
import Derived.Maps.OwnOps
import Derived.Maps.AppendAt
import Derived.StringKeys
set_option linter.unusedSimpArgs false
set_option linter.unusedVariables false
namespace Go.Proofs.YtplabofdcnpcpaaDoor
open Go.RowKit Go.Maps Go.WideMaps

theorem lawS : Keyed Tryd.prog 9 := string_keyed Tryd.underlying9
theorem zeroU (w : World) : (zeroValue 112).run Tryd.prog w = .ok (.agg #[]) w := by kernel_rfl
theorem infoPm : (Tryd.prog.info? 60).map (fun i => (i.zero, i.size, i.bytes)) = some (some (.agg #[.string ByteArray.empty, .string ByteArray.empty]), 2, 32) := by kernel_rfl

/-- The set of the names. -/
def SN (out : List Hd) : DataW Unit := setOf (.agg []) (out.map fun p => Lit.string p.name)

theorem SN_nil : SN [] = .map [] := rfl
theorem SN_snoc (out : List Hd) (p : Hd) : SN (out ++ [p]) = (SN out).put (.string p.name) (.agg []) := by
  unfold SN
  rw [List.map_append, List.map_singleton, setOf_snoc]
theorem SN_has (out : List Hd) (n : List UInt8) : Maps.has (SN out) (.string n) = has6 out n := by
  unfold SN has6
  rw [has_setOf _ _ _ (fun y hy => by obtain ⟨_, _, rfl⟩ := List.mem_map.1 hy; trivial), List.any_map]
  congr 1

def PrmPost (b : Nat) (l : List UInt8) (w : World) (e : Ending) (w' : World) : Prop := ∃ v, e = .returned v ∧ w'.ownsRow (w.heap.size + 1) 60 2 v (prm [] l).length (cellsH (prm [] l)) ∧ But b w w'

theorem own_apart2 {w : World} {b B n k : Nat} {e : TypeId} {v : Value} {xs : List Value} (h : w.ownsRow B e k v n xs) (hb : b < B) : v.ownBlock ≠ some b := fun e => by
  have := (h.lt b e).1
  omega

theorem But.map {b B n : Nat} {D : DataW Unit} {w w1 : World} (h : But b w w1) (ho : w.ownsMap Tryd.prog 9 unitElem B n D) (hne : B ≠ b) : w1.ownsMap Tryd.prog 9 unitElem B n D := by
  obtain ⟨es, clock, hb, rest⟩ := ho
  exact ⟨es, clock, (h.block B (Array.getElem?_eq_some_iff.1 hb).1 hne).trans hb, rest⟩

set_option maxHeartbeats 4000000 in
set_option maxRecDepth 100000 in
theorem params_any (b : Nat) (R : ByteArray) (w : World) (hR : Rdr w b R) (hs : R.size ≤ 4000000000) :
    Calls Tryd.prog 47 #[.pointer (some ⟨b, 0, none⟩)] w (PrmPost b R.data.toList w) := by
  have hmm := @run_makeMap Tryd.prog
  obtain ⟨i0, hi, hz0, hz1, hz2⟩ := info3 infoPm
  have HLt := hid hR.lt
  have HR := hid hR
  clear hR
  go_enter Tryd.func47, Tryd.ntmps47
  go_wp2
  go_loopg [3] R.size (fun g v wr => ∃ (Q : ByteArray) (out : List Hd), Q.size ≤ g ∧ out.length + Q.size ≤ R.size ∧ Rdr wr b Q ∧ wr.ownsMap Tryd.prog 9 (unitElem (H := Unit)) w.heap.size out.length (SN out) ∧ wr.ownsRow (w.heap.size + 1) 60 2 v out.length (cellsH out) ∧ prm out Q.data.toList = prm [] R.data.toList ∧ But b w wr ∧ w.heap.size + 1 ≤ wr.heap.size)
  case atStart => exact ⟨R, [], Nat.le_refl _, by simp, HR.out.alloc _, World.ownsMap_made _ _ _ _, World.ownsRow_nil _ _ _ _, rfl, (But.refl _ _).alloc _ (Nat.le_of_lt HLt.out), by simp⟩
  case round =>
    obtain ⟨Q, out, hg, hl, hRd, hmap, hown, hp, hbt, hws⟩ := hrel
    have HRd := hid hRd
    have HM := hid hmap
    have HO := hid hown
    have HP := hid hp
    have HBt := hid hbt
    clear hRd hmap hown hp hbt
    by_cases h59 : Q.data.toList.head? = some 59
    · have HPs := hid (pass_yes 59 b Q wr HRd.out h59)
      have hq0 : 0 < Q.size := by
        rw [Lib.size_eq]
        cases hq : Q.data.toList with
        | nil => rw [hq] at h59; cases h59
        | cons => simp
      have hds : (dr1 Q).size + 1 = Q.size := by rw [dr1_size]; omega
      have HSt := hid (show prm (mstepP out (dr1 Q).data.toList) (parR (dr1 Q).data.toList) = prm [] R.data.toList by
        rw [← HP.out, prm_step out Q.data.toList (by unfold isS; rw [h59]; rfl)]; rfl)
      have hrl := parR_le (dr1 Q).data.toList
      rw [← Lib.size_eq] at hrl
      obtain ⟨D, hD⟩ : ∃ D, dr1 Q = D := ⟨_, rfl⟩
      rw [hD] at HPs hds HSt hrl
      have hDs : D.size ≤ 4000000000 := by omega
      obtain ⟨N, hN⟩ : ∃ N, ba (parN D.data.toList) = N := ⟨_, rfl⟩
      obtain ⟨V, hV⟩ : ∃ V, ba (parV D.data.toList) = V := ⟨_, rfl⟩
      obtain ⟨Z, hZ⟩ : ∃ Z, ba (parR D.data.toList) = Z := ⟨_, rfl⟩
      obtain ⟨ok, hok⟩ : ∃ ok, parB D.data.toList = ok := ⟨_, rfl⟩
      have HPar : Hid (∀ w : World, Rdr w b D → Calls Tryd.prog 74 #[.pointer (some ⟨b, 0, none⟩)] w fun e w' => e = .returned (.tuple #[.agg #[.string N, .string V], .bool ok]) ∧ Rdr w' b Z ∧ But b w w') := fun w hw => by
        have := param_any b D w hw hDs
        unfold ParPost hdVal at this
        rw [hN, hV, hZ, hok] at this
        exact this
      have hZl : Z.data.toList = parR D.data.toList := by rw [← hZ]; rfl
      have hNl : N.data.toList = parN D.data.toList := by rw [← hN]; rfl
      have hVl : V.data.toList = parV D.data.toList := by rw [← hV]; rfl
      have hZs : Z.size + 1 ≤ Q.size := by rw [Lib.size_eq, hZl]; omega
      have hNs : N.size ≤ maxLen := by have := parN_le D.data.toList; rw [← Lib.size_eq] at this; rw [Lib.size_eq, hNl]; unfold maxLen; omega
      have hkey : keyOf Tryd.prog 9 (.string N) = some (.string N.data.toList) := keyOf_string_mk Tryd.underlying9 hNs
      clear hds
      go_wp2_with fail
      refine HPs.out.mono ?_
      rintro e w1 ⟨rfl, hr1, hb1⟩
      have HM1 := hid (hb1.map HM.out (Nat.ne_of_gt HLt.out))
      have HO1 := hid (hb1.own HO.out (own_apart2 HO.out (Nat.lt_succ_of_lt HLt.out)))
      have HB1 := hid (HBt.out.trans hb1)
      have hw1 := hb1.size
      go_wp2_with fail
      refine (HPar.out _ hr1).mono ?_
      rintro e w2 ⟨rfl, hr2, hb2⟩
      have HM2 := hid (hb2.map HM1.out (Nat.ne_of_gt HLt.out))
      have HO2 := hid (hb2.own HO1.out (own_apart2 HO1.out (Nat.lt_succ_of_lt HLt.out)))
      have HB2 := hid (HB1.out.trans hb2)
      have HR2 := hid hr2
      have hw2 := hb2.size
      clear hr1 hr2 hb1 hb2
      obtain ⟨hs6, hhs⟩ : ∃ x, has6 out (parN D.data.toList) = x := ⟨_, rfl⟩
      have HH := hid (show Maps.has (SN out) (.string N.data.toList) = hs6 by rw [SN_has, hNl]; exact hhs)
      have HSP := hid (show mstepP out D.data.toList = if ok && !hs6 then out ++ [⟨N.data.toList, V.data.toList⟩] else out by unfold mstepP; rw [hok, hhs, hNl, hVl])
      have HZl := hid hZl
      clear hZl hNl hVl hhs hN hV hZ hok hrl h59 hD
      have hfin : (ok && !hs6) = true ∨ (ok && !hs6) = false := by cases (ok && !hs6) <;> simp
      rcases hfin with hf | hf
      · rw [hf, if_pos rfl] at HSP
        obtain ⟨rfl, rfl⟩ : ok = true ∧ hs6 = false := by simpa using hf
        clear hf
        have HM3 := hid ((HM2.out.alloc (.cells #[.string N, .string V] 60)).alloc (.cells #[] 112))
        have HO3 := hid ((HO2.out.alloc (.cells #[.string N, .string V] 60)).alloc (.cells #[] 112))
        have HR3 := hid ((HR2.out.alloc (.cells #[.string N, .string V] 60)).alloc (.cells #[] 112))
        have HB3 := hid ((HB2.out.alloc (.cells #[.string N, .string V] 60) (Nat.le_of_lt HR2.out.lt)).alloc (.cells #[] 112) (Nat.le_of_lt (HR2.out.alloc _).lt))
        have HT3 := hid ((show TwoP (w2.alloc (.cells #[.string N, .string V] 60)) w2.heap.size N V from heap_alloc_new _ _).kept ((Below.refl _ _).alloc (Nat.le_refl _) (.cells #[] 112)))
        go_wp2_with (first
          | (at_lookup; refine wpList_lookup_own_unit _ rfl _ _ 109 rfl 9 112 lawS Tryd.underlying109 (zeroU _) w.heap.size out.length _ rfl (HM2.out.alloc _) _ _ rfl hkey ?_; rw [HH.out])
          | (at_mapUpdate; refine wpList_mapUpdate_own _ rfl _ _ _ 109 rfl 9 112 lawS Tryd.underlying109 (unitElem (H := Unit)) w.heap.size out.length _ rfl HM3.out (by unfold maxLen; omega) _ _ _ rfl rfl hkey _ [] unitElem_mk ?_; intro w3 hown1 hgrow1
             have HM4 := hid hown1
             have HO4 := hid (HO3.out.kept hgrow1 (.inr (own_apart2 HO3.out (Nat.lt_succ_self _))))
             have HR4 := hid (HR3.out.grown hgrow1 (by simp; exact Nat.ne_of_lt HLt.out))
             have HB4 := hid (HB3.out.grown hgrow1 (fun k hk => by cases hk; exact Nat.le_refl _) HLt.out)
             have hw3 := hgrow1.size
             have hT4 : TwoP w3 w2.heap.size N V := (hgrow1.block _ HT3.out.lt (by simp; omega)).trans HT3.out
             obtain ⟨c0, c1, _, _⟩ := hT4.cells
             clear hgrow1 hown1 hT4)
          | (at_builtin; go_must (refine wpList_append_own _ rfl _ _ 51 rfl (w.heap.size + 1) 60 i0 _ 2 32 Tryd.underlying51 hi hz0 hz1 hz2 rfl (by decide) _ _ _ rfl (HO4.out.alloc _) ⟨w3.heap.size, 0, none⟩ 1 1 [.string N, .string V] rfl rfl ?c1 ?c2 ?c3 ?c4 ?c5 ?_)))
        case c1 =>
          intro q u hq
          match q, hq with
          | 0, hq => simp at hq; subst hq; simp [Addr.add]
          | 1, hq => simp at hq; subst hq; simp [Addr.add]
        case c2 => intro u hu; simp at hu; rcases hu with rfl | rfl <;> rfl
        case c3 => unfold maxLen; omega
        case c4 => omega
        case c5 => simp at hw3 ⊢; omega
        intro v' w4 hown' hgrow hnil
        have HO5 := hid hown'
        have HM5 := hid ((HM4.out.alloc (.cells #[.string N, .string V] 60)).kept hgrow (fun e => own_apart2 HO4.out (Nat.lt_succ_self _) e.symm))
        have HR5 := hid ((HR4.out.alloc (.cells #[.string N, .string V] 60)).grown hgrow (fun e => own_apart2 HO4.out (Nat.lt_succ_of_lt HLt.out) e.symm))
        have HB5 := hid ((HB4.out.alloc (.cells #[.string N, .string V] 60) (Nat.le_of_lt HR4.out.lt)).grown hgrow (fun k hk => by have := (HO4.out.lt k hk).1; omega) HLt.out)
        have hw4 := hgrow.size
        simp at hw3 hw4
        clear hown' hgrow hnil
        go_wp2
        go_roundg (gk - 1)
        case measure => omega
        case rel =>
          refine ⟨Z, out ++ [⟨N.data.toList, V.data.toList⟩], by omega, by simp; omega, HR5.out, ?_, ?_, ?_, HB5.out, by omega⟩
          · rw [SN_snoc, List.length_append]; exact HM5.out
          · rw [cellsH_app, cellsH_one, List.length_append]
            have e1 : (⟨N.data.toList.toArray⟩ : ByteArray) = N := (xself N).symm
            have e2 : (⟨V.data.toList.toArray⟩ : ByteArray) = V := (xself V).symm
            rw [e1, e2]
            exact HO5.out
          · rw [HZl.out, ← HSP.out]; exact HSt.out
      · rw [hf, if_neg (by simp)] at HSP
        have HM3 := hid ((HM2.out.alloc (.cells #[.string N, .string V] 60)).alloc (.cells #[] 112))
        have HO3 := hid ((HO2.out.alloc (.cells #[.string N, .string V] 60)).alloc (.cells #[] 112))
        have HR3 := hid ((HR2.out.alloc (.cells #[.string N, .string V] 60)).alloc (.cells #[] 112))
        have HB3 := hid ((HB2.out.alloc (.cells #[.string N, .string V] 60) (Nat.le_of_lt HR2.out.lt)).alloc (.cells #[] 112) (Nat.le_of_lt (HR2.out.alloc _).lt))
        have hcs : (ok = false) ∨ (ok = true ∧ hs6 = true) := by revert hf; cases ok <;> cases hs6 <;> simp
        clear hf
        rcases hcs with rfl | ⟨rfl, rfl⟩
        all_goals
          go_wp2_with (at_lookup; refine wpList_lookup_own_unit _ rfl _ _ 109 rfl 9 112 lawS Tryd.underlying109 (zeroU _) w.heap.size out.length _ rfl (HM2.out.alloc _) _ _ rfl hkey ?_; rw [HH.out])
          go_roundg (gk - 1)
          case measure => omega
          case rel =>
            refine ⟨Z, out, by omega, by omega, HR3.out, HM3.out, HO3.out, ?_, HB3.out, by simp; omega⟩
            rw [HZl.out, ← HSP.out]; exact HSt.out
    · have HPs := hid (pass_no 59 b Q wr HRd.out h59)
      have HE := hid (show out = prm [] R.data.toList by rw [← HP.out, prm_end]; unfold isS; simpa using h59)
      go_wp2_with fail
      refine HPs.out.mono ?_
      rintro e w1 ⟨rfl, rfl⟩
      go_wp2
      go_ret
      unfold PrmPost
      rw [← HE.out]
      exact ⟨_, rfl, HO.out, HBt.out⟩

end Go.Proofs.YtplabofdcnpcpaaDoor
