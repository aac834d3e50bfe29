/-
  The walk of headers' Split.
-/
import Derived.Test.YtplabofdcnpcpaaDoorZXj
set_option linter.unusedSimpArgs false
set_option linter.unusedVariables false
namespace Go.Proofs.YtplabofdcnpcpaaDoor
open Go.RowKit

/-- What is left to be told behind the pieces out. -/
def restP (out : List (List UInt8)) (r : List UInt8) (mo : Bool) : List (List UInt8) := if mo then out ++ (pcs r).map trimB else out

theorem pcs_cut (r : List UInt8) : pcs r = if cutB r then cutA r :: pcs (cutR r) else [cutA r] := by
  unfold cutA cutR cutB
  cases h : cutQ false r with
  | none => rw [pcs_none r h]; rfl
  | some k => rw [pcs_some r k h]; rfl

theorem restP_step (out : List (List UInt8)) (r : List UInt8) : restP out r true = restP (out ++ [trimB (cutA r)]) (cutR r) (cutB r) := by
  unfold restP
  rw [if_pos rfl, pcs_cut]
  cases cutB r <;> simp

theorem cutR_len (r : List UInt8) (h : cutB r = true) : (cutR r).length + 1 ≤ r.length := by
  unfold cutB at h
  unfold cutR
  cases hc : cutQ false r with
  | none => rw [hc] at h; cases h
  | some k =>
    have := cutQ_lt r.length false r k (Nat.le_refl _) hc
    simp; omega

theorem cutA_len (r : List UInt8) : (cutA r).length ≤ r.length := by
  unfold cutA; split <;> simp <;> omega
theorem cutR_le (r : List UInt8) : (cutR r).length ≤ r.length := by
  unfold cutR; split <;> simp

def SplitPost (L : List (List UInt8)) (w : World) (e : Ending) (w' : World) : Prop :=
  ∃ v, e = .returned (.tuple #[v, .bool true]) ∧ w'.ownsRow w.heap.size 9 1 v L.length (cellsT L) ∧ Below w.heap.size w w'

set_option maxHeartbeats 2000000 in
set_option maxRecDepth 100000 in
theorem split_any (v : Value) (L : List Hd) (n : ByteArray) (w : World) (h : HdAt w v L) (hs : n.size ≤ 140737488351232) (hz : Szd 140737488351232 L) (hl : L.length ≤ 1000000) (hb : bulkV L ≤ 1000000000) (hh : getB L n.data.toList = true) :
    Calls Tryd.prog 8 #[v, .string n] w (SplitPost (splitV L n.data.toList) w) := by
  obtain ⟨i0, hi, hz0, hz1, hz2⟩ := info3 infoTx
  have HG := hid (get_any v L n w h hs hz hl (by omega))
  have hgl := getT_len L n.data.toList
  obtain ⟨T, hT⟩ : ∃ T : ByteArray, T = ⟨(getT L n.data.toList).toArray⟩ := ⟨_, rfl⟩
  rw [← hT, hh] at HG
  have hTs : T.size ≤ 1000000000 := by rw [hT, xsize]; omega
  have HV := hid (show splitV L n.data.toList = restP [] T.data.toList true by rw [hT]; rfl)
  clear hT hgl h hz hb hh
  go_enter Tryd.func8, Tryd.ntmps8
  go_wp2_with fail
  refine HG.out.mono ?_
  rintro e w0 ⟨rfl, hb0⟩
  go_wp2
  go_loopw [6, 7, 8, 9] (fun r m vv x wr => ∃ (R : ByteArray) (mo : Bool) (out : List (List UInt8)), r = .string R ∧ m = .bool mo ∧ out.length + R.size ≤ 1000000001 ∧ (mo = true → out.length + R.size ≤ 1000000000) ∧ R.size ≤ 1000000000 ∧ restP out R.data.toList mo = restP [] T.data.toList true ∧ wr.ownsRow w.heap.size 9 1 vv out.length (cellsT out) ∧ Below w.heap.size w wr)
    (fun r m _ _ _ => match r, m with | .string R, .bool true => R.size + 1 | _, _ => 0)
  case atStart => exact ⟨T, true, [], rfl, rfl, by simp; omega, fun _ => by simp; omega, hTs, rfl, World.ownsRow_nil _ _ _ _, hb0⟩
  case round =>
    obtain ⟨R, mo, out, rfl, rfl, hol, holm, hRs, hrest, hown, hbw⟩ := hrel
    have HO := hid hown
    have hwr := hbw.size
    have HR := hid hrest
    clear hown hrest
    cases mo with
    | false =>
      have HE := hid (show out = splitV L n.data.toList by rw [HV.out, ← HR.out]; rfl)
      go_wp2
      go_ret2
      unfold SplitPost
      rw [← HE.out]
      exact ⟨_, rfl, HO.out, hbw⟩
    | true =>
      have hol' := holm rfl
      obtain ⟨A, hA⟩ : ∃ x : ByteArray, x = ⟨(cutA R.data.toList).toArray⟩ := ⟨_, rfl⟩
      obtain ⟨B, hB⟩ : ∃ x : ByteArray, x = ⟨(cutR R.data.toList).toArray⟩ := ⟨_, rfl⟩
      obtain ⟨mo, hmo⟩ : ∃ x, x = cutB R.data.toList := ⟨_, rfl⟩
      have HCP : Hid (∀ w : World, Calls Tryd.prog 30 #[.string R] w fun e w' => e = .returned (.tuple #[.string A, .string B, .bool mo]) ∧ Below w.heap.size w w') := fun w => by
        have := cutPiece_any R w (by omega)
        rw [← hA, ← hB, ← hmo] at this
        exact this
      have hAs : A.size ≤ 1000000000 := by have := cutA_len R.data.toList; rw [hA, xsize]; simp at this; omega
      have hBs : B.size ≤ R.size := by have := cutR_le R.data.toList; rw [hB, xsize]; simpa using this
      have hBm : mo = true → B.size + 1 ≤ R.size := fun h => by have := cutR_len R.data.toList (by rw [← hmo]; exact h); rw [hB, xsize]; simpa using this
      obtain ⟨P, hP⟩ : ∃ x : ByteArray, x = ⟨(trimB A.data.toList).toArray⟩ := ⟨_, rfl⟩
      have HTr : Hid (∀ w : World, Calls Tryd.prog 31 #[.string A, .string ⟨#[9, 32]⟩] w fun e w' => e = .returned (.string P) ∧ Below w.heap.size w w') := fun w => by
        have := trimB_any A w (by omega)
        rw [← hP] at this
        exact this
      have HS := hid (show restP (out ++ [P.data.toList]) B.data.toList mo = restP [] T.data.toList true by
        rw [← HR.out, restP_step, hP, hB, hmo, hA])
      clear hA hB hmo hP holm
      go_wp2_with fail
      refine (HCP.out _).mono ?_
      rintro e w1 ⟨rfl, hb1⟩
      have hbw1 := hbw.trans (hb1.mono hwr)
      have hw1 := hbw1.size
      have HO1 := hid (own_same HO.out hb1)
      go_wp2_with fail
      refine (HTr.out _).mono ?_
      rintro e w2 ⟨rfl, hb2⟩
      have hbw2 := hbw1.trans (hb2.mono hw1)
      have hw2 := hbw2.size
      have HO2 := hid (own_same HO1.out hb2)
      go_wp2_with (at_builtin; go_must (refine wpList_append_own _ rfl _ _ 33 rfl w.heap.size 9 i0 (.string ByteArray.empty) 1 16 Tryd.underlying33 hi hz0 hz1 hz2 rfl (by decide) _ _ _ rfl (HO2.out.alloc _) ⟨w2.heap.size, 0, none⟩ 1 1 [.string P] rfl rfl ?c1 ?c2 ?c3 ?c4 ?c5 ?_))
      case c1 =>
        intro q u hq
        match q, hq with
        | 0, hq => simp at hq; subst hq; simp [Addr.add]
      case c2 => intro u hu; simp at hu; subst hu; rfl
      case c3 => unfold maxLen; omega
      case c4 => omega
      case c5 => simp; omega
      intro v' w3 hown' hgrow hnil
      have HO3 := hid hown'
      have HB3 := hid (show Below w.heap.size w w3 from (hbw2.alloc hw2 _).grown hgrow (by simp; omega) (fun g hg => (HO2.out.lt g hg).1))
      clear hown' hgrow hnil
      go_wp2
      go_roundw
      case rel =>
        refine ⟨B, mo, out ++ [P.data.toList], rfl, rfl, by simp; omega, fun h => by have := hBm h; simp; omega, by omega, HS.out, ?_, HB3.out⟩
        rw [cellsT_app, cellsT_one, List.length_append]
        exact HO3.out
      case measure =>
        cases mo with
        | false => simp
        | true => have := hBm rfl; simp; omega

end Go.Proofs.YtplabofdcnpcpaaDoor
