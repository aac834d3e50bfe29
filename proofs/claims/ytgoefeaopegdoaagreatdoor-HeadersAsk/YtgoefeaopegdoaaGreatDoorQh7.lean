/-
  Walks and plain facts that this claim leans on, put together out of 6 texts: Be, Bf, Bg, Bi, Cf, Yrg.
-/
import Derived.Test.YtgoefeaopegdoaaGreatDoorProg
import Derived.Test.YtgoefeaopegdoaaGreatDoorQh1
import Derived.Test.YtgoefeaopegdoaaGreatDoorQh2
import Derived.Test.YtgoefeaopegdoaaGreatDoorQh3
import Derived.Test.YtgoefeaopegdoaaGreatDoorQh4
import Derived.Test.YtgoefeaopegdoaaGreatDoorQh5
import Derived.Test.YtgoefeaopegdoaaGreatDoorQh6
import Derived.BigRegion
import Derived.Deep.RegionHeld
import Derived.Deep.RegionHeldLaw
import Derived.WalkKit
import Derived.Lib.Strings
import Derived.Lib.UnsafeStr
import Derived.Laws.IdiomStrings
import Derived.Laws.AppendOwn
import Derived.Laws.BitsAllLaws
import Derived.Lib.Bytealg
import Derived.Lib.BufferMore
import Derived.LoopN
import Derived.Shelf.Strings.Builder1
import Derived.Shelf.Strings.Builder2
import Derived.Shelf.Strings.OnBuilder
import Derived.Shelf.Strings.Trim
import Derived.Shelf.Small.Utf8
import Derived.Shelf.Small.Bits
import Derived.Shelf.Small.Strs
import Derived.Shelf.Small.Wraps
import Derived.Shelf.Strings.BuilderF
import Derived.Shelf.Strings.BuilderK
import Derived.Shelf.Strings.BuilderRune
import Derived.Shelf.Utf8.AppendRune
import Derived.Shelf.Utf8.AppendRunePlain
import Derived.Shelf.Strings.Builder2Cap
import Derived.Shelf.Strconv.Itoa0
import Derived.Shelf.Strconv.Itoa1
import Derived.Shelf.LaysM
import Derived.Shelf.Strconv.Itoa2
import Derived.Shelf.Strconv.Itoa3
import Derived.Shelf.Strings.Search1
import Derived.Shelf.Strings.Search2
import Derived.Shelf.Strings.Search3
import Derived.Shelf.Strings.Cut
import Derived.Shelf.Strings.Count
import Derived.Shelf.Strings.Shaped
import Derived.Shelf.Strings.LastIndex
import Derived.Shelf.Strings.Prefix
import Derived.Shelf.Strings.Split
import Derived.Shelf.Strings.Replace
import Derived.Shelf.Strings.Runes
import Derived.Shelf.Strings.IndexAny
import Derived.Shelf.Strings.AsciiSet
import Derived.Shelf.Strings.IndexAnyAll
import Derived.Shelf.Unicode.DecodeSlow
import Derived.Ground.Names2Prog
import Derived.Shelf.Slices.Clone
import Derived.Shelf.Slices.In.SortNone
import Derived.Ground.SlgnProg
import Derived.Shelf.SlicesE.Clone
import Derived.WalkSpells
import Derived.WalkLawsBesides
import Derived.Lib.SlTrimSet
import Derived.Lib.Join
import Derived.Lib.IndexMore
import Derived.Laws.OwnMore
import Derived.Below
import Derived.WalkSmall
import Derived.Lib.SmallJoins
import Derived.Deep.QuietTactic
import Derived.BigQuiet
import Derived.Deep.LoopGhost
import Derived.Deep.MidRow
import Derived.Shelf.Strings.SlTrimAscii
import Derived.Deep.CutRange
import Derived.Laws.Rows
import Derived.Laws.CopyOwn
import Derived.Laws.MakeOwn
import Derived.Laws.RangeAny
import Derived.Lib.DecodeN
import Derived.Lib.OthersKept
import Derived.RegionTactic
import Derived.Deep.RegionWith
import Derived.Laws.Runes
import Derived.Deep.WholeRow
import Derived.Deep.RegionLaw
import Derived.Laws.AppendOwnNone
set_option linter.unusedSimpArgs false
set_option linter.unusedVariables false

namespace Go.Proofs.YtgoefeaopegdoaaGreatDoor
open Go.RowKit

def scN : List UInt8 := [115, 101, 116, 45, 99, 111, 111, 107, 105, 101]

def Tog (M : List Hd) (k : Nat) : Prop := 1 ≤ k ∧ k ≤ M.length ∧ (∀ j, j < k → nmAt M j = nmAt M 0) ∧ (k = 1 ∨ nmAt M 0 ≠ scN) ∧ (k = M.length ∨ nmAt M k ≠ nmAt M 0 ∨ nmAt M 0 = scN)

set_option maxHeartbeats 2000000 in
set_option maxRecDepth 100000 in
theorem together_any (g o c : Nat) (M : List Hd) (w : World) (h : HdAt w (.slice (some ⟨g, o, none⟩) M.length c) M) (hl : M.length ≤ 100000) (h1 : 1 ≤ M.length) :
  Calls Tryz.prog 101 #[.slice (some ⟨g, o, none⟩) M.length c] w fun e w' => ∃ k : Nat, e = .returned (.int .i64 k) ∧ Tog M k ∧ Below w.heap.size w w' := by
 obtain ⟨a1, c1, e0, hc1, hm1, hv1⟩ := h.view
 cases e0
 have V1 := hid hv1
 clear h hv1
 obtain ⟨b, off, e0, p0, -⟩ := V1.out 0 h1
 cases e0
 obtain ⟨n0, hn0⟩ : ∃ x : ByteArray, x = ⟨M[0].name.toArray⟩ := ⟨_, rfl⟩
 have HN0 := hid (show n0.data.toList = nmAt M 0 by rw [hn0]; simp [nmAt, List.getD, show 0 < M.length by omega])
 rw [← hn0] at p0
 rw [Nat.zero_mul, Nat.add_zero] at p0
 clear hn0
 have hgw : g < w.heap.size := World.block_lt_of_cell? w _ p0
 go_enter Tryz.func101, Tryz.ntmps101
 go_wp2
 go_loopw [3] (fun i wr => ∃ k : Nat, 1 ≤ k ∧ k ≤ M.length ∧ i = .int .i64 k ∧ (∀ j, j < k → nmAt M j = nmAt M 0) ∧ (k = 1 ∨ nmAt M 0 ≠ scN) ∧ Below w.heap.size w wr)
  (fun i _ => M.length - (intOf i).toNat)
 case atStart => exact ⟨1, Nat.le_refl _, h1, by go_num, fun j hj => by rw [show j = 0 by omega], .inl rfl, Below.refl _ _⟩
 case round =>
  obtain ⟨k, hk1, hk, rfl, hsame, hck, hbw⟩ := hrel
  have HS := hid hsame
  clear hsame
  by_cases hlt : k < M.length
  ·have hlt' : (k : Int) < (M.length : Int) := by omega
   obtain ⟨b, off, e0, q0, -⟩ := V1.out k hlt
   cases e0
   have f0 : wr.cell? ⟨g, o, none⟩ = some (.string n0) := (hbw.cell hgw).trans p0
   have fk : wr.cell? ⟨g, o + k * 2, none⟩ = some (.string ⟨M[k].name.toArray⟩) := (hbw.cell hgw).trans q0
   obtain ⟨nk, hnk⟩ : ∃ x : ByteArray, x = ⟨M[k].name.toArray⟩ := ⟨_, rfl⟩
   have HNk := hid (show nk.data.toList = nmAt M k by rw [hnk]; simp [nmAt, List.getD, hlt])
   rw [← hnk] at fk
   clear hnk q0
   by_cases hnn : nk = n0
   ·subst hnn
    by_cases hsc : nk = ⟨#[115, 101, 116, 45, 99, 111, 111, 107, 105, 101]⟩
    ·have HEnd := hid (show nmAt M 0 = scN by rw [← HN0.out, hsc]; rfl)
     subst hsc
     go_wp2
     go_quiet (fail)
     go_wp2
     go_ret
     exact ⟨k, rfl, ⟨hk1, hk, HS.out, hck, .inr (.inr HEnd.out)⟩, Go.below_drewN hbw _⟩
    ·have hs2 : (nk.toList == [115, 101, 116, 45, 99, 111, 111, 107, 105, 101]) = false := by
      have := strNe hsc
      rw [Lib.toList_data ⟨#[115, 101, 116, 45, 99, 111, 111, 107, 105, 101]⟩] at this
      exact this
     have HNs := hid (show nmAt M 0 ≠ scN from fun e => hsc (by
      have := HN0.out.trans e
      have h3 : nk = ⟨nk.data.toList.toArray⟩ := by simp
      rw [h3, this]; rfl))
     go_wp2
     go_quiet (fail)
     go_wp2
     go_roundw
     case rel =>
      refine ⟨k + 1, by omega, by omega, by go_num, fun j hj => ?_, .inr HNs.out, Go.below_drewN hbw _⟩
      by_cases e : j = k
      ·rw [e, ← HNk.out, HN0.out]
      ·exact HS.out j (by omega)
     case measure => simp [intOf]; omega
   ·have hn2 := strNe hnn
    have HNe := hid (show nmAt M k ≠ nmAt M 0 from fun e => hnn (by
     have := HNk.out.trans (e.trans HN0.out.symm)
     have h3 : nk = ⟨nk.data.toList.toArray⟩ := by simp
     rw [h3, this]))
    go_wp2
    go_quiet (fail)
    go_wp2
    go_ret
    exact ⟨k, rfl, ⟨hk1, hk, HS.out, hck, .inr (.inl HNe.out)⟩, Go.below_drewN hbw _⟩
  ·have hke : k = M.length := by omega
   have hlt' : decide ((k : Int) < (M.length : Int)) = false := by rw [decide_eq_false_iff_not]; omega
   go_wp2
   go_quiet (fail)
   go_wp2
   go_ret
   exact ⟨k, rfl, ⟨hk1, hk, HS.out, hck, .inl hke⟩, Go.below_drewN hbw _⟩

end Go.Proofs.YtgoefeaopegdoaaGreatDoor

namespace Go.Proofs.YtgoefeaopegdoaaGreatDoor
open Go.RowKit

inductive Bld : List Hd → List Hd → Prop
 | nil : Bld [] []
 | step {R O : List Hd} (k : Nat) (h : Tog R k) (hO : Bld (R.drop k) O) : Bld R (⟨nmAt R 0, getT (R.take k) (nmAt R 0)⟩ :: O)

def SortsTo (L O : List Hd) : Prop := ∃ M, M.length = L.length ∧ Stab (lowH L) M ∧ Srt M M.length ∧ Bld M O

theorem Stab.mem {A B : List Hd} (h : Stab A B) {x : Hd} (hx : x ∈ B) : x ∈ A := by
 have : x ∈ B.filter (fun y => y.name == x.name) := List.mem_filter.2 ⟨hx, by simp⟩
 rw [h] at this
 exact (List.mem_filter.1 this).1

theorem low_len5 (l : List UInt8) : (low l).length = l.length := by simp [low]

theorem lowH_szd {n : Nat} {L : List Hd} (h : Szd n L) : Szd n (lowH L) := by
 intro x hx
 obtain ⟨y, hy, rfl⟩ := List.mem_map.1 hx
 exact ⟨by show (low y.name).length ≤ n; rw [low_len5]; exact (h y hy).1, (h y hy).2⟩

theorem bulkV_szd {n : Nat} : ∀ {L : List Hd}, Szd n L → bulkV L ≤ L.length * (n + 2)
 | [], _ => by simp [bulkV]
 | x :: L, h => by
  have h1 := bulkV_szd (L := L) (fun y hy => h y (List.mem_cons_of_mem _ hy))
  have h2 := (h x List.mem_cons_self).2
  show x.value.length + 2 + bulkV L ≤ (L.length + 1) * (n + 2)
  rw [Nat.succ_mul]
  omega

theorem szd_sub {n : Nat} {L M : List Hd} (h : Szd n L) (hs : ∀ x ∈ M, x ∈ L) : Szd n M := fun x hx => h x (hs x hx)

def slLen : Value → Nat
 | .slice _ n _ => n
 | _ => 0

set_option maxHeartbeats 4000000 in
set_option maxRecDepth 100000 in
theorem sorted_any (v : Value) (L : List Hd) (w : World) (h : HdAt w v L) (hl : L.length ≤ 20) (hz : Szd 1000000000 L) :
  Calls Tryz.prog 50 #[v] w fun e w' => ∃ v' O, e = .returned v' ∧ w'.ownsRow w.heap.size 38 2 v' O.length (cellsH O) ∧ SortsTo L O ∧ Below w.heap.size w w' := by
 obtain ⟨i0, hi, hz0, hz1, hz2⟩ := info3 infoHd
 have HL := hid (lowered_any v L w h (by omega) (fun x hx => ⟨Nat.le_trans (hz x hx).1 (by decide), Nat.le_trans (hz x hx).2 (by decide)⟩))
 have HZ := hid (lowH_szd hz)
 clear h hz
 go_enter Tryz.func50, Tryz.ntmps50
 go_wp2_with fail
 refine HL.out.mono ?_
 rintro e w1 ⟨g, rfl, hr1, hg1, hb1⟩
 have hlen : (lowH L).length = L.length := by simp [lowH]
 have HSt := hid (sortStable_any g (lowH L) w1 hr1 (by omega))
 rw [hlen] at HSt
 go_wp2_with fail
 refine HSt.out.mono ?_
 rintro e w2 ⟨rfl, M, hr2, hM, hstab, hsrt, hb2⟩
 obtain ⟨N, hN⟩ : ∃ N, N = L.length := ⟨_, rfl⟩
 rw [hlen, ← hN] at hM
 rw [← hN] at hl ⊢
 have HM := hid hM
 have HStab := hid hstab
 have HSrt := hid hsrt
 have HR := hid hr2
 have hbW := hid (show Below w.heap.size w w2 from hb1.trans (hb2.mono hg1))
 have HMz := hid (szd_sub HZ.out (fun x hx => hstab.mem hx))
 have hwW := hbW.out.size
 have HAt := hid (show HdAt w2 (.slice (some ⟨g, 0, none⟩) N N) M by have := hr2.at (by unfold maxLen; omega); rw [hM] at this; exact this)
 clear hM hstab hsrt hr2 hb2 hb1 hr1 HL HSt
 go_wp2
 go_loopw [3, 4] (fun rest out wr => ∃ (o c : Nat) (R O : List Hd), rest = .slice (some ⟨g, o, none⟩) R.length c ∧ HdAt w2 (.slice (some ⟨g, o, none⟩) R.length c) R ∧ (∀ O', Bld R O' → Bld M (O ++ O')) ∧ (∀ x ∈ R, x ∈ M) ∧ O.length + R.length ≤ 20 ∧ wr.ownsRow w2.heap.size 38 2 out O.length (cellsH O) ∧ Below w2.heap.size w2 wr)
  (fun rest _ _ => slLen rest)
 case atStart => exact ⟨0, N, M, [], by rw [HM.out, hN], by rw [HM.out]; exact HAt.out, fun O' h => h, fun x hx => hx, by rw [HM.out]; simpa using hl, World.ownsRow_nil _ _ _ _, Below.refl _ _⟩
 case round =>
  obtain ⟨o, c, R, O, rfl, hat, hbld, hsub, hOR, hown, hbw⟩ := hrel
  have HA := hid hat
  have HBl := hid hbld
  have HSub := hid hsub
  have HO := hid hown
  have hwr := hbw.size
  have HRz := hid (szd_sub HMz.out hsub)
  clear hat hbld hsub hown
  by_cases h0 : R.length = 0
  ·have hR : R = [] := List.eq_nil_of_length_eq_zero h0
   subst hR
   have HF := hid (show Bld M O by have := HBl.out [] .nil; rwa [List.append_nil] at this)
   have hg0 : ¬ (0 : Int) < 0 := by decide
   go_wp2
   go_ret
   refine ⟨_, rfl, O, ?_, ⟨M, HM.out.trans hN, HStab.out, HSrt.out, HF.out⟩, hbW.out.trans (hbw.mono hwW)⟩
   rcases HO.out.2 with ⟨h1, h2⟩ | ⟨g', cap, cur, e1, e2, e3⟩
   ·exact ⟨HO.out.1, .inl ⟨h1, h2⟩⟩
   ·exact ⟨HO.out.1, .inr ⟨g', cap, cur, e1, Nat.le_trans hwW e2, e3⟩⟩
  ·have hpos : 1 ≤ R.length := by omega
   have hpos' : (0 : Int) < (R.length : Int) := by omega
   have HTo := hid (together_any g o c R wr (HA.out.kept hbw) (by omega) hpos)
   go_wp2_with fail
   refine HTo.out.mono ?_
   rintro e w3 ⟨k, rfl, htog, hb3⟩
   have HTog := hid htog
   have hk1 : 1 ≤ k := htog.1
   have hkR : k ≤ R.length := htog.2.1
   have hb3W : Below w2.heap.size w2 w3 := hbw.trans (hb3.mono hwr)
   have HO3 := hid (own_same HO.out hb3)
   obtain ⟨a1, c1, e0, hc1, hm1, hv1⟩ := (HA.out.kept hb3W).view
   cases e0
   obtain ⟨b, off, e0, p0, -⟩ := hv1 0 (by omega)
   cases e0
   obtain ⟨n0, hn0⟩ : ∃ x : ByteArray, x = ⟨R[0].name.toArray⟩ := ⟨_, rfl⟩
   have HN0 := hid (show n0.data.toList = nmAt R 0 by rw [hn0]; simp [nmAt, List.getD, show 0 < R.length by omega])
   have hns : n0.size ≤ 1000000000 := by rw [hn0, xsize]; exact (HRz.out _ (List.getElem_mem _)).1
   rw [← hn0] at p0
   rw [Nat.zero_mul, Nat.add_zero] at p0
   clear hn0 hv1 htog HTo
   have hkc : (k : Int) ≤ (c : Int) := by omega
   have hk0 : (0 : Int) ≤ (k : Int) := by omega
   have hkR' : (k : Int) ≤ (R.length : Int) := by omega
   have hRc : (R.length : Int) ≤ (c : Int) := by omega
   have HG := hid (get_any (.slice (some ⟨g, o, none⟩) k c) (R.take k) n0 w3 (hd_take (HA.out.kept hb3W) k hkR) (by omega)
    (fun x hx => ⟨Nat.le_trans (HRz.out x (List.mem_of_mem_take hx)).1 (by decide), Nat.le_trans (HRz.out x (List.mem_of_mem_take hx)).2 (by decide)⟩)
    (by simp; omega) (by
     have h1 := bulkV_szd (L := R.take k) (szd_sub HRz.out (fun x hx => List.mem_of_mem_take hx))
     have h2 : (R.take k).length ≤ 20 := by rw [List.length_take]; omega
     have h3 : (R.take k).length * (1000000000 + 2) ≤ 20 * (1000000000 + 2) := Nat.mul_le_mul_right _ h2
     omega))
   go_wp2_with fail
   refine HG.out.mono ?_
   rintro e w4 ⟨rfl, hb4⟩
   have hb4W : Below w2.heap.size w2 w4 := hb3W.trans (hb4.mono hb3W.size)
   have HO4 := hid (own_same HO3.out hb4)
   obtain ⟨V, hV⟩ : ∃ x : ByteArray, x = ⟨(getT (R.take k) n0.data.toList).toArray⟩ := ⟨_, rfl⟩
   have HV := hid (show (⟨n0.data.toList, V.data.toList⟩ : Hd) = ⟨nmAt R 0, getT (R.take k) (nmAt R 0)⟩ by rw [hV, ← HN0.out])
   rw [← hV]
   have hw4 := hb4W.size
   clear hV HG
   go_wp2_with (at_builtin; go_must (refine wpList_append_own _ rfl _ _ 25 rfl w2.heap.size 38 i0 _ 2 32 Tryz.underlying25 hi hz0 hz1 hz2 rfl (by decide) _ _ _ rfl (HO4.out.alloc _) ⟨w4.heap.size, 0, none⟩ 1 1 [.string n0, .string V] rfl rfl ?c1 ?c2 ?c3 ?c4 ?c5 ?_))
   case c1 =>
    intro q u hq
    match q, hq with
    | 0, hq => simp at hq; subst hq; simp [Addr.add]
    | 1, hq => simp at hq; subst hq; simp [Addr.add]
   case c2 => intro u hu; simp at hu; rcases hu with rfl | rfl <;> rfl
   case c3 => unfold maxLen; omega
   case c4 => omega
   case c5 => simp; omega
   intro v' w5 hown' hgrow hnil
   have HO5 := hid (show w5.ownsRow w2.heap.size 38 2 v' (O ++ [(⟨nmAt R 0, getT (R.take k) (nmAt R 0)⟩ : Hd)]).length (cellsH (O ++ [(⟨nmAt R 0, getT (R.take k) (nmAt R 0)⟩ : Hd)])) by
    rw [← HV.out, cellsH_app, List.length_append]
    exact hown')
   have HB5 := hid (show Below w2.heap.size w2 w5 from (hb4W.alloc hw4 _).grown hgrow (by simp; omega) (fun g hg => (HO4.out.lt g hg).1))
   clear hown' hgrow hnil
   have HBl2 := hid (show ∀ O', Bld (R.drop k) O' → Bld M ((O ++ [(⟨nmAt R 0, getT (R.take k) (nmAt R 0)⟩ : Hd)]) ++ O') from fun O' h => by
    rw [List.append_assoc]
    exact HBl.out _ (.step k HTog.out h))
   have hdl : (R.drop k).length = R.length - k := List.length_drop
   by_cases hce : c = k
   ·have HTL : Hid (HdAt w2 (.slice (some ⟨g, o, none⟩) (R.length - k) (c - k)) (R.drop k)) := hid (by
     rw [show R.drop k = [] from List.drop_eq_nil_of_le (by omega)]
     exact ⟨some ⟨g, o, none⟩, c - k, by rw [show R.length - k = 0 by omega]; rfl, by simp, by omega, fun j hj => by simp at hj⟩)
    have hcet : (c = k) = True := by simp [hce]
    clear hce
    go_wp2
    go_roundw
    case rel => exact ⟨o, c - k, R.drop k, O ++ [(⟨nmAt R 0, getT (R.take k) (nmAt R 0)⟩ : Hd)], by rw [hdl], by rw [hdl]; exact HTL.out, HBl2.out, fun x hx => HSub.out x (List.mem_of_mem_drop hx), by rw [hdl, List.length_append]; simp; omega, HO5.out, HB5.out⟩
    case measure => simp [slLen]; omega
   ·have HTL := hid (hd_drop HA.out k hkR)
    go_wp2
    go_roundw
    case rel => exact ⟨o + k * 2, c - k, R.drop k, O ++ [(⟨nmAt R 0, getT (R.take k) (nmAt R 0)⟩ : Hd)], by rw [hdl], by rw [hdl]; exact HTL.out, HBl2.out, fun x hx => HSub.out x (List.mem_of_mem_drop hx), by rw [hdl, List.length_append]; simp; omega, HO5.out, HB5.out⟩
    case measure => simp [slLen]; omega

end Go.Proofs.YtgoefeaopegdoaaGreatDoor

namespace Go.Proofs.YtgoefeaopegdoaaGreatDoor
open Go.RowKit

theorem low5_low (l : List UInt8) : low (low l) = low l := by
 have key : ∀ n < 256, lowC (lowC (UInt8.ofNat n)) = lowC (UInt8.ofNat n) := by decide +kernel
 unfold low
 rw [List.map_map]
 apply List.map_congr_left
 intro c _
 have := key c.toNat c.toNat_lt
 simpa using this

def LeH (x y : Hd) : Prop := ltN y.name x.name = false

theorem ltN_eq {a b : List UInt8} (h1 : ltN a b = false) (h2 : ltN b a = false) : a = b := by
 rcases ltN_total a b with h | h | h
 ·rw [h1] at h; cases h
 ·exact h
 ·rw [h2] at h; cases h

theorem Srt.pair {M : List Hd} (h : Srt M M.length) : M.Pairwise LeH := by
 rw [List.pairwise_iff_getElem]
 intro i j hi hj hij
 have := h i j hij hj
 unfold nmAt at this
 rw [show M.getD j ⟨[], []⟩ = M[j] by simp [List.getD, hj], show M.getD i ⟨[], []⟩ = M[i] by simp [List.getD, hi]] at this
 exact this

theorem same_of_stab : ∀ {A B : List Hd}, A.Pairwise LeH → B.Pairwise LeH → Stab A B → A = B
 | [], B, _, _, hs => by
  cases B with
  | nil => rfl
  | cons b B => exact absurd (hs.mem List.mem_cons_self) (by simp)
 | a :: A, B, ha, hb, hs => by
  cases B with
  | nil =>
   have := hs a.name
   simp at this
  | cons b B =>
   have h1 : b ∈ a :: A := hs.mem List.mem_cons_self
   have hs' : Stab (b :: B) (a :: A) := fun x => (hs x).symm
   have h2 : a ∈ b :: B := hs'.mem List.mem_cons_self
   have e1 : ltN b.name a.name = false := by
    rcases List.mem_cons.1 h1 with e | e
    ·rw [e]; exact ltN_irrefl _
    ·exact (List.pairwise_cons.1 ha).1 b e
   have e2 : ltN a.name b.name = false := by
    rcases List.mem_cons.1 h2 with e | e
    ·rw [e]; exact ltN_irrefl _
    ·exact (List.pairwise_cons.1 hb).1 a e
   have en := ltN_eq e2 e1
   have hh := hs a.name
   rw [List.filter_cons_of_pos (by simp [en]), List.filter_cons_of_pos (by simp)] at hh
   have eab : b = a := (List.cons.inj hh).1
   subst eab
   congr 1
   refine same_of_stab (List.pairwise_cons.1 ha).2 (List.pairwise_cons.1 hb).2 fun x => ?_
   have := hs x
   by_cases hx : b.name = x
   ·rw [List.filter_cons_of_pos (by simp [hx]), List.filter_cons_of_pos (by simp [hx])] at this
    exact (List.cons.inj this).2
   ·rw [List.filter_cons_of_neg (by simp [hx]), List.filter_cons_of_neg (by simp [hx])] at this
    exact this

def LtH (x y : Hd) : Prop := ltN y.name x.name = false ∧ (x.name = y.name → x.name = scN)

structure Told (R O : List Hd) : Prop where
 ordered : O.Pairwise LtH
 named : ∀ x ∈ O, ∃ y ∈ R, y.name = x.name
 valued : ∀ x ∈ O, x.name ≠ scN → x.value = Lib.join ((R.filter (fun y => y.name == x.name)).map (·.value)) [44, 32]
 few : O.length ≤ R.length
 small : ∀ x ∈ O, x.value.length ≤ bulkV R

theorem bulkV_app (A B : List Hd) : bulkV (A ++ B) = bulkV A + bulkV B := by simp [bulkV]

theorem nmAt_get {M : List Hd} {j : Nat} (h : j < M.length) : nmAt M j = M[j].name := by simp [nmAt, List.getD, h]

theorem Bld.told : ∀ {R O : List Hd}, Bld R O → R.Pairwise LeH → Told R O := by
 intro R O h
 induction h with
 | nil => exact fun _ => ⟨.nil, by simp, by simp, Nat.le_refl _, by simp⟩
 | @step R O k h hO ih =>
  intro hp
  obtain ⟨hk1, hkl, hall, hk2, hend⟩ := h
  have hsp : R.take k ++ R.drop k = R := List.take_append_drop k R
  have hp' := hp
  rw [← hsp, List.pairwise_append] at hp'
  obtain ⟨hpt, hpd, hcr⟩ := hp'
  have T := ih hpd
  have h0 : 0 < R.length := by omega
  have hR0 : R[0] ∈ R.take k := List.mem_take_iff_getElem.2 ⟨0, by omega, rfl⟩
  have hn0 : nmAt R 0 = R[0].name := nmAt_get h0
  have hck : ∀ z ∈ R.drop k, z.name = nmAt R 0 → nmAt R 0 = scN := by
   intro z hz hzn
   rcases hend with e | e | e
   ·rw [e, List.drop_length] at hz; cases hz
   ·exfalso
    have hkR : k < R.length := by
     by_cases q : k < R.length
     ·exact q
     ·rw [List.drop_eq_nil_of_le (by omega)] at hz; cases hz
    have hd : R.drop k = R[k] :: R.drop (k + 1) := List.drop_eq_getElem_cons hkR
    have l1 : ltN R[k].name R[0].name = false := hcr R[0] hR0 R[k] (by rw [hd]; exact List.mem_cons_self)
    have l2 : ltN z.name R[k].name = false := by
     rw [hd] at hz hpd
     rcases List.mem_cons.1 hz with q | q
     ·rw [q]; exact ltN_irrefl _
     ·exact (List.pairwise_cons.1 hpd).1 z q
    rw [hzn, hn0] at l2
    apply e
    rw [nmAt_get hkR, hn0]
    exact ltN_eq l1 l2
   ·exact e
  have hta : ∀ y ∈ R.take k, y.name = nmAt R 0 := by
   intro y hy
   obtain ⟨j, hj, rfl⟩ := List.mem_take_iff_getElem.1 hy
   have := hall j (by omega)
   rw [nmAt_get (by omega)] at this
   exact this
  refine ⟨List.pairwise_cons.2 ⟨?_, T.ordered⟩, ?_, ?_, ?_, ?_⟩
  ·intro y hy
   obtain ⟨z, hz, hzn⟩ := T.named y hy
   refine ⟨?_, fun e => ?_⟩
   ·show ltN y.name (nmAt R 0) = false
    rw [← hzn, hn0]
    exact hcr R[0] hR0 z hz
   ·exact hck z hz (hzn.trans e.symm)
  ·intro x hx
   rcases List.mem_cons.1 hx with e | e
   ·subst e
    exact ⟨R[0], List.getElem_mem _, hn0.symm⟩
   ·obtain ⟨z, hz, hzn⟩ := T.named x e
    exact ⟨z, List.mem_of_mem_drop hz, hzn⟩
  ·intro x hx hne
   rcases List.mem_cons.1 hx with e | e
   ·subst e
    show getT (R.take k) (nmAt R 0) = _
    have e1 : R.filter (fun y => y.name == nmAt R 0) = R.take k := by
     conv => lhs; rw [← hsp]
     rw [List.filter_append, List.filter_eq_self.2 (fun y hy => by simp [hta y hy]), List.filter_eq_nil_iff.2, List.append_nil]
     intro z hz q
     exact hne (hck z hz (by simpa using q))
    show _ = Lib.join ((R.filter (fun y => y.name == nmAt R 0)).map (·.value)) [44, 32]
    rw [e1]
    unfold getT selV
    rw [List.filter_eq_self.2 (fun y hy => by rw [isN, hta y hy]; simp)]
   ·rw [T.valued x e hne]
    congr 2
    conv => rhs; rw [← hsp]
    have e2 : (R.take k).filter (fun y => y.name == x.name) = [] := List.filter_eq_nil_iff.2 (by
     intro y hy q
     obtain ⟨z, hz, hzn⟩ := T.named x e
     have q' : y.name = x.name := by simpa using q
     have := hck z hz (by rw [hzn, ← q', hta y hy])
     exact hne (by rw [← q', hta y hy, this]))
    rw [List.filter_append, e2, List.nil_append]
  ·have := T.few
   rw [List.length_drop] at this
   simp only [List.length_cons]
   omega
  ·intro x hx
   rw [← hsp, bulkV_app]
   rcases List.mem_cons.1 hx with e | e
   ·subst e
    have := getT_len (R.take k) (nmAt R 0)
    show (getT (R.take k) (nmAt R 0)).length ≤ _
    omega
   ·have := T.small x e
    omega

theorem pair_weak {O : List Hd} (h : O.Pairwise LtH) : O.Pairwise LeH := h.imp fun h => h.1

theorem join_one (x : List UInt8) (s : List UInt8) : Lib.join [x] s = x := by simp [Lib.join, List.intercalate]

structure SortsP (L O : List Hd) : Prop where
 ordered : O.Pairwise LtH
 lowered : lowH O = O
 got : ∀ x ∈ O, getB L x.name = true
 valued : ∀ x ∈ O, x.name ≠ scN → getT L x.name = x.value
 few : O.length ≤ L.length
 named : ∀ x ∈ O, ∃ y ∈ L, low y.name = x.name
 small : ∀ n, Szd n L → ∀ x ∈ O, x.value.length ≤ L.length * (n + 2)

theorem SortsTo.facts {L O : List Hd} (h : SortsTo L O) : SortsP L O := by
 obtain ⟨M, hl, hst, hsr, hb⟩ := h
 have T := hb.told hsr.pair
 have hnm : ∀ x ∈ O, ∃ y ∈ L, low y.name = x.name := fun x hx => by
  obtain ⟨z, hz, e⟩ := T.named x hx
  obtain ⟨y, hy, rfl⟩ := List.mem_map.1 (hst.mem hz)
  exact ⟨y, hy, e⟩
 have hlow : ∀ x ∈ O, low x.name = x.name := fun x hx => by
  obtain ⟨y, _, e⟩ := hnm x hx
  rw [← e, low5_low]
 refine ⟨T.ordered, ?_, ?_, ?_, by rw [← hl]; exact T.few, hnm, ?_⟩
 ·unfold lowH
  conv => rhs; rw [← List.map_id O]
  apply List.map_congr_left
  intro x hx
  show (⟨low x.name, x.value⟩ : Hd) = x
  rw [hlow x hx]
 ·intro x hx
  obtain ⟨y, hy, e⟩ := hnm x hx
  have : y.value ∈ selV L x.name := List.mem_map.2 ⟨y, List.mem_filter.2 ⟨hy, by rw [isN, e, hlow x hx]; simp⟩, rfl⟩
  unfold getB
  cases hs : selV L x.name with
  | nil => rw [hs] at this; cases this
  | cons _ _ => rfl
 ·intro x hx hne
  rw [T.valued x hx hne, hst x.name]
  unfold getT selV lowH
  rw [List.filter_map, List.map_map]
  congr 2
  apply List.filter_congr
  intro y _
  show (low y.name == low x.name) = (low y.name == x.name)
  rw [hlow x hx]
 ·intro n hn x hx
  have h1 := T.small x hx
  have h2 := bulkV_szd (L := M) (szd_sub (lowH_szd hn) (fun x hx => hst.mem hx))
  rw [hl] at h2
  omega

end Go.Proofs.YtgoefeaopegdoaaGreatDoor

namespace Go.Proofs.YtgoefeaopegdoaaGreatDoor
open Go.RowKit

theorem Tog.le {M : List Hd} {k n : Nat} (h : Tog M k) (h' : Tog M n) : n ≤ k := by
 by_cases hl : n ≤ k
 ·exact hl
 ·exfalso
  obtain ⟨a1, a2, a3, a4, a5⟩ := h
  obtain ⟨b1, b2, b3, b4, b5⟩ := h'
  rcases a5 with e | e | e
  ·omega
  ·exact e (b3 k (by omega))
  ·rcases b4 with q | q
   ·omega
   ·exact q e

theorem Tog.one {M : List Hd} {k n : Nat} (h : Tog M k) (h' : Tog M n) : k = n := Nat.le_antisymm (h'.le h) (h.le h')

theorem Bld.one : ∀ {R O : List Hd}, Bld R O → ∀ {Q : List Hd}, Bld R Q → O = Q := by
 intro R O h
 induction h with
 | nil =>
  intro Q h'
  cases h' with
  | nil => rfl
  | step k h _ => obtain ⟨h1, h2, _⟩ := h; simp at h2; omega
 | @step R O k h hO ih =>
  intro Q h'
  cases h' with
  | nil => obtain ⟨h1, h2, _⟩ := h; simp at h2; omega
  | step n h2 hQ =>
   obtain rfl := h.one h2
   rw [ih hQ]

theorem SortsTo.one {L O Q : List Hd} (h : SortsTo L O) (h' : SortsTo L Q) : O = Q := by
 obtain ⟨M, _, hst, hsr, hb⟩ := h
 obtain ⟨M', _, hst', hsr', hb'⟩ := h'
 have : M = M' := same_of_stab hsr.pair hsr'.pair (fun x => (hst' x).trans (hst x).symm)
 subst this
 exact hb.one hb'

theorem Bld.all : ∀ {R O : List Hd}, Bld R O → ∀ y ∈ R, ∃ x ∈ O, x.name = y.name := by
 intro R O h
 induction h with
 | nil => intro y hy; cases hy
 | @step R O k h hO ih =>
  intro y hy
  obtain ⟨hk1, hkl, hall, _, _⟩ := h
  rw [← List.take_append_drop k R, List.mem_append] at hy
  rcases hy with hy | hy
  ·obtain ⟨j, hj, rfl⟩ := List.mem_take_iff_getElem.1 hy
   refine ⟨_, List.mem_cons_self, ?_⟩
   have := hall j (by omega)
   rw [nmAt_get (by omega)] at this
   exact this.symm
  ·obtain ⟨x, hx, e⟩ := ih y hy
   exact ⟨x, List.mem_cons_of_mem _ hx, e⟩

theorem Bld.cookies : ∀ {R O : List Hd}, Bld R O → O.filter (fun x => x.name == scN) = R.filter (fun x => x.name == scN) := by
 intro R O h
 induction h with
 | nil => rfl
 | @step R O k h hO ih =>
  obtain ⟨hk1, hkl, hall, hk2, _⟩ := h
  have h0 : 0 < R.length := by omega
  by_cases hs : nmAt R 0 = scN
  ·have hk : k = 1 := by
    rcases hk2 with e | e
    ·exact e
    ·exact absurd hs e
   subst hk
   cases R with
   | nil => simp at h0
   | cons x R =>
    have hx : x.name = scN := hs
    have e1 : getT [x] x.name = x.value := by simp [getT, selV, isN, join_one]
    show List.filter _ ((⟨x.name, getT [x] x.name⟩ : Hd) :: O) = _
    rw [e1, List.filter_cons_of_pos (by simp [hx]), List.filter_cons_of_pos (by simp [hx]), ih]
    rfl
  ·rw [List.filter_cons_of_neg (by simpa using hs), ih]
   conv => rhs; rw [← List.take_append_drop k R]
   have e2 : (R.take k).filter (fun x => x.name == scN) = [] := List.filter_eq_nil_iff.2 (by
    intro y hy q
    obtain ⟨j, hj, rfl⟩ := List.mem_take_iff_getElem.1 hy
    have := hall j (by omega)
    rw [nmAt_get (by omega)] at this
    exact hs (by rw [← this]; simpa using q))
   rw [List.filter_append, e2, List.nil_append]

def toldBy (L : List Hd) (n : List UInt8) : List Hd := if n = scN then (L.filter (isN n)).map (fun h => ⟨n, h.value⟩) else [⟨n, getT L n⟩]

theorem toldBy_name {L : List Hd} {n : List UInt8} {x : Hd} (h : x ∈ toldBy L n) : x.name = n := by
 unfold toldBy at h
 split at h
 ·obtain ⟨y, _, rfl⟩ := List.mem_map.1 h; rfl
 ·rw [List.mem_singleton.1 h]

theorem one_of_strict : ∀ {O : List Hd} {n : List UInt8} {x : Hd}, O.Pairwise LtH → n ≠ scN → x ∈ O → x.name = n → O.filter (fun y => y.name == n) = [x]
 | [], _, _, _, _, h, _ => by cases h
 | a :: O, n, x, hp, hn, hx, he => by
  have hp' := List.pairwise_cons.1 hp
  by_cases ha : a.name = n
  ·have e1 : O.filter (fun y => y.name == n) = [] := List.filter_eq_nil_iff.2 fun y hy q => hn (by
    have := (hp'.1 y hy).2 (by rw [ha]; exact (by simpa using q : y.name = n).symm)
    rw [← ha, this])
   have e2 : x = a := by
    rcases List.mem_cons.1 hx with e | e
    ·exact e
    ·exact absurd ((hp'.1 x e).2 (by rw [ha, he])) (by rw [ha]; exact hn)
   rw [List.filter_cons_of_pos (by simp [ha]), e1, e2]
  ·have e2 : x ∈ O := by
    rcases List.mem_cons.1 hx with e | e
    ·rw [e] at he; exact absurd he ha
    ·exact e
   rw [List.filter_cons_of_neg (by simp [ha])]
   exact one_of_strict hp'.2 hn e2 he

theorem flat_filter (L : List Hd) (x : List UInt8) : ∀ (N : List (List UInt8)), N.Nodup → (N.flatMap (toldBy L)).filter (fun y => y.name == x) = if x ∈ N then toldBy L x else []
 | [], _ => by simp
 | n :: N, h => by
  have hh := List.nodup_cons.1 h
  rw [List.flatMap_cons, List.filter_append, flat_filter L x N hh.2]
  by_cases e : n = x
  ·subst e
   rw [List.filter_eq_self.2 (fun y hy => by simp [toldBy_name hy])]
   simp [hh.1]
  ·rw [List.filter_eq_nil_iff.2 (fun y hy q => e (by rw [← toldBy_name hy]; simpa using q)), List.nil_append]
   have : ¬ x = n := fun q => e q.symm
   simp [this]

theorem SortsTo.doc {L O : List Hd} (h : SortsTo L O) (N : List (List UInt8)) (hN : N.Pairwise (fun a b => ltN a b = true)) (hm : ∀ n, n ∈ N ↔ ∃ y ∈ L, low y.name = n) : O = N.flatMap (toldBy L) := by
 have F := h.facts
 obtain ⟨M, hl, hst, hsr, hb⟩ := h
 have hnd : N.Nodup := hN.imp fun h => ltN_ne h
 refine same_of_stab (pair_weak F.ordered) ?_ fun x => ?_
 ·have : ∀ (K : List (List UInt8)), K.Pairwise (fun a b => ltN a b = true) → (K.flatMap (toldBy L)).Pairwise LeH := by
   intro K
   induction K with
   | nil => intro _; exact .nil
   | cons n K ih =>
    intro hK
    have hK' := List.pairwise_cons.1 hK
    rw [List.flatMap_cons, List.pairwise_append]
    refine ⟨?_, ih hK'.2, ?_⟩
    ·refine List.pairwise_iff_getElem.2 fun i j hi hj _ => ?_
     show ltN _ _ = false
     rw [toldBy_name (List.getElem_mem hi), toldBy_name (List.getElem_mem hj)]
     exact ltN_irrefl _
    ·intro a ha b hb
     obtain ⟨q, hq, hbq⟩ := List.mem_flatMap.1 hb
     show ltN b.name a.name = false
     rw [toldBy_name ha, toldBy_name hbq]
     exact ltN_asymm (hK'.1 q hq)
  exact this N hN
 ·rw [flat_filter L x N hnd]
  by_cases hx : x ∈ N
  ·rw [if_pos hx]
   by_cases hs : x = scN
   ·subst hs
    rw [hb.cookies, hst scN]
    unfold toldBy lowH
    rw [if_pos rfl, List.filter_map]
    have e1 : L.filter ((fun h => h.name == scN) ∘ lowHd) = L.filter (isN scN) := List.filter_congr fun y _ => by
     show (low y.name == scN) = (low y.name == low scN)
     rw [show low scN = scN by decide]
    rw [e1]
    refine List.map_congr_left fun y hy => ?_
    have := (List.mem_filter.1 hy).2
    rw [isN, beq_iff_eq, show low scN = scN by decide] at this
    show _ = (⟨low y.name, y.value⟩ : Hd)
    rw [this]
   ·obtain ⟨y, hy, e⟩ := (hm x).1 hx
    have hyM : lowHd y ∈ M := by
     have : lowHd y ∈ (lowH L).filter (fun h => h.name == (lowHd y).name) := List.mem_filter.2 ⟨List.mem_map_of_mem hy, by simp⟩
     rw [← hst] at this
     exact (List.mem_filter.1 this).1
    obtain ⟨z, hz, ez⟩ := hb.all _ hyM
    have ez' : z.name = x := ez.trans e
    rw [one_of_strict F.ordered hs hz ez']
    unfold toldBy
    rw [if_neg hs, ← ez', F.valued z hz (by rw [ez']; exact hs)]
  ·rw [if_neg hx]
   refine (List.filter_eq_nil_iff.2 ?_).symm
   intro y hy q
   obtain ⟨z, hz, e⟩ := F.named y hy
   exact hx ((hm x).2 ⟨z, hz, by rw [e]; simpa using q⟩)

end Go.Proofs.YtgoefeaopegdoaaGreatDoor

namespace Go.Proofs.YtgoefeaopegdoaaGreatDoor
open Go.RowKit

def insN (x : List UInt8) : List (List UInt8) → List (List UInt8)
 | [] => [x]
 | y :: t => if ltN y x = true then y :: insN x t else if y = x then y :: t else x :: y :: t

theorem insN_mem (x n : List UInt8) : ∀ O : List (List UInt8), n ∈ insN x O ↔ n = x ∨ n ∈ O
 | [] => by simp [insN]
 | y :: t => by
  have ih := insN_mem x n t
  unfold insN
  split
  ·simp only [List.mem_cons, ih]
   constructor
   ·rintro (h | h | h)
    ·exact .inr (.inl h)
    ·exact .inl h
    ·exact .inr (.inr h)
   ·rintro (h | h | h)
    ·exact .inr (.inl h)
    ·exact .inl h
    ·exact .inr (.inr h)
  ·split
   ·rename_i h
    subst h
    simp only [List.mem_cons]
    constructor
    ·exact .inr
    ·rintro (h | h)
     ·exact .inl h
     ·exact h
   ·simp only [List.mem_cons]

theorem insN_pw (x : List UInt8) : ∀ O : List (List UInt8), O.Pairwise (fun a b => ltN a b = true) → (insN x O).Pairwise (fun a b => ltN a b = true)
 | [], _ => by simp [insN]
 | y :: t, h => by
  have h2 := List.pairwise_cons.1 h
  have ih := insN_pw x t h2.2
  unfold insN
  split
  ·rename_i hlt
   refine List.pairwise_cons.2 ⟨fun z hz => ?_, ih⟩
   rcases (insN_mem x z t).1 hz with rfl | hz
   ·exact hlt
   ·exact h2.1 z hz
  ·rename_i hnl
   split
   ·exact h
   ·rename_i hne
    have hxy : ltN x y = true := by
     rcases ltN_total x y with h3 | h3 | h3
     ·exact h3
     ·exact absurd h3.symm hne
     ·exact absurd h3 hnl
    refine List.pairwise_cons.2 ⟨fun z hz => ?_, h⟩
    rcases List.mem_cons.1 hz with rfl | hz
    ·exact hxy
    ·exact ltN_trans hxy (h2.1 z hz)

def srtN (L : List (List UInt8)) : List (List UInt8) := L.foldl (fun O x => insN x O) []

theorem srtN_snoc (L : List (List UInt8)) (x : List UInt8) : srtN (L ++ [x]) = insN x (srtN L) := by simp [srtN]

theorem srtN_take (L : List (List UInt8)) (k : Nat) (h : k < L.length) : srtN (L.take (k + 1)) = insN L[k] (srtN (L.take k)) := by
 rw [List.take_add_one, List.getElem?_eq_getElem h, ← srtN_snoc]
 rfl

theorem srtN_facts (L : List (List UInt8)) : (srtN L).Pairwise (fun a b => ltN a b = true) ∧ (∀ n, n ∈ srtN L ↔ n ∈ L) ∧ (srtN L).length ≤ L.length := by
 suffices H : ∀ (L O : List (List UInt8)), O.Pairwise (fun a b => ltN a b = true) → (L.foldl (fun O x => insN x O) O).Pairwise (fun a b => ltN a b = true) ∧ (∀ n, n ∈ L.foldl (fun O x => insN x O) O ↔ n ∈ L ∨ n ∈ O) ∧ (L.foldl (fun O x => insN x O) O).length ≤ L.length + O.length by
  obtain ⟨h1, h2, h3⟩ := H L [] List.Pairwise.nil
  exact ⟨h1, fun n => by rw [srtN, h2 n]; simp, h3⟩
 have hlen : ∀ (x : List UInt8) (O : List (List UInt8)), (insN x O).length ≤ O.length + 1 := by
  intro x O
  induction O with
  | nil => simp [insN]
  | cons y t ih =>
   unfold insN
   split
   ·simp; omega
   ·split
    ·simp
    ·simp
 intro L
 induction L with
 | nil => intro O h; exact ⟨h, fun n => by simp, by simp⟩
 | cons x L ih =>
  intro O h
  obtain ⟨h1, h2, h3⟩ := ih (insN x O) (insN_pw x O h)
  refine ⟨h1, fun n => ?_, ?_⟩
  ·rw [List.foldl_cons, h2 n, insN_mem]
   simp only [List.mem_cons]
   constructor
   ·rintro (h | h | h)
    ·exact .inl (.inr h)
    ·exact .inl (.inl h)
    ·exact .inr h
   ·rintro ((h | h) | h)
    ·exact .inr (.inl h)
    ·exact .inl h
    ·exact .inr (.inr h)
  ·rw [List.foldl_cons]
   have := hlen x O
   simp
   omega

theorem insN_at (x : List UInt8) : ∀ (k : Nat) (O : List (List UInt8)), (∀ j (h : j < O.length), j < k → ltN O[j] x = true) → k ≤ O.length → insN x O = O.take k ++ insN x (O.drop k)
 | 0, O, _, _ => by simp
 | k + 1, [], _, hk => by simp at hk
 | k + 1, y :: t, h, hk => by
  have h0 := h 0 (by simp) (by omega)
  simp only [List.getElem_cons_zero] at h0
  rw [insN, if_pos h0]
  rw [insN_at x k t (fun j hj hjk => h (j + 1) (by simpa using hj) (by omega)) (by simpa using hk)]
  simp

theorem insN_end (x : List UInt8) (O : List (List UInt8)) (h : ∀ j (hj : j < O.length), ltN O[j] x = true) : insN x O = O ++ [x] := by
 rw [insN_at x O.length O (fun j hj _ => h j hj) (Nat.le_refl _)]
 simp [insN]

theorem insN_in (x : List UInt8) (O : List (List UInt8)) (k : Nat) (hk : k < O.length) (h : ∀ j (hj : j < O.length), j < k → ltN O[j] x = true) (he : O[k] = x) : insN x O = O := by
 rw [insN_at x k O h (by omega)]
 have : O.drop k = O[k] :: O.drop (k + 1) := List.drop_eq_getElem_cons hk
 rw [this, insN, he, ltN_irrefl]
 simp
 rw [← he, ← this, List.take_append_drop]

theorem insN_mid (x : List UInt8) (O : List (List UInt8)) (k : Nat) (hk : k < O.length) (h : ∀ j (hj : j < O.length), j < k → ltN O[j] x = true) (hn : ltN O[k] x = false) (hne : O[k] ≠ x) : insN x O = O.take k ++ x :: O.drop k := by
 rw [insN_at x k O h (by omega)]
 have : O.drop k = O[k] :: O.drop (k + 1) := List.drop_eq_getElem_cons hk
 rw [this, insN, hn]
 simp [hne]

end Go.Proofs.YtgoefeaopegdoaaGreatDoor

namespace Go.Proofs.YtgoefeaopegdoaaGreatDoor
open Go.RowKit

theorem wpAnyH_to {P : Program} {md : Region.Mode} {ops : Array Oper} {Q : Exit → Act → World → Prop} {S : World → Prop} {fuel fuel' : Nat} {listed listed' : Array Bool} {a : Act} {w : World} (hf : fuel = fuel') (hl : listed = listed') (h : wpAnyH P md ops Q S fuel' listed' a w) : wpAnyH P md ops Q S fuel listed a w := by
 subst hf; subst hl; exact h

end Go.Proofs.YtgoefeaopegdoaaGreatDoor
