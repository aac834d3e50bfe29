/-
  Walks and plain facts that this claim leans on, put together out of 5 texts: Xg, Xh, Xi, Sh, Wj.
-/
import Derived.Test.YtgoefeaopegdoaaGreatDoorProg
import Derived.Test.YtgoefeaopegdoaaGreatDoorQh1
import Derived.WalkKit
import Derived.Lib.Strings
import Derived.Lib.UnsafeStr
import Derived.Laws.IdiomStrings
import Derived.Laws.AppendOwn
import Derived.Laws.BitsAllLaws
import Derived.Lib.Bytealg
import Derived.Lib.BufferMore
import Derived.WalkSpells
import Derived.WalkLawsBesides
import Derived.Lib.SlTrimSet
import Derived.Lib.Join
import Derived.Lib.IndexMore
import Derived.Laws.OwnMore
import Derived.Below
import Derived.WalkSmall
import Derived.Lib.SmallJoins
import Derived.Deep.QuietTactic
import Derived.BigQuiet
import Derived.Deep.LoopGhost
import Derived.Deep.MidRow
import Derived.Shelf.Strings.Builder1
import Derived.Shelf.Strings.Builder2
import Derived.Shelf.Strings.OnBuilder
import Derived.Shelf.Strings.Trim
import Derived.Shelf.Small.Utf8
import Derived.Shelf.Small.Bits
import Derived.Shelf.Small.Strs
import Derived.Shelf.Small.Wraps
import Derived.Shelf.Strings.BuilderF
import Derived.Shelf.Strings.BuilderK
import Derived.Shelf.Strings.BuilderRune
import Derived.Shelf.Utf8.AppendRune
import Derived.Shelf.Utf8.AppendRunePlain
import Derived.Shelf.Strings.Builder2Cap
import Derived.Shelf.Strconv.Itoa0
import Derived.Shelf.Strconv.Itoa1
import Derived.Shelf.LaysM
import Derived.Shelf.Strconv.Itoa2
import Derived.Shelf.Strconv.Itoa3
import Derived.Shelf.Strings.Search1
import Derived.Shelf.Strings.Search2
import Derived.Shelf.Strings.Search3
import Derived.Shelf.Strings.Cut
import Derived.Shelf.Strings.Count
import Derived.Shelf.Strings.Shaped
import Derived.Shelf.Strings.LastIndex
import Derived.Shelf.Strings.Prefix
import Derived.Shelf.Strings.Split
import Derived.Shelf.Strings.Replace
import Derived.Shelf.Strings.Runes
import Derived.Shelf.Strings.IndexAny
import Derived.Shelf.Strings.AsciiSet
import Derived.Shelf.Strings.IndexAnyAll
import Derived.Shelf.Unicode.DecodeSlow
import Derived.Ground.Names2Prog
import Derived.Shelf.Slices.Clone
import Derived.Shelf.Slices.In.SortNone
import Derived.Ground.SlgnProg
import Derived.Shelf.SlicesE.Clone
set_option linter.unusedSimpArgs false
set_option linter.unusedVariables false

namespace Go.Proofs.YtgoefeaopegdoaaGreatDoor
open Go.RowKit

set_option maxHeartbeats 400000 in
theorem spans_any (a b : Int) (w : World) :
  Calls Tryz.prog 95 #[.int .i64 a, .int .i64 b] w fun e w' => e = .returned (.bool (spansI a b)) ∧ w = w' := by
 by_cases h : b < 0
 ·have HS := hid (show spansI a b = decide (0 ≤ a) by rw [spansI, if_pos h])
  go_enter Tryz.func95, Tryz.ntmps95
  go_wp2
  go_ret
  exact ⟨ret_bool HS.out.symm, rfl⟩
 ·have HS := hid (show spansI a b = decide (a ≤ b) by rw [spansI, if_neg h])
  go_enter Tryz.func95, Tryz.ntmps95
  go_wp2
  go_ret
  exact ⟨ret_bool HS.out.symm, rfl⟩

theorem xempty_yes (s : ByteArray) (h : s.data.toList = []) : s.toList.isEmpty = true := by rw [Lib.toList_data, h]; rfl

theorem xempty_no (s : ByteArray) (h : s.data.toList ≠ []) : s.toList.isEmpty = false := by
 rw [Lib.toList_data]
 cases hl : s.data.toList with
 | nil => exact absurd hl h
 | cons a b => rfl

set_option maxHeartbeats 400000 in
theorem bound_any (s : ByteArray) (w : World) (hs : s.size ≤ 140737488351232) :
  Calls Tryz.prog 94 #[.string s] w fun e w' => e = .returned (.tuple #[.int .i64 (bndV s.data.toList), .bool (bndOk s.data.toList)]) ∧ w = w' := by
 by_cases h : s.data.toList = []
 ·have he := xempty_yes s h
  have HS := hid (show bndV s.data.toList = -1 ∧ bndOk s.data.toList = true by rw [h]; exact ⟨rfl, rfl⟩)
  clear h
  go_enter Tryz.func94, Tryz.ntmps94
  go_wp2
  go_ret2
  exact ⟨ret_ib HS.out.1.symm HS.out.2.symm, rfl⟩
 ·have he := xempty_no s h
  have HS := hid (show bndV s.data.toList = intV s.data.toList ∧ bndOk s.data.toList = intOk s.data.toList by
   refine ⟨by rw [bndV, if_neg h], ?_⟩
   unfold bndOk
   rw [show (s.data.toList == []) = false by simpa using h]
   rfl)
  clear h
  go_enter Tryz.func94, Tryz.ntmps94
  go_wp2_with (go_at_call 155; refine (int_any s _ hs).mono ?_; rintro e w' ⟨rfl, rfl⟩)
  go_ret2
  exact ⟨ret_ib HS.out.1.symm HS.out.2.symm, rfl⟩

def riskI (c : Int) : Bool := c == 34 || (c == 40 || (c == 41 || (c == 58 || (c == 60 || (c == 62 || (c == 63 || (c == 64 || (c == 91 || (c == 92 || (c == 93 || (c == 123 || (c == 125 || (c == 127 || (decide (c < 32) && !(c == 9)))))))))))))))

def langI (c : Int) : Bool := c == 32 || (c == 42 || (c == 44 || (c == 45 || (c == 46 || (c == 59 || (c == 61 || (letterI c || digitI c)))))))

def harmV (l : List UInt8) : Bool := l.all fun c => !riskI c.toNat

def langV (l : List UInt8) : Bool := l.all fun c => langI c.toNat

set_option maxHeartbeats 1000000 in
theorem risky_any (c : Int) (w : World) :
  Calls Tryz.prog 159 #[.int .u8 c] w fun e w' => e = .returned (.bool (riskI c)) ∧ w = w' := by
 go_enter Tryz.func159, Tryz.ntmps159
 go_wp2
 all_goals
  go_ret
  exact ⟨ret_bool (by first | (simp [riskI, *]; done) | (rw [Bool.eq_iff_iff]; simp [riskI, *]; done) | (rw [Bool.eq_iff_iff]; simp [riskI, *]; omega)), rfl⟩

set_option maxHeartbeats 1000000 in
theorem languageByte_any (c : Int) (w : World) :
  Calls Tryz.prog 160 #[.int .u8 c] w fun e w' => e = .returned (.bool (langI c)) ∧ w = w' := by
 go_enter Tryz.func160, Tryz.ntmps160
 go_wp2
 all_goals
  go_ret
  exact ⟨ret_bool (by rw [Bool.eq_iff_iff]; simp [langI, letterI, digitI, *]; try omega), rfl⟩

theorem all_stop (p : UInt8 → Bool) (s : ByteArray) (k : Nat) (h : k < s.size) (hp : p s[k] = false) : s.data.toList.all p = false := by
 rw [List.all_eq_false]
 refine ⟨s[k], ?_, by simp [hp]⟩
 have : s[k] = s.data.toList[k]'(by simpa using h) := rfl
 rw [this]; exact List.getElem_mem _

set_option maxHeartbeats 1000000 in
theorem harmless_any (s : ByteArray) (w : World) (hs : s.size ≤ 140737488351232) :
  Calls Tryz.prog 106 #[.string s] w fun e w' => e = .returned (.bool (harmV s.data.toList)) ∧ w = w' := by
 go_enter Tryz.func106, Tryz.ntmps106
 go_wp2
 go_loop [3, 6] (fun x i => ∃ k : Nat, k ≤ s.size ∧ i = .int .i64 k ∧ harmV (s.data.toList.take k) = true) (fun x i => s.size - (intOf i).toNat)
 case atStart => exact ⟨0, Nat.zero_le _, rfl, rfl⟩
 case round =>
  obtain ⟨k, hk, rfl, hall⟩ := hrel
  have HA := hid hall
  clear hall
  by_cases hlt : k < s.size
  ·have HT := hid (take_snoc s k hlt)
   by_cases ht : riskI (s[k].toNat : Int) = false
   ·go_wp2_with (go_at_call 159; refine (risky_any _ _).mono ?_; rintro e w' ⟨rfl, rfl⟩)
    go_round
    case rel => exact ⟨k + 1, by omega, by go_num, by unfold harmV; rw [HT.out, List.all_append]; have := HA.out; unfold harmV at this; rw [this]; simp [ht]⟩
    case measure => simp [intOf]; omega
   ·have ht' : riskI (s[k].toNat : Int) = true := by simpa using ht
    clear ht
    go_wp2_with (go_at_call 159; refine (risky_any _ _).mono ?_; rintro e w' ⟨rfl, rfl⟩)
    go_ret
    exact ⟨ret_bool (all_stop (fun c => !riskI c.toNat) s k hlt (by simp [ht'])).symm, rfl⟩
  ·have ha := HA.out
   rw [take_all s k hlt] at ha
   have HB := hid ha
   clear ha
   go_wp2
   go_ret
   exact ⟨ret_bool HB.out.symm, rfl⟩

set_option maxHeartbeats 1000000 in
theorem languages_any (s : ByteArray) (w : World) (hs : s.size ≤ 140737488351232) :
  Calls Tryz.prog 107 #[.string s] w fun e w' => e = .returned (.bool (langV s.data.toList)) ∧ w = w' := by
 go_enter Tryz.func107, Tryz.ntmps107
 go_wp2
 go_loop [3, 6] (fun x i => ∃ k : Nat, k ≤ s.size ∧ i = .int .i64 k ∧ langV (s.data.toList.take k) = true) (fun x i => s.size - (intOf i).toNat)
 case atStart => exact ⟨0, Nat.zero_le _, rfl, rfl⟩
 case round =>
  obtain ⟨k, hk, rfl, hall⟩ := hrel
  have HA := hid hall
  clear hall
  by_cases hlt : k < s.size
  ·have HT := hid (take_snoc s k hlt)
   by_cases ht : langI (s[k].toNat : Int) = true
   ·go_wp2_with (go_at_call 160; refine (languageByte_any _ _).mono ?_; rintro e w' ⟨rfl, rfl⟩)
    go_round
    case rel => exact ⟨k + 1, by omega, by go_num, by unfold langV; rw [HT.out, List.all_append]; have := HA.out; unfold langV at this; rw [this]; simp [ht]⟩
    case measure => simp [intOf]; omega
   ·have ht' : langI (s[k].toNat : Int) = false := by simpa using ht
    clear ht
    go_wp2_with (go_at_call 160; refine (languageByte_any _ _).mono ?_; rintro e w' ⟨rfl, rfl⟩)
    go_ret
    exact ⟨ret_bool (all_stop (fun c => langI c.toNat) s k hlt (by simp [ht'])).symm, rfl⟩
  ·have ha := HA.out
   rw [take_all s k hlt] at ha
   have HB := hid ha
   clear ha
   go_wp2
   go_ret
   exact ⟨ret_bool HB.out.symm, rfl⟩

end Go.Proofs.YtgoefeaopegdoaaGreatDoor

namespace Go.Proofs.YtgoefeaopegdoaaGreatDoor
open Go.RowKit

theorem list_eq_of {α : Type} {A B : List α} (hl : A.length = B.length) (h : ∀ j (h1 : j < A.length) (h2 : j < B.length), A[j] = B[j]) : A = B :=
 List.ext_getElem hl fun j h1 h2 => h j h1 h2

set_option maxHeartbeats 2000000 in
theorem sameT_any (v1 v2 : Value) (L1 L2 : List (List UInt8)) (w : World) (h1 : TxAt w v1 L1) (h2 : TxAt w v2 L2) (hl1 : L1.length ≤ 1000000) (hl2 : L2.length ≤ 1000000) :
  Calls Tryz.prog 49 #[v1, v2] w fun e w' => e = .returned (.bool (decide (L1 = L2))) ∧ Below w.heap.size w w' := by
 obtain ⟨a1, c1, rfl, hc1, hm1, hv1⟩ := h1.view
 obtain ⟨a2, c2, rfl, hc2, hm2, hv2⟩ := h2.view
 have H1 := hid h1
 have H2 := hid h2
 have V1 := hid hv1
 have V2 := hid hv2
 clear h1 h2 hv1 hv2
 by_cases hl : L1.length = L2.length
 ·have hl' : ((L1.length : Int) == (L2.length : Int)) = true := by rw [beq_iff_eq]; omega
  go_enter Tryz.func49, Tryz.ntmps49
  go_wp2
  go_loopw [5] (fun i wr => ∃ k : Nat, k ≤ L1.length ∧ i = .int .i64 k ∧ (∀ j (h1 : j < L1.length) (h2 : j < L2.length), j < k → L1[j] = L2[j]) ∧ Below w.heap.size w wr) (fun i _ => L1.length - (intOf i).toNat)
  case atStart => exact ⟨0, Nat.zero_le _, rfl, fun j _ _ h => absurd h (by omega), Below.refl _ _⟩
  case round =>
   obtain ⟨k, hk, rfl, hall, hb⟩ := hrel
   have HA := hid hall
   clear hall
   by_cases hlt : k < L1.length
   ·have hlt' : (k : Int) < (L1.length : Int) := by omega
    have hlt2' : (k : Int) < (L2.length : Int) := by omega
    obtain ⟨b1, o1, rfl, e1⟩ := V1.out k hlt
    obtain ⟨b2, o2, rfl, e2⟩ := V2.out k (by omega)
    have f1 : wr.cell? ⟨b1, o1 + k, none⟩ = some (.string ⟨L1[k].toArray⟩) := (hb.cell (World.block_lt_of_cell? w _ e1)).trans e1
    have f2 : wr.cell? ⟨b2, o2 + k, none⟩ = some (.string ⟨(L2[k]'(by omega)).toArray⟩) := (hb.cell (World.block_lt_of_cell? w _ e2)).trans e2
    clear e1 e2
    obtain ⟨x, hx⟩ : ∃ x, x = L1[k] := ⟨_, rfl⟩
    obtain ⟨y, hy⟩ : ∃ y, y = L2[k]'(by omega) := ⟨_, rfl⟩
    rw [← hx] at f1
    rw [← hy] at f2
    have HX := hid hx
    have HY := hid hy
    clear hx hy
    by_cases hxy : x = y
    ·subst hxy
     go_wp2
     go_quiet (fail)
     go_wp2
     go_roundw
     case rel =>
      refine ⟨k + 1, by omega, by go_num, fun j h1 h2 hj => ?_, Go.below_drewN hb _⟩
      by_cases he : j = k
      ·subst he; rw [← HX.out, ← HY.out]
      ·exact HA.out j h1 h2 (by omega)
     case measure => simp [intOf]; omega
    ·have hne : (x == y) = false := by simpa using hxy
     have HN := hid (show ¬ L1 = L2 from fun e => hxy (by rw [HX.out, HY.out]; subst e; rfl))
     go_wp2
     go_quiet (fail)
     go_wp2
     go_ret
     exact ⟨ret_bool (by simp [HN.out]), Go.below_drewN hb _⟩
   ·have HE := hid (show L1 = L2 from list_eq_of hl fun j h1 h2 => HA.out j h1 h2 (by omega))
    go_wp2
    go_ret
    exact ⟨ret_bool (by simp [HE.out]), hb⟩
 ·have hl' : ((L1.length : Int) == (L2.length : Int)) = false := by rw [beq_eq_false_iff_ne]; omega
  have HN := hid (show ¬ L1 = L2 from fun e => hl (by rw [e]))
  go_enter Tryz.func49, Tryz.ntmps49
  go_wp2
  go_ret
  exact ⟨ret_bool (by simp [HN.out]), Below.refl _ _⟩

end Go.Proofs.YtgoefeaopegdoaaGreatDoor

namespace Go.Proofs.YtgoefeaopegdoaaGreatDoor
open Go.RowKit

def hdVal (n v : ByteArray) : Value := .agg #[.string n, .string v]

theorem infoHd : (Tryz.prog.info? 38).map (fun i => (i.zero, i.size, i.bytes)) = some (some (.agg #[.string ByteArray.empty, .string ByteArray.empty]), 2, 32) := by kernel_rfl

theorem infoTx : (Tryz.prog.info? 9).map (fun i => (i.zero, i.size, i.bytes)) = some (some (.string ByteArray.empty), 1, 16) := by kernel_rfl

theorem info3 {i : Option TypeInfo} {z : Value} {a b : Nat} (h : i.map (fun i => (i.zero, i.size, i.bytes)) = some (some z, a, b)) : ∃ j, i = some j ∧ j.zero = some z ∧ j.size = a ∧ j.bytes = b := by
 cases i with
 | none => cases h
 | some j =>
  simp at h
  exact ⟨j, rfl, h.1, h.2.1, h.2.2⟩

theorem results_h1 {fn : Func} {p : Tmp} (h : fn.results = #[.cell p 38]) (tmps : Array Value) (w : World) (b : Nat) (n v : ByteArray) (hp : tmps.getD p undef = .pointer (some ⟨b, 0, none⟩)) (hc : w.rangeAt b 0 [.string n, .string v]) : (results fn tmps).run Tryz.prog w = .ok (hdVal n v) w := by
 rw [Array.getD_eq_getD_getElem?] at hp
 simp only [results, h]
 simp [Sem.run_bind, Result.andThen, hp, asAddr, run_loadVar_mid w b 0 38 [.string n, .string v] _ hc Tryz.underlying38 rfl (by kernel_rfl), hdVal]

set_option maxHeartbeats 400000 in
theorem h_any (n v : ByteArray) (w : World) :
  Calls Tryz.prog 40 #[.string n, .string v] w fun e w' => e = .returned (hdVal n v) ∧ Below w.heap.size w w' := by
 go_enter Tryz.func40, Tryz.ntmps40
 go_wp2
 exact bodyPost_ret (results_h1 rfl _ _ w.heap.size n v rfl (by simp [World.rangeAt, World.cell?_alloc_new, go_sem])) rfl ⟨rfl, (Below.refl _ _).alloc (Nat.le_refl _) _⟩

end Go.Proofs.YtgoefeaopegdoaaGreatDoor

namespace Go.Proofs
open Go.Shelf

def Tryz.lays156_ren : Go.Shelf.Ren := ⟨fun | 156 => 90 | 165 => 151 | 166 => 152 | 169 => 83 | 240 => 135 | 241 => 196 | 276 => 189 | 277 => 230 | n => n, fun | 31 => 32 | 9 => 9 | 3 => 3 | 4 => 4 | 0 => 0 | 20 => 20 | 72 => 115 | 76 => 173 | 70 => 112 | 37 => 113 | 75 => 117 | 127 => 161 | 164 => 199 | 5 => 5 | 80 => 120 | n => n, fun | n => n⟩

theorem Tryz.lays156 : Go.Proofs.Lays.n156 Tryz.prog Tryz.lays156_ren := {
 mixed := by kernel_rfl
 f156 := Tryz.func90.trans (congrArg some (by kernel_rfl))
 f165 := Tryz.func151.trans (congrArg some (by kernel_rfl))
 f166 := Tryz.func152.trans (congrArg some (by kernel_rfl))
 f169 := Tryz.func83.trans (congrArg some (by kernel_rfl))
 f240 := Tryz.func135.trans (congrArg some (by kernel_rfl))
 f241 := Tryz.func196.trans (congrArg some (by kernel_rfl))
 f276 := Tryz.func189.trans (congrArg some (by kernel_rfl))
 f277 := Tryz.func230.trans (congrArg some (by kernel_rfl))
 t0 := Tryz.underlying0
 a0 := Tryz.isAgg0
 z0 := Tryz.sizeOf0
 v0 := Tryz.zeroValue0
 t3 := Tryz.underlying3
 a3 := Tryz.isAgg3
 z3 := Tryz.sizeOf3
 v3 := Tryz.zeroValue3
 t4 := Tryz.underlying4
 a4 := Tryz.isAgg4
 z4 := Tryz.sizeOf4
 v4 := Tryz.zeroValue4
 t9 := Tryz.underlying9
 a9 := Tryz.isAgg9
 z9 := Tryz.sizeOf9
 v9 := Tryz.zeroValue9
 t20 := Tryz.underlying20
 a20 := Tryz.isAgg20
 z20 := Tryz.sizeOf20
 v20 := Tryz.zeroValue20
 t31 := Tryz.underlying32
 a31 := Tryz.isAgg32
 z31 := Tryz.sizeOf32
 v31 := Tryz.zeroValue32
 t37 := Tryz.underlying113
 a37 := Tryz.isAgg113
 z37 := Tryz.sizeOf113
 v37 := Tryz.zeroValue113
 t70 := Tryz.underlying112
 a70 := Tryz.isAgg112
 z70 := Tryz.sizeOf112
 v70 := Tryz.zeroValue112
 t72 := Tryz.underlying115
 a72 := Tryz.isAgg115
 z72 := Tryz.sizeOf115
 v72 := Tryz.zeroValue115
 t75 := Tryz.underlying117
 a75 := Tryz.isAgg117
 z75 := Tryz.sizeOf117
 v75 := Tryz.zeroValue117
 t76 := Tryz.underlying173
 a76 := Tryz.isAgg173
 z76 := Tryz.sizeOf173
 v76 := Tryz.zeroValue173
 t127 := Tryz.underlying161
 a127 := Tryz.isAgg161
 z127 := Tryz.sizeOf161
 v127 := Tryz.zeroValue161
 t164 := Tryz.underlying199
 a164 := Tryz.isAgg199
 z164 := Tryz.sizeOf199
 v164 := Tryz.zeroValue199 }

theorem Tryz.Builder_Extra_156 : Builder.Extra Tryz.prog Tryz.lays156_ren := {
 sizeBuilder := by kernel_rfl
 liesBuilder := by kernel_rfl
 t5 := Tryz.underlying5
 a5 := Tryz.isAgg5
 z5 := Tryz.sizeOf5
 v5 := Tryz.zeroValue5
 infoByte := by kernel_rfl
 cellsByte := by kernel_rfl
 sizeByte := by kernel_rfl
 neB5 := by decide }

open Go.RowKit in
theorem Tryz.strings_Join_none (a : Option Addr) (c : Nat) (sep : ByteArray) (w : World) :
  Calls Tryz.prog 90 #[.slice a 0 c, .string sep] w fun e w' => e = .returned (.string ⟨#[]⟩) ∧ w' = w := Any.strings_Join_none Tryz.lays156 Tryz.Builder_Extra_156 a c sep w

open Go.RowKit in
theorem Tryz.strings_Join (bk o c : Nat) (xs : List ByteArray) (sep : ByteArray) (w : World) (hcells : ∀ (j : Nat) x, xs[j]? = some x → w.cell? ⟨bk, o + j, none⟩ = some (.string x)) (hbk : bk < w.heap.size) (hN : xs.length ≤ 140737488355328) (hcap : xs.length ≤ c) (hlen : (Lib.join (xs.map (·.data.toList)) sep.data.toList).length ≤ 140737488355328) :
  Calls Tryz.prog 90 #[.slice (some ⟨bk, o, none⟩) xs.length c, .string sep] w fun e w' => e = .returned (.string ⟨(Lib.join (xs.map (·.data.toList)) sep.data.toList).toArray⟩) ∧ Below w.heap.size w w' := Any.strings_Join Tryz.lays156 Tryz.Builder_Extra_156 bk o c xs sep w hcells hbk hN hcap hlen

def Tryz.lays160_ren : Go.Shelf.Ren := ⟨fun | 160 => 86 | 232 => 143 | 231 => 142 | 227 => 144 | 234 => 146 | 233 => 145 | 236 => 148 | 235 => 147 | 228 => 190 | 271 => 193 | 151 => 192 | 197 => 191 | 120 => 227 | 152 => 194 | 260 => 226 | 137 => 228 | 119 => 229 | 224 => 221 | 225 => 220 | 217 => 219 | 266 => 255 | n => n, fun | 9 => 9 | 4 => 4 | 3 => 3 | 5 => 5 | 117 => 166 | 116 => 165 | 0 => 0 | 124 => 169 | 21 => 21 | 105 => 202 | 46 => 160 | 119 => 247 | 139 => 250 | 138 => 249 | n => n, fun | 3 => 1 | 4 => 2 | n => n⟩

theorem Tryz.lays160 : Go.Proofs.Lays.n160 Tryz.prog Tryz.lays160_ren := {
 mixed := by kernel_rfl
 f119 := Tryz.func229.trans (congrArg some (by kernel_rfl))
 f120 := Tryz.func227.trans (congrArg some (by kernel_rfl))
 f137 := Tryz.func228.trans (congrArg some (by kernel_rfl))
 f151 := Tryz.func192.trans (congrArg some (by kernel_rfl))
 f152 := Tryz.func194.trans (congrArg some (by kernel_rfl))
 f160 := Tryz.func86.trans (congrArg some (by kernel_rfl))
 f197 := Tryz.func191.trans (congrArg some (by kernel_rfl))
 f217 := Tryz.func219.trans (congrArg some (by kernel_rfl))
 f224 := Tryz.func221.trans (congrArg some (by kernel_rfl))
 f225 := Tryz.func220.trans (congrArg some (by kernel_rfl))
 f227 := Tryz.func144.trans (congrArg some (by kernel_rfl))
 f228 := Tryz.func190.trans (congrArg some (by kernel_rfl))
 f231 := Tryz.func142.trans (congrArg some (by kernel_rfl))
 f232 := Tryz.func143.trans (congrArg some (by kernel_rfl))
 f233 := Tryz.func145.trans (congrArg some (by kernel_rfl))
 f234 := Tryz.func146.trans (congrArg some (by kernel_rfl))
 f235 := Tryz.func147.trans (congrArg some (by kernel_rfl))
 f236 := Tryz.func148.trans (congrArg some (by kernel_rfl))
 f260 := Tryz.func226.trans (congrArg some (by kernel_rfl))
 f266 := Tryz.func255.trans (congrArg some (by kernel_rfl))
 f271 := Tryz.func193.trans (congrArg some (by kernel_rfl))
 t0 := Tryz.underlying0
 a0 := Tryz.isAgg0
 z0 := Tryz.sizeOf0
 v0 := Tryz.zeroValue0
 t3 := Tryz.underlying3
 a3 := Tryz.isAgg3
 z3 := Tryz.sizeOf3
 v3 := Tryz.zeroValue3
 t4 := Tryz.underlying4
 a4 := Tryz.isAgg4
 z4 := Tryz.sizeOf4
 v4 := Tryz.zeroValue4
 t5 := Tryz.underlying5
 a5 := Tryz.isAgg5
 z5 := Tryz.sizeOf5
 v5 := Tryz.zeroValue5
 t9 := Tryz.underlying9
 a9 := Tryz.isAgg9
 z9 := Tryz.sizeOf9
 v9 := Tryz.zeroValue9
 t21 := Tryz.underlying21
 a21 := Tryz.isAgg21
 z21 := Tryz.sizeOf21
 v21 := Tryz.zeroValue21
 t46 := Tryz.underlying160
 a46 := Tryz.isAgg160
 z46 := Tryz.sizeOf160
 v46 := Tryz.zeroValue160
 t105 := Tryz.underlying202
 a105 := Tryz.isAgg202
 z105 := Tryz.sizeOf202
 v105 := Tryz.zeroValue202
 t116 := Tryz.underlying165
 a116 := Tryz.isAgg165
 z116 := Tryz.sizeOf165
 t117 := Tryz.underlying166
 a117 := Tryz.isAgg166
 z117 := Tryz.sizeOf166
 v117 := Tryz.zeroValue166
 t119 := Tryz.underlying247
 a119 := Tryz.isAgg247
 z119 := Tryz.sizeOf247
 t124 := Tryz.underlying169
 a124 := Tryz.isAgg169
 z124 := Tryz.sizeOf169
 v124 := Tryz.zeroValue169
 t138 := Tryz.underlying249
 a138 := Tryz.isAgg249
 z138 := Tryz.sizeOf249
 v138 := Tryz.zeroValue249
 t139 := Tryz.underlying250
 a139 := Tryz.isAgg250
 z139 := Tryz.sizeOf250
 v139 := Tryz.zeroValue250
 g3 := by kernel_rfl
 g4 := by kernel_rfl }

def Tryz.lays119_ren : Go.Shelf.Ren := ⟨fun | 119 => 229 | n => n, fun | 21 => 21 | 4 => 4 | n => n, fun | n => n⟩

theorem Tryz.lays119 : Go.Proofs.Lays.n119 Tryz.prog Tryz.lays119_ren := {
 mixed := by kernel_rfl
 f119 := Tryz.func229.trans (congrArg some (by kernel_rfl))
 t4 := Tryz.underlying4
 a4 := Tryz.isAgg4
 z4 := Tryz.sizeOf4
 v4 := Tryz.zeroValue4
 t21 := Tryz.underlying21
 a21 := Tryz.isAgg21
 z21 := Tryz.sizeOf21
 v21 := Tryz.zeroValue21 }

theorem Tryz.utf8_ValidRune (r : Int) (w : World) :
  Calls Tryz.prog 229 #[.int .i32 r] w fun e w' => e = .returned (.bool (Lib.validRune r)) ∧ w' = w := Any.utf8_ValidRune Tryz.lays119 r w

def Tryz.lays106_ren : Go.Shelf.Ren := ⟨fun | 106 => 157 | 213 => 201 | 265 => 232 | n => n, fun | 9 => 9 | 3 => 3 | n => n, fun | n => n⟩

theorem Tryz.lays106 : Go.Proofs.Lays.n106 Tryz.prog Tryz.lays106_ren := {
 mixed := by kernel_rfl
 f106 := Tryz.func157.trans (congrArg some (by kernel_rfl))
 f213 := Tryz.func201.trans (congrArg some (by kernel_rfl))
 f265 := Tryz.func232.trans (congrArg some (by kernel_rfl))
 t3 := Tryz.underlying3
 a3 := Tryz.isAgg3
 z3 := Tryz.sizeOf3
 v3 := Tryz.zeroValue3
 t9 := Tryz.underlying9
 a9 := Tryz.isAgg9
 z9 := Tryz.sizeOf9
 v9 := Tryz.zeroValue9 }

open Go.RowKit in
theorem Tryz.strings_Compare (a b : ByteArray) (w : World) :
  Calls Tryz.prog 157 #[.string a, .string b] w fun e w' => e = .returned (.int .i64 (Lib.compareBytes a.data.toList b.data.toList)) ∧ w' = w := Any.strings_Compare Tryz.lays106 a b w

def Tryz.lays137_ren : Go.Shelf.Ren := ⟨fun | 137 => 228 | 217 => 219 | 266 => 255 | n => n, fun | 9 => 9 | 5 => 5 | 3 => 3 | n => n, fun | n => n⟩

theorem Tryz.lays137 : Go.Proofs.Lays.n137 Tryz.prog Tryz.lays137_ren := {
 mixed := by kernel_rfl
 f137 := Tryz.func228.trans (congrArg some (by kernel_rfl))
 f217 := Tryz.func219.trans (congrArg some (by kernel_rfl))
 f266 := Tryz.func255.trans (congrArg some (by kernel_rfl))
 t3 := Tryz.underlying3
 a3 := Tryz.isAgg3
 z3 := Tryz.sizeOf3
 v3 := Tryz.zeroValue3
 t5 := Tryz.underlying5
 a5 := Tryz.isAgg5
 z5 := Tryz.sizeOf5
 v5 := Tryz.zeroValue5
 t9 := Tryz.underlying9
 a9 := Tryz.isAgg9
 z9 := Tryz.sizeOf9
 v9 := Tryz.zeroValue9 }

open Go.RowKit in
theorem Tryz.strings_IndexByte (s : ByteArray) (c : Int) (w : World) :
  Calls Tryz.prog 228 #[.string s, .int .u8 c] w fun e w' => e = .returned (.int .i64 (Lib.indexByte s.data.toList c.toNat.toUInt8)) ∧ w' = w := Any.strings_IndexByte Tryz.lays137 s c w

def Tryz.lays103_ren : Go.Shelf.Ren := ⟨fun | 103 => 93 | 210 => 154 | 206 => 158 | n => n, fun | 9 => 9 | 4 => 4 | 24 => 65 | 3 => 3 | n => n, fun | n => n⟩

theorem Tryz.lays103 : Go.Proofs.Lays.n103 Tryz.prog Tryz.lays103_ren := {
 mixed := by kernel_rfl
 f103 := Tryz.func93.trans (congrArg some (by kernel_rfl))
 f206 := Tryz.func158.trans (congrArg some (by kernel_rfl))
 f210 := Tryz.func154.trans (congrArg some (by kernel_rfl))
 t3 := Tryz.underlying3
 a3 := Tryz.isAgg3
 z3 := Tryz.sizeOf3
 v3 := Tryz.zeroValue3
 t4 := Tryz.underlying4
 a4 := Tryz.isAgg4
 z4 := Tryz.sizeOf4
 v4 := Tryz.zeroValue4
 t9 := Tryz.underlying9
 a9 := Tryz.isAgg9
 z9 := Tryz.sizeOf9
 v9 := Tryz.zeroValue9
 t24 := Tryz.underlying65
 a24 := Tryz.isAgg65
 z24 := Tryz.sizeOf65
 v24 := Tryz.zeroValue65 }

open Go.RowKit in
theorem Tryz.strings_CutPrefix (s p : ByteArray) (w : World) :
  Calls Tryz.prog 93 #[.string s, .string p] w fun e w' => e = .returned (.tuple #[.string ⟨(Lib.trimPrefix s.data.toList p.data.toList).toArray⟩, .bool (Lib.hasPrefix s.data.toList p.data.toList)]) ∧ w' = w := Any.strings_CutPrefix Tryz.lays103 s p w

def Tryz.lays145_ren : Go.Shelf.Ren := ⟨fun | 145 => 76 | 220 => 129 | 219 => 183 | 217 => 219 | 225 => 220 | 224 => 221 | 267 => 222 | 266 => 255 | 314 => 256 | n => n, fun | 9 => 9 | 4 => 4 | 59 => 107 | 3 => 3 | 5 => 5 | 46 => 160 | 146 => 245 | 51 => 244 | n => n, fun | 1 => 0 | n => n⟩

theorem Tryz.lays145 : Go.Proofs.Lays.n145 Tryz.prog Tryz.lays145_ren := {
 mixed := by kernel_rfl
 f145 := Tryz.func76.trans (congrArg some (by kernel_rfl))
 f217 := Tryz.func219.trans (congrArg some (by kernel_rfl))
 f219 := Tryz.func183.trans (congrArg some (by kernel_rfl))
 f220 := Tryz.func129.trans (congrArg some (by kernel_rfl))
 f224 := Tryz.func221.trans (congrArg some (by kernel_rfl))
 f225 := Tryz.func220.trans (congrArg some (by kernel_rfl))
 f266 := Tryz.func255.trans (congrArg some (by kernel_rfl))
 f267 := Tryz.func222.trans (congrArg some (by kernel_rfl))
 f314 := Tryz.func256.trans (congrArg some (by kernel_rfl))
 t3 := Tryz.underlying3
 a3 := Tryz.isAgg3
 z3 := Tryz.sizeOf3
 v3 := Tryz.zeroValue3
 t4 := Tryz.underlying4
 a4 := Tryz.isAgg4
 z4 := Tryz.sizeOf4
 v4 := Tryz.zeroValue4
 t5 := Tryz.underlying5
 a5 := Tryz.isAgg5
 z5 := Tryz.sizeOf5
 v5 := Tryz.zeroValue5
 t9 := Tryz.underlying9
 a9 := Tryz.isAgg9
 z9 := Tryz.sizeOf9
 v9 := Tryz.zeroValue9
 t46 := Tryz.underlying160
 a46 := Tryz.isAgg160
 z46 := Tryz.sizeOf160
 v46 := Tryz.zeroValue160
 t51 := Tryz.underlying244
 a51 := Tryz.isAgg244
 z51 := Tryz.sizeOf244
 v51 := Tryz.zeroValue244
 t59 := Tryz.underlying107
 a59 := Tryz.isAgg107
 z59 := Tryz.sizeOf107
 v59 := Tryz.zeroValue107
 t146 := Tryz.underlying245
 a146 := Tryz.isAgg245
 z146 := Tryz.sizeOf245
 v146 := Tryz.zeroValue245
 g1 := by kernel_rfl }

open Go.RowKit Go.Lib in
theorem Tryz.strings_Cut (s sep : ByteArray) (m : Int) (w : World) (hs : s.size < 4294967281) (hm : w.cell? ⟨0, 0, none⟩ = some (.int .i64 m)) :
  Calls Tryz.prog 76 #[.string s, .string sep] w fun e w' => e = .returned (.tuple #[.string ⟨(Lib.cut s.data.toList sep.data.toList).1.toArray⟩, .string ⟨(Lib.cut s.data.toList sep.data.toList).2.1.toArray⟩, .bool (Lib.cut s.data.toList sep.data.toList).2.2]) ∧ ∃ n, w' = w.drewN n := Any.strings_Cut Tryz.lays145 s sep m w hs hm

def Tryz.laysM145_ren : Go.Shelf.Ren := ⟨fun | 145 => 76 | 220 => 129 | 219 => 183 | 217 => 219 | 225 => 220 | 224 => 221 | 267 => 222 | 266 => 255 | 314 => 256 | n => n, fun | 9 => 9 | 4 => 4 | 59 => 107 | 3 => 3 | 5 => 5 | 46 => 160 | 146 => 245 | 51 => 244 | n => n, fun | 1 => 0 | n => n⟩

theorem Tryz.laysM145 : Go.Proofs.LaysM.n145 Tryz.prog Tryz.laysM145_ren := {
 mixed := by kernel_rfl
 f145 := Tryz.func76.trans (congrArg some (by kernel_rfl))
 f217 := Tryz.func219.trans (congrArg some (by kernel_rfl))
 f219 := Tryz.func183.trans (congrArg some (by kernel_rfl))
 f220 := Tryz.func129.trans (congrArg some (by kernel_rfl))
 f224 := Tryz.func221.trans (congrArg some (by kernel_rfl))
 f225 := Tryz.func220.trans (congrArg some (by kernel_rfl))
 f266 := Tryz.func255.trans (congrArg some (by kernel_rfl))
 f267 := Tryz.func222.trans (congrArg some (by kernel_rfl))
 f314 := Tryz.func256.trans (congrArg some (by kernel_rfl))
 t3 := Tryz.underlying3
 a3 := Tryz.isAgg3
 z3 := Tryz.sizeOf3
 v3 := Tryz.zeroValue3
 t4 := Tryz.underlying4
 a4 := Tryz.isAgg4
 z4 := Tryz.sizeOf4
 v4 := Tryz.zeroValue4
 t5 := Tryz.underlying5
 a5 := Tryz.isAgg5
 z5 := Tryz.sizeOf5
 v5 := Tryz.zeroValue5
 t9 := Tryz.underlying9
 a9 := Tryz.isAgg9
 z9 := Tryz.sizeOf9
 v9 := Tryz.zeroValue9
 t46 := Tryz.underlying160
 a46 := Tryz.isAgg160
 z46 := Tryz.sizeOf160
 v46 := Tryz.zeroValue160
 t51 := Tryz.underlying244
 a51 := Tryz.isAgg244
 z51 := Tryz.sizeOf244
 v51 := Tryz.zeroValue244
 t59 := Tryz.underlying107
 a59 := Tryz.isAgg107
 z59 := Tryz.sizeOf107
 v59 := Tryz.zeroValue107
 t146 := Tryz.underlying245
 a146 := Tryz.isAgg245
 z146 := Tryz.sizeOf245
 v146 := Tryz.zeroValue245
 g1 := by kernel_rfl
 i3 := by kernel_rfl
 i4 := by kernel_rfl
 i5 := by kernel_rfl
 i9 := by kernel_rfl
 i46 := by kernel_rfl
 i51 := by kernel_rfl
 i59 := by kernel_rfl
 i146 := by kernel_rfl
 m1 := by kernel_rfl
 s1_3 := fun w h => Go.Proofs.cell_of_shapedOpen_int (zero := #[.int .i64 0]) (t := 3) h (of_decide_eq_true (by kernel_rfl)) (by kernel_rfl) rfl (by kernel_rfl) (by kernel_rfl) Tryz.underlying3 }

def Tryz.lays99_ren : Go.Shelf.Ren := ⟨fun | 99 => 104 | 206 => 158 | n => n, fun | 9 => 9 | 4 => 4 | 3 => 3 | n => n, fun | n => n⟩

theorem Tryz.lays99 : Go.Proofs.Lays.n99 Tryz.prog Tryz.lays99_ren := {
 mixed := by kernel_rfl
 f99 := Tryz.func104.trans (congrArg some (by kernel_rfl))
 f206 := Tryz.func158.trans (congrArg some (by kernel_rfl))
 t3 := Tryz.underlying3
 a3 := Tryz.isAgg3
 z3 := Tryz.sizeOf3
 v3 := Tryz.zeroValue3
 t4 := Tryz.underlying4
 a4 := Tryz.isAgg4
 z4 := Tryz.sizeOf4
 v4 := Tryz.zeroValue4
 t9 := Tryz.underlying9
 a9 := Tryz.isAgg9
 z9 := Tryz.sizeOf9
 v9 := Tryz.zeroValue9 }

open Go.RowKit Go.Lib in
theorem Tryz.strings_HasPrefix (s p : ByteArray) (w : World) :
  Calls Tryz.prog 104 #[.string s, .string p] w fun e w' => e = .returned (.bool (Lib.hasPrefix s.data.toList p.data.toList)) ∧ w' = w := Any.strings_HasPrefix Tryz.lays99 s p w

def Tryz.lays152_ren : Go.Shelf.Ren := ⟨fun | 152 => 194 | 137 => 228 | 119 => 229 | 224 => 221 | 225 => 220 | 217 => 219 | 266 => 255 | n => n, fun | 9 => 9 | 21 => 21 | 3 => 3 | 4 => 4 | 5 => 5 | 0 => 0 | 46 => 160 | n => n, fun | n => n⟩

theorem Tryz.lays152 : Go.Proofs.Lays.n152 Tryz.prog Tryz.lays152_ren := {
 mixed := by kernel_rfl
 f119 := Tryz.func229.trans (congrArg some (by kernel_rfl))
 f137 := Tryz.func228.trans (congrArg some (by kernel_rfl))
 f152 := Tryz.func194.trans (congrArg some (by kernel_rfl))
 f217 := Tryz.func219.trans (congrArg some (by kernel_rfl))
 f224 := Tryz.func221.trans (congrArg some (by kernel_rfl))
 f225 := Tryz.func220.trans (congrArg some (by kernel_rfl))
 f266 := Tryz.func255.trans (congrArg some (by kernel_rfl))
 t0 := Tryz.underlying0
 a0 := Tryz.isAgg0
 z0 := Tryz.sizeOf0
 v0 := Tryz.zeroValue0
 t3 := Tryz.underlying3
 a3 := Tryz.isAgg3
 z3 := Tryz.sizeOf3
 v3 := Tryz.zeroValue3
 t4 := Tryz.underlying4
 a4 := Tryz.isAgg4
 z4 := Tryz.sizeOf4
 v4 := Tryz.zeroValue4
 t5 := Tryz.underlying5
 a5 := Tryz.isAgg5
 z5 := Tryz.sizeOf5
 v5 := Tryz.zeroValue5
 t9 := Tryz.underlying9
 a9 := Tryz.isAgg9
 z9 := Tryz.sizeOf9
 v9 := Tryz.zeroValue9
 t21 := Tryz.underlying21
 a21 := Tryz.isAgg21
 z21 := Tryz.sizeOf21
 v21 := Tryz.zeroValue21
 t46 := Tryz.underlying160
 a46 := Tryz.isAgg160
 z46 := Tryz.sizeOf160
 v46 := Tryz.zeroValue160 }

open Go.RowKit Go.Lib in
theorem Tryz.strings_IndexRune_ascii (s : ByteArray) (r : Int) (w : World) (h0 : 0 ≤ r) (h1 : r < 128) :
  Calls Tryz.prog 194 #[.string s, .int .i32 r] w fun e w' => e = .returned (.int .i64 (Lib.indexByte s.data.toList r.toNat.toUInt8)) ∧ w' = w := Any.strings_IndexRune_ascii Tryz.lays152 s r w h0 h1

def Tryz.lays226_ren : Go.Shelf.Ren := ⟨fun | 226 => 195 | n => n, fun | 3 => 3 | 4 => 4 | n => n, fun | n => n⟩

theorem Tryz.lays226 : Go.Proofs.Lays.n226 Tryz.prog Tryz.lays226_ren := {
 mixed := by kernel_rfl
 f226 := Tryz.func195.trans (congrArg some (by kernel_rfl))
 t3 := Tryz.underlying3
 a3 := Tryz.isAgg3
 z3 := Tryz.sizeOf3
 v3 := Tryz.zeroValue3
 t4 := Tryz.underlying4
 a4 := Tryz.isAgg4
 z4 := Tryz.sizeOf4
 v4 := Tryz.zeroValue4 }

open Go.RowKit Go.Lib in
theorem Tryz.strings_shouldUseASCIISet (n : Int) (w : World) :
  Calls Tryz.prog 195 #[.int .i64 n] w fun e w' => e = .returned (.bool (decide (8 < n))) ∧ w' = w := Any.strings_shouldUseASCIISet Tryz.lays226 n w

def Tryz.lays227_ren : Go.Shelf.Ren := ⟨fun | 227 => 144 | n => n, fun | 9 => 9 | 116 => 165 | 4 => 4 | 0 => 0 | 3 => 3 | 5 => 5 | n => n, fun | n => n⟩

theorem Tryz.lays227 : Go.Proofs.Lays.n227 Tryz.prog Tryz.lays227_ren := {
 mixed := by kernel_rfl
 f227 := Tryz.func144.trans (congrArg some (by kernel_rfl))
 t0 := Tryz.underlying0
 a0 := Tryz.isAgg0
 z0 := Tryz.sizeOf0
 v0 := Tryz.zeroValue0
 t3 := Tryz.underlying3
 a3 := Tryz.isAgg3
 z3 := Tryz.sizeOf3
 v3 := Tryz.zeroValue3
 t4 := Tryz.underlying4
 a4 := Tryz.isAgg4
 z4 := Tryz.sizeOf4
 v4 := Tryz.zeroValue4
 t5 := Tryz.underlying5
 a5 := Tryz.isAgg5
 z5 := Tryz.sizeOf5
 v5 := Tryz.zeroValue5
 t9 := Tryz.underlying9
 a9 := Tryz.isAgg9
 z9 := Tryz.sizeOf9
 v9 := Tryz.zeroValue9
 t116 := Tryz.underlying165
 a116 := Tryz.isAgg165
 z116 := Tryz.sizeOf165 }

open Go.RowKit Go.Lib in
theorem Tryz.strings_makeASCIISet (hv116 : ∀ w, (zeroValue 165).run Tryz.prog w = .ok (.agg (Array.replicate 256 (.bool false))) w) (chars : ByteArray) (w : World) (hs : chars.size < 4294967281) (hascii : ∀ (j : Nat) b, chars.data.toList[j]? = some b → b.toNat < 128) :
  Calls Tryz.prog 144 #[.string chars] w fun e w' => e = .returned (.tuple #[.agg (Lib.setCells chars.data.toList), .bool true]) ∧ w' = w.alloc (.cells (Lib.setCells chars.data.toList) 165) := Any.strings_makeASCIISet Tryz.lays227 hv116 (by kernel_rfl) chars w hs hascii

def Tryz.lays228_ren : Go.Shelf.Ren := ⟨fun | 228 => 190 | n => n, fun | 124 => 169 | 5 => 5 | 4 => 4 | 0 => 0 | 116 => 165 | n => n, fun | n => n⟩

theorem Tryz.lays228 : Go.Proofs.Lays.n228 Tryz.prog Tryz.lays228_ren := {
 mixed := by kernel_rfl
 f228 := Tryz.func190.trans (congrArg some (by kernel_rfl))
 t0 := Tryz.underlying0
 a0 := Tryz.isAgg0
 z0 := Tryz.sizeOf0
 v0 := Tryz.zeroValue0
 t4 := Tryz.underlying4
 a4 := Tryz.isAgg4
 z4 := Tryz.sizeOf4
 v4 := Tryz.zeroValue4
 t5 := Tryz.underlying5
 a5 := Tryz.isAgg5
 z5 := Tryz.sizeOf5
 v5 := Tryz.zeroValue5
 t116 := Tryz.underlying165
 a116 := Tryz.isAgg165
 z116 := Tryz.sizeOf165
 t124 := Tryz.underlying169
 a124 := Tryz.isAgg169
 z124 := Tryz.sizeOf169
 v124 := Tryz.zeroValue169 }

open Go.RowKit Go.Lib in
theorem Tryz.asciiSet_contains (b : Nat) (x : UInt8) (v : Bool) (w : World) (hc : w.cell? ⟨b, x.toNat, none⟩ = some (.bool v)) :
  Calls Tryz.prog 190 #[.pointer (some ⟨b, 0, none⟩), .int .u8 x.toNat] w fun e w' => e = .returned (.bool v) ∧ w' = w := Any.asciiSet_contains Tryz.lays228 b x v w hc

end Go.Proofs

namespace Go.Proofs.YtgoefeaopegdoaaGreatDoor
open Go.RowKit

theorem ret_str {l : List UInt8} {t : ByteArray} (h : t.data.toList = l) : Ending.returned (.string t) = .returned (.string ⟨l.toArray⟩) := by
 rw [← h]

theorem strip_extract (s : ByteArray) (k m : Nat) (hkm : k ≤ m) (hm : m ≤ s.size) (hA : (s.data.toList.take k).all blC = true) (hB : (s.data.toList.drop m).all blC = true)
  (h : k = m ∨ ∃ h1 : k < s.size, ∃ h2 : m - 1 < s.size, k < m ∧ blankI (s[k].toNat : Int) = false ∧ blankI (s[m - 1].toNat : Int) = false) : (s.extract k m).data.toList = strip s.data.toList := by
 rw [Lib.extract_data, strip_between s.data.toList k m hkm (by simpa using hm) hA hB ?_, List.drop_take]
 rcases h with h | ⟨h1, h2, h3, c1, c2⟩
 ·exact .inl h
 ·exact .inr ⟨by simpa using h1, by simpa using h2, h3, c1, c2⟩

set_option maxHeartbeats 1000000 in
theorem strip_any (s : ByteArray) (w : World) (hs : s.size ≤ 140737488351232) :
  Calls Tryz.prog 161 #[.string s] w fun e w' => e = .returned (.string ⟨(strip s.data.toList).toArray⟩) ∧ w = w' := by
 go_enter Tryz.func161, Tryz.ntmps161
 go_wp2
 go_loop [3] (fun f => ∃ k : Nat, k ≤ s.size ∧ f = .int .i64 k ∧ (s.data.toList.take k).all blC = true) (fun f => s.size - (intOf f).toNat)
 case atStart => exact ⟨0, Nat.zero_le _, rfl, rfl⟩
 case round =>
  obtain ⟨k, hk, rfl, hall⟩ := hrel
  have HA := hid hall
  clear hall
  by_cases hc : ∃ hlt : k < s.size, blankI (s[k].toNat : Int) = true
  ·obtain ⟨hlt, hbl⟩ := hc
   have HT := hid (take_snoc s k hlt)
   go_wp2_with (go_at_call 202; refine (blank_any _ _).mono ?_; rintro e w' ⟨rfl, rfl⟩)
   go_round
   case rel => exact ⟨k + 1, by omega, by go_num, by rw [HT.out, List.all_append, HA.out]; simp [blC, hbl]⟩
   case measure => simp [intOf]; omega
  ·have hkN : k = s.size ∨ ∃ hlt : k < s.size, blankI (s[k].toNat : Int) = false := by
    by_cases hlt : k < s.size
    ·right; exact ⟨hlt, by
      have := fun h => hc ⟨hlt, h⟩
      simpa using this⟩
    ·left; omega
   have HK := hid hkN
   clear hc
   have hsplit : (k < s.size → False) ∨ ∃ hlt : k < s.size, blankI (s[k].toNat : Int) = false := by
    rcases hkN with h | h
    ·left; intro; omega
    ·right; exact h
   clear hkN
   rcases hsplit with hge | ⟨hlt, hbl⟩
   ·have hge : ¬ k < s.size := hge
    obtain rfl : k = s.size := by omega
    go_wp2
    go_loop [4] (fun t => ∃ m : Nat, s.size ≤ m ∧ m ≤ s.size ∧ t = .int .i64 m ∧ (s.data.toList.drop m).all blC = true) (fun t => (intOf t).toNat)
    case atStart => exact ⟨s.size, Nat.le_refl _, Nat.le_refl _, rfl, by rw [drop_none s s.size (by omega)]; rfl⟩
    case round =>
     obtain ⟨m, hkm, hm, rfl, hallB⟩ := hrel
     have HB := hid hallB
     clear hallB
     by_cases hkm2 : s.size < m
     ·exact absurd hkm2 (by omega)
     ·obtain rfl : m = s.size := by omega
      go_wp2
      go_ret
      refine ⟨ret_str (by have := strip_extract s s.size s.size (Nat.le_refl _) (by omega) HA.out HB.out (.inl rfl); simpa using this), rfl⟩
   ·go_wp2_with (go_at_call 202; refine (blank_any _ _).mono ?_; rintro e w' ⟨rfl, rfl⟩)
    go_loop [4] (fun t => ∃ m : Nat, k ≤ m ∧ m ≤ s.size ∧ t = .int .i64 m ∧ (s.data.toList.drop m).all blC = true) (fun t => (intOf t).toNat)
    case atStart => exact ⟨s.size, by omega, Nat.le_refl _, rfl, by rw [drop_none s s.size (by omega)]; rfl⟩
    case round =>
     obtain ⟨m, hkm, hm, rfl, hallB⟩ := hrel
     have HB := hid hallB
     clear hallB
     by_cases hkm2 : k < m
     ·obtain ⟨q, rfl⟩ : ∃ q, m = q + 1 := ⟨m - 1, by omega⟩
      have hq : q < s.size := by omega
      have HD := hid (drop_cons s q hq)
      by_cases hbq : blankI (s[q].toNat : Int) = true
      ·go_wp2_with (go_at_call 202; refine (blank_any _ _).mono ?_; rintro e w' ⟨rfl, rfl⟩)
       go_round
       case rel => exact ⟨q, by omega, by omega, by go_num, by rw [HD.out, List.all_cons, HB.out]; simp [blC, hbq]⟩
       case measure => simp [intOf]
      ·have hbq' : blankI (s[q].toNat : Int) = false := by simpa using hbq
       clear hbq
       go_wp2_with (go_at_call 202; refine (blank_any _ _).mono ?_; rintro e w' ⟨rfl, rfl⟩)
       go_ret
       refine ⟨ret_str (strip_extract s k (q + 1) (by omega) (by omega) HA.out HB.out (.inr ⟨hlt, hq, by omega, hbl, hbq'⟩)), rfl⟩
     ·obtain rfl : m = k := by omega
      go_wp2
      go_ret
      refine ⟨ret_str (by have := strip_extract s m m (Nat.le_refl _) (by omega) HA.out HB.out (.inl rfl); simpa using this), rfl⟩

end Go.Proofs.YtgoefeaopegdoaaGreatDoor
