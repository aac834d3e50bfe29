/-
  Walks and plain facts that this claim leans on, put together out of 7 texts: Xc, Xi, Xj, Yts, Ewk, Wm, Yp.
-/
import Derived.Test.YtmhooefajdndjaaGreatDoorProg
import Derived.Test.YtmhooefajdndjaaGreatDoorQa1
import Derived.Test.YtmhooefajdndjaaGreatDoorQa2
import Derived.Test.YtmhooefajdndjaaGreatDoorQa3
import Derived.Test.YtmhooefajdndjaaGreatDoorQa4
import Derived.Test.YtmhooefajdndjaaGreatDoorQa5
import Derived.Test.YtmhooefajdndjaaGreatDoorQa6
import Derived.Test.YtmhooefajdndjaaGreatDoorQa7
import Derived.Test.YtmhooefajdndjaaGreatDoorQa8
import Derived.Test.YtmhooefajdndjaaGreatDoorQa9
import Derived.Test.YtmhooefajdndjaaGreatDoorQa10
import Derived.Test.YtmhooefajdndjaaGreatDoorQa11
import Derived.Test.YtmhooefajdndjaaGreatDoorQa12
import Derived.Test.YtmhooefajdndjaaGreatDoorQa13
import Derived.Test.YtmhooefajdndjaaGreatDoorQa14
import Derived.Test.YtmhooefajdndjaaGreatDoorQa15
import Derived.Test.YtmhooefajdndjaaGreatDoorQa16
import Derived.Test.YtmhooefajdndjaaGreatDoorQa17
import Derived.Test.YtmhooefajdndjaaGreatDoorQa18
import Derived.Test.YtmhooefajdndjaaGreatDoorQa19
import Derived.Test.YtmhooefajdndjaaGreatDoorQa20
import Derived.Test.YtmhooefajdndjaaGreatDoorQa21
import Derived.Test.YtmhooefajdndjaaGreatDoorQa22
import Derived.Test.YtmhooefajdndjaaGreatDoorQa23
import Derived.Test.YtmhooefajdndjaaGreatDoorQa24
import Derived.Test.YtmhooefajdndjaaGreatDoorQa25
import Derived.Test.YtmhooefajdndjaaGreatDoorQa26
import Derived.Test.YtmhooefajdndjaaGreatDoorQa27
import Derived.Test.YtmhooefajdndjaaGreatDoorQa28
import Derived.Test.YtmhooefajdndjaaGreatDoorQn1
import Derived.WalkKit
import Derived.Lib.Strings
import Derived.Lib.UnsafeStr
import Derived.Laws.IdiomStrings
import Derived.Laws.AppendOwn
import Derived.Lib.BufferMore
import Derived.Lib.SlTrimSet
import Derived.Lib.Join
import Derived.Lib.IndexMore
import Derived.Laws.OwnMore
import Derived.Below
import Derived.WalkSmall
import Derived.Lib.SmallJoins
import Derived.Laws.BitsAllLaws
import Derived.Lib.Bytealg
import Derived.WalkSpells
import Derived.WalkLawsBesides
import Derived.Deep.QuietTactic
import Derived.BigQuiet
import Derived.Deep.LoopGhost
import Derived.Deep.MidRow
import Derived.Shelf.Strings.Builder1
import Derived.Shelf.Strings.Builder2
import Derived.Shelf.Strings.OnBuilder
import Derived.Shelf.Strings.Trim
import Derived.Shelf.Small.Utf8
import Derived.Shelf.Small.Strs
import Derived.Shelf.Small.Wraps
import Derived.Shelf.Strings.BuilderF
import Derived.Shelf.Strings.BuilderK
import Derived.Shelf.Strings.BuilderRune
import Derived.Shelf.Utf8.AppendRune
import Derived.Shelf.Utf8.AppendRunePlain
import Derived.Shelf.Strings.Builder2Cap
import Derived.Shelf.Strconv.Itoa0
import Derived.Shelf.Strconv.Itoa1
import Derived.Shelf.LaysM
import Derived.Shelf.Strconv.Itoa2
import Derived.Shelf.Strconv.Itoa3
import Derived.Shelf.Strings.Search1
import Derived.Shelf.Strings.Search2
import Derived.Shelf.Strings.Search3
import Derived.Shelf.Strings.Cut
import Derived.Shelf.Strings.Count
import Derived.Shelf.Strings.Shaped
import Derived.Shelf.Strings.LastIndex
import Derived.Shelf.Strings.Prefix
import Derived.Shelf.Strings.Split
import Derived.Shelf.Strings.Replace
import Derived.Shelf.Strings.Runes
import Derived.Shelf.Strings.IndexAny
import Derived.Shelf.Strings.AsciiSet
import Derived.Shelf.Strings.IndexAnyAll
import Derived.Shelf.Unicode.DecodeSlow
import Derived.Ground.Names2Prog
import Derived.Shelf.Slices.Clone
import Derived.Ground.SlgnProg
import Derived.Shelf.SlicesE.Clone
import Derived.Shelf.Strings.SlTrimAscii
import Derived.Lib.LastIndexByte
import Derived.Lib.BufferRead
import Derived.Lib.RuneBytes
import Derived.Laws.RangeAny
import Derived.LoopN
import Derived.RegionTactic
import Derived.Deep.RegionWith
import Derived.OwnWalk
import Derived.Deep.RegionLaw
import Derived.BigRegion
import Derived.Laws.AppendOwnNone
import Derived.Deep.Cut
import Derived.Scope
import Derived.ScopeJumps
import Derived.WalkMore
import Derived.Lib.IndexAny
import Derived.Lib.Replace
import Derived.Lib.TrimByte
import Derived.Lib.ItoaNum
import Derived.Lib.DecodeN
import Derived.Lib.OthersKept
import Derived.Laws.BytesString
import Derived.Deep.WholeRow
import Derived.Lib.AppendStr
import Derived.Deep.RegionHeld
import Derived.Lib.AppendIntMem
import Derived.Laws.CopyOwn
import Derived.Laws.ResultCell
import Derived.Lib.FrozenHead2
import Derived.Lib.Builder
import Derived.Laws.Runes
set_option linter.unusedSimpArgs false
set_option linter.unusedVariables false

namespace Go.Proofs.YtmhooefajdndjaaGreatDoor
open Go.RowKit

def cellsT (L : List (List UInt8)) : List Value := L.map fun x => Value.string ⟨x.toArray⟩

def cellsH (L : List Hd) : List Value := L.flatMap fun h => [.string ⟨h.name.toArray⟩, .string ⟨h.value.toArray⟩]

theorem cellsH_app (a b : List Hd) : cellsH (a ++ b) = cellsH a ++ cellsH b := by simp [cellsH]

theorem cellsH_at (L : List Hd) : ∀ j (h : j < L.length), (cellsH L)[j * 2]? = some (.string ⟨L[j].name.toArray⟩) ∧ (cellsH L)[j * 2 + 1]? = some (.string ⟨L[j].value.toArray⟩) := by
 induction L with
 | nil => intro j h; simp at h
 | cons a L ih =>
  intro j h
  have e : cellsH (a :: L) = Value.string ⟨a.name.toArray⟩ :: Value.string ⟨a.value.toArray⟩ :: cellsH L := rfl
  cases j with
  | zero => rw [e]; exact ⟨rfl, rfl⟩
  | succ j =>
   have := ih j (by simpa using h)
   rw [e, show (j + 1) * 2 = j * 2 + 1 + 1 by omega]
   simpa using this

theorem tx_of {w : World} {b off cap : Nat} {L : List (List UInt8)} (h1 : L.length ≤ cap) (h2 : cap ≤ maxLen) (h : TxL w b off L) : TxAt w (.slice (some ⟨b, off, none⟩) L.length cap) L :=
 ⟨_, cap, rfl, h1, h2, fun j hj => ⟨b, off, rfl, h j hj⟩⟩

theorem hd_of {w : World} {b off cap : Nat} {L : List Hd} (h1 : L.length ≤ cap) (h2 : cap ≤ maxLen) (h : HdS w b off L) : HdAt w (.slice (some ⟨b, off, none⟩) L.length cap) L :=
 ⟨_, cap, rfl, h1, h2, fun j hj => ⟨b, off, rfl, h j hj⟩⟩

theorem hd_nil (w : World) : HdAt w (.slice none 0 0) [] := ⟨none, 0, rfl, Nat.le_refl _, by decide, fun j hj => by simp at hj⟩

theorem own_txt' {w : World} {B : Nat} {e : TypeId} {v : Value} {L : List (List UInt8)} (h : w.ownsRow B e 1 v L.length (cellsT L)) : TxAt w v L := by
 have h2 := h.2
 rcases h2 with ⟨hv, hn⟩ | ⟨g, cap, cur, rfl, hg, hrow, hnc, hcm, hcs, htake⟩
 ·obtain rfl := List.eq_nil_of_length_eq_zero hn
  rw [hv]; exact tx_nil w
 ·refine tx_of hnc hcm fun j hj => ?_
  rw [Nat.zero_add, h.cellAt j (by omega)]
  simp [cellsT, hj]

theorem own_hd {w : World} {B : Nat} {e : TypeId} {v : Value} {L : List Hd} (h : w.ownsRow B e 2 v L.length (cellsH L)) : HdAt w v L := by
 have h2 := h.2
 rcases h2 with ⟨hv, hn⟩ | ⟨g, cap, cur, rfl, hg, hrow, hnc, hcm, hcs, htake⟩
 ·obtain rfl := List.eq_nil_of_length_eq_zero hn
  rw [hv]; exact hd_nil w
 ·refine hd_of hnc hcm fun j hj => ?_
  rw [Nat.zero_add, h.cellAt _ (by omega), h.cellAt _ (by omega)]
  exact cellsH_at L j hj

theorem own_same {w w' : World} {B : Nat} {e : TypeId} {k : Nat} {v : Value} {n : Nat} {xs : List Value} (h : w.ownsRow B e k v n xs) (hb : Below w.heap.size w w') : w'.ownsRow B e k v n xs := by
 rcases h.2 with h' | ⟨g, cap, cur, hv, hg, hrow, rest⟩
 ·exact ⟨h.1, .inl h'⟩
 ·exact ⟨h.1, .inr ⟨g, cap, cur, hv, hg, (hb.block g (Array.getElem?_eq_some_iff.1 hrow).1).trans hrow, rest⟩⟩

end Go.Proofs.YtmhooefajdndjaaGreatDoor

namespace Go.Proofs.YtmhooefajdndjaaGreatDoor
open Go.RowKit

theorem info3 {i : Option TypeInfo} {z : Value} {a b : Nat} (h : i.map (fun i => (i.zero, i.size, i.bytes)) = some (some z, a, b)) : ∃ j, i = some j ∧ j.zero = some z ∧ j.size = a ∧ j.bytes = b := by
 cases i with
 | none => cases h
 | some j =>
  simp at h
  exact ⟨j, rfl, h.1, h.2.1, h.2.2⟩

end Go.Proofs.YtmhooefajdndjaaGreatDoor

namespace Go.Proofs.YtmhooefajdndjaaGreatDoor
open Go.RowKit

theorem join5_any (v : Value) (L : List (List UInt8)) (sep : ByteArray) (w : World) (h : TxAt w v L) (hl : L.length ≤ 140737488355328) (hf : (Lib.join L sep.data.toList).length ≤ 140737488355328) :
  Calls Tryz.prog 42 #[v, .string sep] w fun e w' => e = .returned (.string ⟨(Lib.join L sep.data.toList).toArray⟩) ∧ Below w.heap.size w w' := by
 obtain ⟨a, cap, rfl, h3, h4, h5⟩ := h
 by_cases h0 : L = []
 ·subst h0
  refine (Tryz.strings_Join_none a cap sep w).mono ?_
  rintro e w' ⟨rfl, rfl⟩
  exact ⟨rfl, Below.refl _ _⟩
 ·have hl0 : 0 < L.length := List.length_pos_iff.2 h0
  obtain ⟨b, off, rfl, c0⟩ := h5 0 hl0
  have h2 : b < w.heap.size := World.block_lt_of_cell? w _ c0
  have e1 : (L.map fun x => (⟨x.toArray⟩ : ByteArray)).map (·.data.toList) = L := by
   rw [List.map_map]
   exact List.map_id L
  have hj := Tryz.strings_Join b off cap (L.map fun x => (⟨x.toArray⟩ : ByteArray)) sep w ?_ h2 (by simp; omega) (by simp; omega) ?_
  ·rw [e1, List.length_map] at hj
   exact hj
  ·intro j x hx
   rw [List.getElem?_map] at hx
   obtain ⟨y, hy, rfl⟩ := Option.map_eq_some_iff.1 hx
   obtain ⟨hj, e⟩ := List.getElem?_eq_some_iff.1 hy
   obtain ⟨b', off', e', c'⟩ := h5 j hj
   cases e'
   rw [c', e]
  ·rw [e1]; omega

end Go.Proofs.YtmhooefajdndjaaGreatDoor

namespace Go.Proofs.YtmhooefajdndjaaGreatDoor
open Go.RowKit

def sufA : List UInt8 := [46, 99, 111, 46, 117, 107]

def sufB : List UInt8 := [46, 99, 111, 109, 46, 97, 117]

def sufC : List UInt8 := [46, 103, 105, 116, 104, 117, 98, 46, 105, 111]

def sufV (h : List UInt8) : Nat := if Lib.hasSuffix h sufA || Lib.hasSuffix h sufB || Lib.hasSuffix h sufC then 2 else 1

set_option maxHeartbeats 4000000 in
set_option maxRecDepth 20000 in
theorem suffix_any (h : ByteArray) (w : World) (hh : h.size ≤ 9223372036854775807) :
  Calls Tryz.prog 41 #[.string h] w fun e w' => e = .returned (.int .i64 (sufV h.data.toList : Nat)) ∧ w = w' := by
 have HS := hid (fun (p : ByteArray) (w : World) => Tryz.strings_HasSuffix h p w hh)
 have hix0 : ∀ w : World, Sem.run Tryz.prog (Instr.index 87 (.agg #[.string ⟨#[99, 111, 46, 117, 107]⟩, .string ⟨#[99, 111, 109, 46, 97, 117]⟩, .string ⟨#[103, 105, 116, 104, 117, 98, 46, 105, 111]⟩]) (.int .i64 0)) w = .ok (.string ⟨#[99, 111, 46, 117, 107]⟩) w := fun _ => by kernel_rfl
 have hix1 : ∀ w : World, Sem.run Tryz.prog (Instr.index 87 (.agg #[.string ⟨#[99, 111, 46, 117, 107]⟩, .string ⟨#[99, 111, 109, 46, 97, 117]⟩, .string ⟨#[103, 105, 116, 104, 117, 98, 46, 105, 111]⟩]) (.int .i64 1)) w = .ok (.string ⟨#[99, 111, 109, 46, 97, 117]⟩) w := fun _ => by kernel_rfl
 have hix2 : ∀ w : World, Sem.run Tryz.prog (Instr.index 87 (.agg #[.string ⟨#[99, 111, 46, 117, 107]⟩, .string ⟨#[99, 111, 109, 46, 97, 117]⟩, .string ⟨#[103, 105, 116, 104, 117, 98, 46, 105, 111]⟩]) (.int .i64 2)) w = .ok (.string ⟨#[103, 105, 116, 104, 117, 98, 46, 105, 111]⟩) w := fun _ => by kernel_rfl
 obtain ⟨D1, hD1⟩ : ∃ D : ByteArray, (⟨#[46]⟩ : ByteArray) ++ (⟨#[99, 111, 46, 117, 107]⟩ : ByteArray) = D := ⟨_, rfl⟩
 have hd1 : D1.data.toList = sufA := by rw [← hD1, ByteArray.data_append, Array.toList_append]; rfl
 obtain ⟨D2, hD2⟩ : ∃ D : ByteArray, (⟨#[46]⟩ : ByteArray) ++ (⟨#[99, 111, 109, 46, 97, 117]⟩ : ByteArray) = D := ⟨_, rfl⟩
 have hd2 : D2.data.toList = sufB := by rw [← hD2, ByteArray.data_append, Array.toList_append]; rfl
 obtain ⟨D3, hD3⟩ : ∃ D : ByteArray, (⟨#[46]⟩ : ByteArray) ++ (⟨#[103, 105, 116, 104, 117, 98, 46, 105, 111]⟩ : ByteArray) = D := ⟨_, rfl⟩
 have hd3 : D3.data.toList = sufC := by rw [← hD3, ByteArray.data_append, Array.toList_append]; rfl
 have HV := hid (show sufV h.data.toList = if Lib.hasSuffix h.data.toList sufA || Lib.hasSuffix h.data.toList sufB || Lib.hasSuffix h.data.toList sufC then 2 else 1 from rfl)
 obtain ⟨q1, e1⟩ : ∃ q, Lib.hasSuffix h.data.toList sufA = q := ⟨_, rfl⟩
 obtain ⟨q2, e2⟩ : ∃ q, Lib.hasSuffix h.data.toList sufB = q := ⟨_, rfl⟩
 obtain ⟨q3, e3⟩ : ∃ q, Lib.hasSuffix h.data.toList sufC = q := ⟨_, rfl⟩
 rw [e1, e2, e3] at HV
 have H1' : Hid (∀ w, Calls Tryz.prog 69 #[.string h, .string D1] w fun e w' => e = .returned (.bool q1) ∧ w' = w) := fun w => by rw [← e1, ← hd1]; exact HS.out D1 w
 have H2' : Hid (∀ w, Calls Tryz.prog 69 #[.string h, .string D2] w fun e w' => e = .returned (.bool q2) ∧ w' = w) := fun w => by rw [← e2, ← hd2]; exact HS.out D2 w
 have H3' : Hid (∀ w, Calls Tryz.prog 69 #[.string h, .string D3] w fun e w' => e = .returned (.bool q3) ∧ w' = w) := fun w => by rw [← e3, ← hd3]; exact HS.out D3 w
 clear HS e1 e2 e3 hd1 hd2 hd3
 obtain ⟨V, hV⟩ : ∃ V, sufV h.data.toList = V := ⟨_, rfl⟩
 rw [hV] at HV ⊢
 clear hV
 go_enter Tryz.func41, Tryz.ntmps41
 go_wp2_with fail
 go_loop [6] (fun i => (i = .int .i64 0) ∨ (i = .int .i64 1 ∧ q1 = false) ∨ (i = .int .i64 2 ∧ q1 = false ∧ q2 = false) ∨ (i = .int .i64 3 ∧ q1 = false ∧ q2 = false ∧ q3 = false)) (fun i => 3 - (intOf i).toNat)
 case atStart => exact .inl rfl
 case round =>
  rcases hrel with rfl | ⟨rfl, rfl⟩ | ⟨rfl, rfl, rfl⟩ | ⟨rfl, rfl, rfl, rfl⟩
  ·cases q1 with
   | true =>
    go_wp2_with fail
    refine (H1'.out _).mono ?_
    rintro e w' ⟨rfl, rfl⟩
    go_wp2
    go_ret
    exact ⟨by rw [HV.out]; rfl, rfl⟩
   | false =>
    go_wp2_with fail
    refine (H1'.out _).mono ?_
    rintro e w' ⟨rfl, rfl⟩
    go_wp2
    go_round
    case rel => exact .inr (.inl ⟨by first | rfl | trivial, by first | rfl | trivial⟩)
    case measure => simp [intOf]
  ·cases q2 with
   | true =>
    go_wp2_with fail
    refine (H2'.out _).mono ?_
    rintro e w' ⟨rfl, rfl⟩
    go_wp2
    go_ret
    exact ⟨by rw [HV.out]; rfl, rfl⟩
   | false =>
    go_wp2_with fail
    refine (H2'.out _).mono ?_
    rintro e w' ⟨rfl, rfl⟩
    go_wp2
    go_round
    case rel => exact .inr (.inr (.inl ⟨by first | rfl | trivial, by first | rfl | trivial, by first | rfl | trivial⟩))
    case measure => simp [intOf]
  ·cases q3 with
   | true =>
    go_wp2_with fail
    refine (H3'.out _).mono ?_
    rintro e w' ⟨rfl, rfl⟩
    go_wp2
    go_ret
    exact ⟨by rw [HV.out]; rfl, rfl⟩
   | false =>
    go_wp2_with fail
    refine (H3'.out _).mono ?_
    rintro e w' ⟨rfl, rfl⟩
    go_wp2
    go_round
    case rel => exact .inr (.inr (.inr ⟨by first | rfl | trivial, by first | rfl | trivial, by first | rfl | trivial, by first | rfl | trivial⟩))
    case measure => simp [intOf]
  ·go_wp2
   go_ret
   exact ⟨by rw [HV.out]; rfl, rfl⟩

end Go.Proofs.YtmhooefajdndjaaGreatDoor

namespace Go.Proofs.YtmhooefajdndjaaGreatDoor
open Go.RowKit

def ofT (s : List UInt8) : Org := orgV (adrOf (urlV s))

set_option maxHeartbeats 8000000 in
set_option maxRecDepth 100000 in
theorem of4_any (S : ByteArray) (w : World) (hg : Gd w) (hs : S.size ≤ 9223372036854775807) :
  Calls Tryz.prog 11 #[.string S] w fun e w' => e = .returned (orgVal (ofT S.data.toList)) ∧ Below w.heap.size w w' := by
 have HU := hid (fun w => url_k S w hs)
 have ht : TrOk (adrOf (urlV S.data.toList)) := tr_read _
 have HOf := hid (fun (pv : Value) (X : World) (hX : Gd X) (hp : PathAt X pv (adrOf (urlV S.data.toList)).path) => of_any (adrOf (urlV S.data.toList)) pv X hX hp ht.1 ht.2.1)
 unfold ofT
 generalize urlV S.data.toList = ru at HU HOf ⊢
 unfold UPost at HU
 unfold OfPost at HOf
 generalize adrOf ru = A at HU HOf ⊢
 obtain ⟨O, hO⟩ : ∃ O, orgV A = O := ⟨_, rfl⟩
 rw [hO] at HOf ⊢
 obtain ⟨sa, ah, ap, ao⟩ := O
 obtain ⟨AS, rfl⟩ : ∃ X : ByteArray, sa = X.data.toList := ⟨⟨sa.toArray⟩, rfl⟩
 obtain ⟨AH, rfl⟩ : ∃ X : ByteArray, ah = X.data.toList := ⟨⟨ah.toArray⟩, rfl⟩
 have hval : orgVal ⟨AS.data.toList, AH.data.toList, ap, ao⟩ = .agg #[.string AS, .string AH, .int .i64 ap, .bool ao] := rfl
 have HVal := hid hval
 rw [hval] at HOf
 have HG := hid hg
 have h0 : OrgIn (w.alloc (.cells (orgCells Org.nil).toArray 24)) w.heap.size Org.nil := heap_alloc_new w _
 have hb0 : Below w.heap.size w (w.alloc (.cells (orgCells Org.nil).toArray 24)) := (Below.refl _ w).alloc (Nat.le_refl _) _
 have H0 := hid h0
 have HB0 := hid hb0
 clear ht hg hO h0 hb0 hval
 go_enter Tryz.func11, Tryz.ntmps11
 go_wp2_with fail
 refine (HU.out _).mono ?_
 rintro e w1 ⟨pv, rfl, hown, hb1⟩
 obtain ⟨da, dn, dc, rfl⟩ := own_sl hown
 obtain ⟨d0, d1, d2, d3, d4, d5, d6, d8, d9, d10, d11, hxd⟩ := adr_cells A da dn dc
 have hvd : adrVal A (.slice da dn dc) = .agg #[.string d0, .string d1, .string d2, .string d3, .bool d4, .int .i64 d5, .bool d6, .slice da dn dc, .string d8, .string d9, .bool d10, .bool d11] := by unfold adrVal; rw [hxd]
 rw [hvd]
 obtain ⟨W2, hW2⟩ : ∃ X, (w1.alloc (.cells #[.string d0, .string d1, .string d2, .string d3, .bool d4, .int .i64 d5, .bool d6, .slice da dn dc, .string d8, .string d9, .bool d10, .bool d11] 45)) = X := ⟨_, rfl⟩
 have hbW2 : Below w1.heap.size w1 W2 := by rw [← hW2]; exact (Below.refl _ w1).alloc (Nat.le_refl _) _
 have hsW2 : W2.heap.size = w1.heap.size + 1 := by rw [← hW2]; simp
 have hAW2 : AdrIn W2 w1.heap.size A (.slice da dn dc) := by
  unfold AdrIn
  rw [hxd, ← hW2]
  exact heap_alloc_new w1 _
 have hb12 := below2 hb1 hbW2
 have HB2 := hid (below2 HB0.out hb12)
 have H2 := hid (H0.out.kept hb12)
 have HOc := hid (HOf.out _ W2 (HG.out.kept HB2.out) ((own_path hown).kept hbW2))
 rw [hvd] at HOc
 obtain ⟨y0, y1, y2, y3, y4, y5, y6, y7, y8, y9, y10, y11⟩ := adr_twelve hxd hAW2
 clear hown hb1 hbW2 hAW2 hxd hvd hsW2 hb12 HU HOf
 go_wp2_with fail
 refine HOc.out.mono ?_
 rintro e w3 ⟨rfl, hb3⟩
 have HB3 := hid (below2 HB2.out hb3)
 have H3 := hid (H2.out.kept hb3)
 have ry0 := H3.out.cell 0 _ rfl
 have rz0 := H3.out.frozen 0
 have ry1 := H3.out.cell 1 _ rfl
 have rz1 := H3.out.frozen 1
 have ry2 := H3.out.cell 2 _ rfl
 have rz2 := H3.out.frozen 2
 have ry3 := H3.out.cell 3 _ rfl
 have rz3 := H3.out.frozen 3
 clear hb3 y0 y1 y2 y3 y4 y5 y6 y7 y8 y9 y10 y11
 go_wp2_with fail
 have hrg := range_row (H3.out.store (p := ⟨AS.data.toList, AH.data.toList, ap, ao⟩))
 have hbl := below_setCells (B := w.heap.size) (b := w.heap.size) (Nat.le_refl _) (orgCells ⟨AS.data.toList, AH.data.toList, ap, ao⟩) 0 _ HB3.out
 refine bodyPost_ret (results_o1 rfl _ _ w.heap.size ⟨AS.data.toList, AH.data.toList, ap, ao⟩ rfl ?_) rfl ⟨?_, ?_⟩
 ·exact hrg
 ·rfl
 ·exact hbl

def trT (s : List UInt8) : Bool := isOk (urlV s) && trustV (adrOf (urlV s))

set_option maxHeartbeats 8000000 in
set_option maxRecDepth 100000 in
theorem trusted4_any (S : ByteArray) (w : World) (hg : Gd w) (hs : S.size ≤ 9223372036854775807) :
  Calls Tryz.prog 14 #[.string S] w fun e w' => e = .returned (.bool (trT S.data.toList)) ∧ Below w.heap.size w w' := by
 have HU := hid (fun w => url_k S w hs)
 have ht : TrOk (adrOf (urlV S.data.toList)) := tr_read _
 have HTr := hid (fun (pv : Value) (X : World) (hX : Gd X) (hp : PathAt X pv (adrOf (urlV S.data.toList)).path) => trusted_any (adrOf (urlV S.data.toList)) pv X hX hp ht)
 unfold trT
 generalize urlV S.data.toList = ru at HU HTr ⊢
 unfold UPost at HU
 obtain ⟨ok, hok⟩ : ∃ q, isOk ru = q := ⟨_, rfl⟩
 rw [hok] at HU ⊢
 generalize adrOf ru = A at HU HTr ⊢
 obtain ⟨tr, htr⟩ : ∃ q, trustV A = q := ⟨_, rfl⟩
 rw [htr] at HTr ⊢
 have HG := hid hg
 clear ht hg hok htr
 go_enter Tryz.func14, Tryz.ntmps14
 go_wp2_with fail
 refine (HU.out _).mono ?_
 rintro e w1 ⟨pv, rfl, hown, hb1⟩
 obtain ⟨da, dn, dc, rfl⟩ := own_sl hown
 obtain ⟨d0, d1, d2, d3, d4, d5, d6, d8, d9, d10, d11, hxd⟩ := adr_cells A da dn dc
 have hvd : adrVal A (.slice da dn dc) = .agg #[.string d0, .string d1, .string d2, .string d3, .bool d4, .int .i64 d5, .bool d6, .slice da dn dc, .string d8, .string d9, .bool d10, .bool d11] := by unfold adrVal; rw [hxd]
 rw [hvd]
 obtain ⟨W2, hW2⟩ : ∃ X, (w1.alloc (.cells #[.string d0, .string d1, .string d2, .string d3, .bool d4, .int .i64 d5, .bool d6, .slice da dn dc, .string d8, .string d9, .bool d10, .bool d11] 45)) = X := ⟨_, rfl⟩
 have hbW2 : Below w1.heap.size w1 W2 := by rw [← hW2]; exact (Below.refl _ w1).alloc (Nat.le_refl _) _
 have hsW2 : W2.heap.size = w1.heap.size + 1 := by rw [← hW2]; simp
 have hAW2 : AdrIn W2 w1.heap.size A (.slice da dn dc) := by
  unfold AdrIn
  rw [hxd, ← hW2]
  exact heap_alloc_new w1 _
 have HB2 := hid (below2 hb1 hbW2)
 have HTc := hid (HTr.out _ W2 (HG.out.kept HB2.out) ((own_path hown).kept hbW2))
 rw [hvd] at HTc
 obtain ⟨y0, y1, y2, y3, y4, y5, y6, y7, y8, y9, y10, y11⟩ := adr_twelve hxd hAW2
 clear hown hb1 hbW2 hAW2 hxd hvd hsW2 HU HTr
 cases ok with
 | false =>
  go_wp2
  go_ret
  exact ⟨rfl, HB2.out⟩
 | true =>
  go_wp2_with fail
  refine HTc.out.mono ?_
  rintro e w3 ⟨rfl, hb3⟩
  go_wp2
  go_ret
  exact ⟨rfl, below2 HB2.out hb3⟩

end Go.Proofs.YtmhooefajdndjaaGreatDoor

namespace Go.Proofs.YtmhooefajdndjaaGreatDoor
open Go.RowKit

set_option maxHeartbeats 2000000 in
set_option maxRecDepth 100000 in
theorem writeRune_k (B b : Nat) (bs : List Value) (r : Int) (hr0 : -2147483648 ≤ r) (hr1 : r ≤ 2147483647) (w : World) (h : Lib.IsBuilderF 67 5 B b bs w) (hlen : bs.length + 4 ≤ 140737488355328) (hBw : B ≤ w.heap.size) :
  Calls Tryz.prog 107 #[.pointer (some ⟨b, 0, none⟩), .int .i32 r] w fun e w' => e = .returned (.tuple #[.int .i64 (Lib.runeCells r).length, .nilIface]) ∧ (Lib.BuilderAtF 67 5 B b (.pointer (some ⟨b, 0, none⟩)) (bs ++ Lib.runeCells r) w' ∧ Below B w w' ∧ Lib.OthersKept 5 (some b) w w') := by
 have hk4 := Lib.runeCells_le r
 go_enter Tryz.func107, Tryz.ntmps107
 go_wp2_with (go_at_call 73; refine (copyCheck_k B b bs _ h).mono ?_)
 rintro e w1 ⟨rfl, h1, hb1, hk1⟩
 obtain ⟨hB, v, hbk, hown, hne⟩ := h1
 obtain ⟨ao, cap, rfl⟩ : ∃ ao cap, v = .slice ao bs.length cap := by
  rcases hown.2 with ⟨hv, h0⟩ | ⟨g, cap, cur, fz, hv, _⟩
  ·exact ⟨none, 0, by rw [hv, h0]⟩
  ·exact ⟨_, _, hv⟩
 have c0 : w1.cell? ⟨b, 0, none⟩ = some (.pointer (some ⟨b, 0, none⟩)) := by rw [Lib.cell_of_heap hbk]; rfl
 have c1 : w1.cell? ⟨b, 1, none⟩ = some (.slice ao bs.length cap) := by rw [Lib.cell_of_heap hbk]; rfl
 go_wp2_with (go_at_call 136; refine (Tryz.utf8_AppendRune_row B _ bs.length bs r hr0 hr1 _ hown hlen (by have := hb1.size; omega)).mono ?_)
 rintro e w2 ⟨v', rfl, hown', o, hgrow⟩
 have hlt : b < w1.heap.size := by
  rcases Nat.lt_or_ge b w1.heap.size with h' | h'
  ·exact h'
  ·simp [Array.getElem?_eq_none h'] at hbk
 have hb2 : w2.heap[b]? = some (.cells #[.pointer (some ⟨b, 0, none⟩), .slice ao bs.length cap] 67 (0, 0)) := by
  rw [hgrow.block b (by simp; omega) (fun e => hne e.symm), Lib.alloc_old w1 _ b hlt]
  exact hbk
 have d0 : w2.cell? ⟨b, 0, none⟩ = some (.pointer (some ⟨b, 0, none⟩)) := by rw [Lib.cell_of_heap hb2]; rfl
 have d1 : w2.cell? ⟨b, 1, none⟩ = some (.slice ao bs.length cap) := by rw [Lib.cell_of_heap hb2]; rfl
 have f1 : w2.frozen? ⟨b, 1, none⟩ = false := Lib.frozen_of_heap hb2 1
 obtain ⟨g, cap', rfl⟩ : ∃ g cap', v' = .slice (some ⟨g, 0, none⟩) (bs.length + (Lib.runeCells r).length) cap' := by
  rcases hown'.2 with ⟨_, h0⟩ | ⟨g, cap', cur, fz, hv, _⟩
  ·omega
  ·exact ⟨g, cap', hv⟩
 go_wp2
 go_ret2
 refine ⟨?_, ?_, ?_, ((hk1.alloc _).grown hgrow (Lib.ownsRowF_kind (hown.alloc _))).setCell ⟨b, 1, none⟩ rfl _⟩
 ·have e : ((bs.length : Int) + ((Lib.runeCells r).length : Int) - (bs.length : Int)) = ((Lib.runeCells r).length : Int) := by omega
  simp [e]
 ·exact Lib.BuilderAtF.put (T := 67) (e := 5) hB hb2 (bs' := bs ++ Lib.runeCells r) (by simpa using hown') (by decide)
 ·exact ((hb1.alloc (by have := hb1.size; omega) _).grown hgrow (by have := hb1.size; simp; omega) (fun k hk => (hown.lt k hk).1)).setCell (p := ⟨b, 1, none⟩) hB _

set_option maxHeartbeats 2000000 in
set_option maxRecDepth 1000000 in
theorem decode_any (v : Value) (l : List UInt8) (w : World) (hv : SlB w v l) (hs : l.length ≤ 35184372088832) :
  Calls Tryz.prog 76 #[v] w fun e w' => e = .returned (.string ⟨(dec l).toArray⟩) ∧ Below w.heap.size w w' := by
 have hcv := (hv.alloc (.cells #[.pointer none, .slice none 0 0] 67)).string (P := Tryz.prog) (src := 65) (dst := 9) Tryz.underlying65 Tryz.underlying5 Tryz.underlying9
 go_enter Tryz.func76, Tryz.ntmps76
 go_wp2_with fail
 clear hcv
 refine (Tryz.strings_TrimPrefix _ _ _).mono ?_
 rintro e w1 ⟨rfl, hw1⟩
 have hw1 := hw1.symm; subst hw1
 have htl := Lib.trimPrefix_le l bom
 obtain ⟨s, hse⟩ : ∃ s : ByteArray, s = ⟨(Lib.trimPrefix l bom).toArray⟩ := ⟨_, rfl⟩
 have hsz : s.size ≤ 35184372088832 := by rw [hse]; show (Lib.trimPrefix l bom).toArray.size ≤ _; simp; omega
 have HD : Hid (dec l = recode s) := by rw [hse]; rfl
 rw [show (⟨(Lib.trimPrefix (ByteArray.mk l.toArray).data.toList (ByteArray.mk #[239, 187, 191]).data.toList).toArray⟩ : ByteArray) = s from hse.symm]
 clear hse htl
 go_wp2
 go_loopw [] (fun wr => ∃ (pos fuel : Nat) (acc : List UInt8), Lib.IsBuilderF 67 5 w.heap.size w.heap.size (Lib.byteCells acc) wr ∧ wr.heap[w.heap.size + 1]? = some (.stringIter s pos) ∧ Below w.heap.size w wr ∧ acc ++ recFrom s fuel pos = recode s ∧ s.size ≤ pos + fuel ∧ acc.length ≤ 4 * pos) (fun wr => s.size - wr.iterPos (w.heap.size + 1))
 case atStart =>
  refine ⟨0, s.size, [], (Lib.IsBuilderF.of (Lib.fresh_isBuilder 67 5 w)).alloc _, ?_, ((Below.refl _ w).alloc (Nat.le_refl _) _).alloc (by simp) _, rfl, by omega, by simp⟩
  have := World.iter_heap (w.alloc (.cells #[.pointer none, .slice none 0 0] 67)) s 0
  simpa using this
 case round =>
  obtain ⟨pos, fuel, acc, hI, hit, hbw, hacc, hfu, hal⟩ := hrel
  have hsz' : w.heap.size + 1 < wr.heap.size := (Array.getElem?_eq_some_iff.1 hit).1
  by_cases hp : pos < s.size
  ·have hnx : ∀ ty, (Instr.next (.pointer (some ⟨w.heap.size + 1, 0, none⟩)) true ty).run Tryz.prog wr = _ := fun ty => Lib.run_next_any_at wr (w.heap.size + 1) s pos ty hit hp
   have hwd := width_pos s pos hp
   have hd1 := decode_le s pos
   have hI2 := hI.iterAt hit (pos + (Utf8.decode s pos).2)
   have hit2 := Lib.iterAt_heap wr (w.heap.size + 1) s pos (pos + (Utf8.decode s pos).2) hit
   have hbw2 := Lib.below_iterAt hbw (k := w.heap.size + 1) (by omega) s (pos + (Utf8.decode s pos).2)
   have hsz2 : w.heap.size ≤ (wr.iterAt (w.heap.size + 1) s (pos + (Utf8.decode s pos).2)).heap.size := by rw [Lib.iterAt_size]; omega
   obtain ⟨f, rfl⟩ : ∃ f, fuel = f + 1 := ⟨fuel - 1, by omega⟩
   go_wp2_with (go_at_call 107; refine (writeRune_k w.heap.size w.heap.size _ _ (by omega) (by omega) _ hI2 (by rw [Lib.byteCells_length]; omega) hsz2).mono ?_)
   rintro e W1 ⟨rfl, h1, b1, k1⟩
   go_wp2
   go_roundw
   case rel =>
    have hl4 := Lib.runeCells_le ((Utf8.decode s pos).1 : Int)
    rw [Lib.runeCells_length] at hl4
    refine ⟨pos + (Utf8.decode s pos).2, f, acc ++ Lib.encodeRune (Utf8.decode s pos).1, ?_, k1.iter hit2 (by omega), hbw2.trans b1, ?_, by omega, by simp; omega⟩
    ·rw [Lib.byteCells_append, Lib.byteCells_encodeRune]; exact Or.inr h1
    ·rw [← hacc]; simp [recFrom, hp]
   case measure =>
    simp only [World.iterPos, k1.iter hit2 (by omega), hit]
    omega
  ·have hnx : ∀ ty, (Instr.next (.pointer (some ⟨w.heap.size + 1, 0, none⟩)) true ty).run Tryz.prog wr = _ := fun ty => Lib.run_next_end_at wr (w.heap.size + 1) s pos ty hit hp
   go_wp2_with (go_at_call 46; refine (Tryz.Builder_String_any_k w.heap.size w.heap.size acc _ hI (by omega)).mono ?_)
   rintro e W1 ⟨rfl, _, b1, _⟩
   go_wp2
   go_ret
   rw [recFrom_end s fuel pos hp, List.append_nil] at hacc
   rw [HD.out, ← hacc]
   exact ⟨rfl, hbw.trans b1⟩

end Go.Proofs.YtmhooefajdndjaaGreatDoor

namespace Go.Proofs.YtmhooefajdndjaaGreatDoor
open Go.RowKit

theorem splitK_cut (c : UInt8) : ∀ l : List UInt8, Lib.splitK [c] 0 (Lib.count l [c]) l = cutL c l := by
 refine cutL_ind c (fun l h => ?_) (fun a r h ih => ?_)
 ·have hm := index_one_none l c h
  rw [cutL_none c l h, Lib.count_miss hm]
  rfl
 ·have hi := index_one_some a r c h
  have hd : (a ++ c :: r).drop (a.length + 1) = r := by
   rw [show a ++ c :: r = (a ++ [c]) ++ r by simp, show a.length + 1 = (a ++ [c]).length by simp, List.drop_left]
  rw [cutL_some c a r h, Lib.count_hit (by simp) hi, show ([c] : List UInt8).length = 1 from rfl, hd, Nat.add_comm, Lib.splitK, hi]
  rw [if_neg (by simp), show ((a.length : Int)).toNat = a.length by simp, show ([c] : List UInt8).length = 1 from rfl, hd, ih]
  simp

theorem split_pieces (c : UInt8) (s : ByteArray) : (Lib.splitB ⟨#[c]⟩ 0 (Lib.countB s ⟨#[c]⟩) s).map Value.string = cellsS (cutL c s.data.toList) := by
 have h := Lib.splitB_data ⟨#[c]⟩ 0 (Lib.countB s ⟨#[c]⟩) s
 have e : Lib.countB s ⟨#[c]⟩ = Lib.count s.data.toList [c] := rfl
 rw [e, show (⟨#[c]⟩ : ByteArray).data.toList = [c] from rfl, splitK_cut] at h
 rw [← h, cellsS, List.map_map]
 rfl

theorem split_count (c : UInt8) (s : ByteArray) : Lib.countB s ⟨#[c]⟩ + 1 = (cutL c s.data.toList).length := by
 show Lib.count s.data.toList [c] + 1 = _
 have key : ∀ l : List UInt8, Lib.count l [c] + 1 = (cutL c l).length := by
  refine cutL_ind c (fun l h => ?_) (fun a r h ih => ?_)
  ·rw [cutL_none c l h, Lib.count_miss (index_one_none l c h)]; rfl
  ·have hd : (a ++ c :: r).drop (a.length + 1) = r := by
    rw [show a ++ c :: r = (a ++ [c]) ++ r by simp, show a.length + 1 = (a ++ [c]).length by simp, List.drop_left]
   rw [cutL_some c a r h, Lib.count_hit (by simp) (index_one_some a r c h), show ([c] : List UInt8).length = 1 from rfl, hd, List.length_cons, ← ih]
   omega
 exact key _

theorem cutL_len11 (c : UInt8) (l : List UInt8) : (cutL c l).length ≤ l.length + 1 := by
 revert l
 refine cutL_ind c (fun l h => ?_) (fun a r h ih => ?_)
 ·rw [cutL_none c l h]; simp
 ·rw [cutL_some c a r h]; simp; omega

def TxPost (L : List (List UInt8)) (w : World) (e : Ending) (w' : World) : Prop :=
 ∃ g cap, e = .returned (.slice (some ⟨g, 0, none⟩) L.length cap) ∧ w'.ownsRow w.heap.size 9 1 (.slice (some ⟨g, 0, none⟩) L.length cap) L.length (cellsS L) ∧ Below w.heap.size w w'

theorem split_any (s : ByteArray) (c : UInt8) (w : World) (hg : Gd w) (hs : s.size ≤ 4000000000) :
  Calls Tryz.prog 40 #[.string s, .string ⟨#[c]⟩] w (TxPost (cutL c s.data.toList) w) := by
 obtain ⟨m, hm⟩ := hg.1
 refine (Tryz.strings_Split s ⟨#[c]⟩ m w (by omega) hm (show 1 ≤ 1 from Nat.le_refl 1)).mono ?_
 rintro e w' ⟨rfl, rfl⟩
 have hl := cutL_len11 c s.data.toList
 rw [← Lib.size_eq] at hl
 rw [split_count, split_pieces]
 refine ⟨w.heap.size, (cutL c s.data.toList).length, rfl, ?_, (Below.refl _ w).alloc (Nat.le_refl _) _⟩
 refine ⟨by simp [cellsS_len], .inr ⟨w.heap.size, (cutL c s.data.toList).length, _, rfl, Nat.le_refl _, heap_alloc_new w _, Nat.le_refl _, by unfold maxLen; omega, by simp [cellsS_len], ?_⟩⟩
 rw [List.take_of_length_le (by simp [cellsS_len])]

def StrT (w : World) (g : Nat) (L : List (List UInt8)) (k : Nat) : Prop :=
 ∃ cur : Array Value, w.heap[g]? = some (.cells cur 9 (0, 0)) ∧ cur.size = L.length ∧ ∀ j (h : j < L.length), j < k → cur[j]? = some (.string ⟨L[j].toArray⟩)

theorem StrT.kept {w w' : World} {g : Nat} {L : List (List UInt8)} {k : Nat} (h : StrT w g L k) (hb : Below w.heap.size w w') : StrT w' g L k := by
 obtain ⟨cur, hg, h2⟩ := h
 exact ⟨cur, row_kept hg hb, h2⟩

theorem StrT.cell {w : World} {g : Nat} {L : List (List UInt8)} {k : Nat} (h : StrT w g L k) (j : Nat) (hj : j < L.length) : ∃ v, w.cell? ⟨g, j, none⟩ = some v := by
 obtain ⟨cur, hg, hs, _⟩ := h
 rw [cell_of_row w g j cur _ _ hg]
 exact ⟨cur[j], by simp [hs, hj]⟩

theorem StrT.frozen {w : World} {g : Nat} {L : List (List UInt8)} {k : Nat} (h : StrT w g L k) (j : Nat) : w.frozen? ⟨g, j, none⟩ = false := by
 obtain ⟨cur, hg, _⟩ := h
 simp [World.frozen?, hg]

theorem StrT.set {w : World} {g : Nat} {L : List (List UInt8)} {k : Nat} (h : StrT w g L k) (hk : k < L.length) : StrT (w.setCell ⟨g, k, none⟩ (.string ⟨L[k].toArray⟩)) g L (k + 1) := by
 obtain ⟨cur, hg, hs, hc⟩ := h
 refine ⟨_, Lib.heap_setCell_same hg _, by simpa using hs, ?_⟩
 intro j hj hj2
 by_cases e : k = j
 ·subst e
  have : k < cur.size := by omega
  simp [this]
 ·simp [Array.getElem?_setIfInBounds, e]
  exact hc j hj (by omega)

end Go.Proofs.YtmhooefajdndjaaGreatDoor
