/-
  Walks and plain facts that this claim leans on, put together out of 1 texts: Erv.
-/
import Derived.Test.YtdnginibhpnefaaGreatDoorProg
import Derived.Test.YtdnginibhpnefaaGreatDoorQa1
import Derived.Test.YtdnginibhpnefaaGreatDoorQa2
import Derived.Test.YtdnginibhpnefaaGreatDoorQa3
import Derived.Test.YtdnginibhpnefaaGreatDoorQa4
import Derived.Test.YtdnginibhpnefaaGreatDoorQa5
import Derived.Test.YtdnginibhpnefaaGreatDoorQa6
import Derived.Test.YtdnginibhpnefaaGreatDoorQa7
import Derived.Test.YtdnginibhpnefaaGreatDoorQa8
import Derived.Test.YtdnginibhpnefaaGreatDoorQa9
import Derived.Test.YtdnginibhpnefaaGreatDoorQa10
import Derived.Test.YtdnginibhpnefaaGreatDoorQa11
import Derived.Test.YtdnginibhpnefaaGreatDoorQa12
import Derived.Test.YtdnginibhpnefaaGreatDoorQa13
import Derived.Test.YtdnginibhpnefaaGreatDoorQa14
import Derived.Test.YtdnginibhpnefaaGreatDoorQa15
import Derived.Test.YtdnginibhpnefaaGreatDoorQa16
import Derived.Test.YtdnginibhpnefaaGreatDoorQa17
import Derived.Test.YtdnginibhpnefaaGreatDoorQa18
import Derived.Test.YtdnginibhpnefaaGreatDoorQa19
import Derived.Test.YtdnginibhpnefaaGreatDoorQa20
import Derived.Test.YtdnginibhpnefaaGreatDoorQa21
import Derived.Test.YtdnginibhpnefaaGreatDoorQa22
import Derived.Test.YtdnginibhpnefaaGreatDoorQa23
import Derived.Test.YtdnginibhpnefaaGreatDoorQa24
import Derived.Test.YtdnginibhpnefaaGreatDoorQa25
import Derived.Test.YtdnginibhpnefaaGreatDoorQa26
import Derived.Test.YtdnginibhpnefaaGreatDoorQa27
import Derived.Test.YtdnginibhpnefaaGreatDoorQa28
import Derived.Test.YtdnginibhpnefaaGreatDoorQa29
import Derived.Test.YtdnginibhpnefaaGreatDoorQa30
import Derived.Test.YtdnginibhpnefaaGreatDoorQa31
import Derived.Test.YtdnginibhpnefaaGreatDoorQa32
import Derived.Test.YtdnginibhpnefaaGreatDoorQa33
import Derived.Test.YtdnginibhpnefaaGreatDoorQt1
import Derived.Laws.AppendOwn
import Derived.OwnWalk
import Derived.Lib.IndexAny
import Derived.Lib.Replace
import Derived.Lib.TrimByte
import Derived.Lib.ItoaNum
import Derived.Lib.Bytealg
import Derived.BigRegion
import Derived.Deep.Cut
import Derived.Deep.CutRange
import Derived.Shelf.Strings.Builder1
import Derived.Shelf.Strings.Builder2
import Derived.Shelf.Strings.OnBuilder
import Derived.Shelf.Strings.Trim
import Derived.Shelf.Small.Utf8
import Derived.Shelf.Small.Strs
import Derived.Shelf.Small.Wraps
import Derived.Shelf.Strings.BuilderF
import Derived.Shelf.Strings.BuilderK
import Derived.Shelf.Strings.Builder2Cap
import Derived.Shelf.Strconv.Itoa0
import Derived.Shelf.Strconv.Itoa1
import Derived.Shelf.LaysM
import Derived.Shelf.Strconv.Itoa2
import Derived.Shelf.Strconv.Itoa3
import Derived.Shelf.Strings.Search1
import Derived.Shelf.Strings.Search2
import Derived.Shelf.Strings.Search3
import Derived.Shelf.Strings.Cut
import Derived.Shelf.Strings.Count
import Derived.Shelf.Strings.Shaped
import Derived.Shelf.Strings.LastIndex
import Derived.Shelf.Strings.Prefix
import Derived.Shelf.Strings.Split
import Derived.Shelf.Strings.Replace
import Derived.Shelf.Strings.Runes
import Derived.Shelf.Strings.IndexAny
import Derived.Shelf.Strings.AsciiSet
import Derived.Shelf.Strings.IndexAnyAll
import Derived.Shelf.Unicode.DecodeSlow
import Derived.Ground.Names2Prog
import Derived.Shelf.Slices.Clone
import Derived.Ground.SlgnProg
import Derived.Shelf.SlicesE.Clone
import Derived.WalkKit
import Derived.WalkSpells
import Derived.WalkLawsBesides
import Derived.WalkMore
import Derived.Lib.BufferRead
import Derived.Lib.RuneBytes
import Derived.Laws.RangeAny
import Derived.LoopN
import Derived.RegionTactic
import Derived.Deep.RegionWith
import Derived.Deep.QuietTactic
import Derived.BigQuiet
import Derived.Laws.OwnMore
import Derived.Laws.CopyOwn
import Derived.Laws.ResultCell
import Derived.Deep.MidRow
import Derived.Deep.RegionHeld
import Derived.Laws.AppendOwnNone
import Derived.Scope
import Derived.ScopeJumps
import Derived.Laws.BitsAllLaws
import Derived.Deep.LoopGhost
import Derived.Deep.RegionLaw
import Derived.Lib.FrozenHead2
import Derived.Lib.OthersKept
import Derived.Lib.Builder
import Derived.Lib.IndexMore
import Derived.Lib.Join
import Derived.Below
import Derived.WalkSmall
import Derived.Lib.SmallJoins
import Derived.Laws.IdiomStrings
import Derived.Laws.BytesString
import Derived.Lib.BufferMore
import Derived.Deep.WholeRow
import Derived.Lib.Strings
import Derived.Lib.UnsafeStr
import Derived.Lib.DecodeN
import Derived.Lib.AppendStr
import Derived.Lib.SlTrimSet
import Derived.Lib.AppendIntMem
import Derived.Lib.LastIndexByte
set_option linter.unusedSimpArgs false
set_option linter.unusedVariables false

namespace Go.Proofs.YtdnginibhpnefaaGreatDoor
open Go.RowKit

/-- Two addresses that were answered, with paths in memory of their own. -/
structure KpU (wb wr : World) (ub vb : Nat) (A V : Adr) (qv rv : Value) (n m : Nat) : Prop where
  below : Below wb.heap.size wb wr
  adrA : AdrIn wr ub A qv
  adrV : AdrIn wr vb V rv
  ownA : ∃ xs, wr.ownsRow wb.heap.size 9 1 qv n xs
  ownV : ∃ xs, wr.ownsRow wb.heap.size 9 1 rv m xs
  apart_ : ∀ g, qv.ownBlock = some g → rv.ownBlock ≠ some g

theorem row_at {w : World} {B n m : Nat} {a : Option Addr} {c : Nat} (h : ∃ xs, w.ownsRow B 9 1 (.slice a n c) n xs) (k : Nat) (hk : k < n) : ∃ g v, a = some ⟨g, 0, none⟩ ∧ w.cell? ⟨g, k, none⟩ = some v ∧ w.frozen? ⟨g, k, none⟩ = false ∧ n ≤ c ∧ c ≤ maxLen := by
  obtain ⟨xs, h⟩ := h
  have h0 := h
  rcases h.2 with ⟨hv, hn⟩ | ⟨g, cap, cur, hv, hg, hrow, hnc, hcm, hcs, htake⟩
  · omega
  · injection hv with e1 e2 e3
    subst e1
    subst e3
    have hc := h0.cellAt k (by omega)
    have hl : k < xs.length := by have := h0.1; omega
    rw [List.getElem?_eq_getElem hl] at hc
    exact ⟨g, _, rfl, hc, h0.frozenAt k, hnc, hcm⟩

theorem KpU.roomA {wb wr : World} {ub vb : Nat} {A V : Adr} {a : Option Addr} {n c : Nat} {rv : Value} {m : Nat} (h : KpU wb wr ub vb A V (.slice a n c) rv n m) (k : Nat) (hk : k < n) : ∃ g v, a = some ⟨g, 0, none⟩ ∧ wr.cell? ⟨g, k, none⟩ = some v ∧ wr.frozen? ⟨g, k, none⟩ = false ∧ n ≤ c ∧ c ≤ maxLen := row_at (m := 0) h.ownA k hk

theorem KpU.roomV {wb wr : World} {ub vb : Nat} {A V : Adr} {a : Option Addr} {n c : Nat} {qv : Value} {m : Nat} (h : KpU wb wr ub vb A V qv (.slice a m c) n m) (k : Nat) (hk : k < m) : ∃ g v, a = some ⟨g, 0, none⟩ ∧ wr.cell? ⟨g, k, none⟩ = some v ∧ wr.frozen? ⟨g, k, none⟩ = false ∧ m ≤ c ∧ c ≤ maxLen := row_at (m := 0) h.ownV k hk

theorem KpU.setA {wb wr : World} {ub vb : Nat} {A V : Adr} {g n c : Nat} {rv : Value} {m : Nat} (h : KpU wb wr ub vb A V (.slice (some ⟨g, 0, none⟩) n c) rv n m) (k : Nat) (x : Value) : KpU wb (wr.setCell ⟨g, k, none⟩ x) ub vb A V (.slice (some ⟨g, 0, none⟩) n c) rv n m := by
  obtain ⟨xs, hx⟩ := h.ownA
  obtain ⟨ys, hy⟩ := h.ownV
  have hg : (Value.slice (some ⟨g, 0, none⟩) n c).ownBlock = some g := rfl
  exact ⟨h.below.setCell (p := ⟨g, k, none⟩) (hx.lt g hg).1 _, h.adrA.set_other (own_apart hx h.adrA hg).symm k x, h.adrV.set_other (own_apart hx h.adrV hg).symm k x, ⟨_, (hx.stored k x).1⟩, ⟨ys, ownsRow_same hy fun g' hg' => heap_setCell_other _ _ _ _ (fun e => h.apart_ g hg (by rw [hg', e]))⟩, h.apart_⟩

theorem KpU.setV {wb wr : World} {ub vb : Nat} {A V : Adr} {g n c : Nat} {qv : Value} {m : Nat} (h : KpU wb wr ub vb A V qv (.slice (some ⟨g, 0, none⟩) m c) n m) (k : Nat) (x : Value) : KpU wb (wr.setCell ⟨g, k, none⟩ x) ub vb A V qv (.slice (some ⟨g, 0, none⟩) m c) n m := by
  obtain ⟨xs, hx⟩ := h.ownA
  obtain ⟨ys, hy⟩ := h.ownV
  have hg : (Value.slice (some ⟨g, 0, none⟩) m c).ownBlock = some g := rfl
  exact ⟨h.below.setCell (p := ⟨g, k, none⟩) (hy.lt g hg).1 _, h.adrA.set_other (own_apart hy h.adrA hg).symm k x, h.adrV.set_other (own_apart hy h.adrV hg).symm k x, ⟨xs, ownsRow_same hx fun g' hg' => heap_setCell_other _ _ _ _ (fun e => h.apart_ g' hg' (by rw [e]; exact hg))⟩, ⟨_, (hy.stored k x).1⟩, h.apart_⟩

/-- An address that was answered, with its path in memory of its own. -/
def HalfU (wb wx : World) (ub : Nat) (A : Adr) (q : Value) (n : Nat) : Prop := Below wb.heap.size wb wx ∧ AdrIn wx ub A q ∧ ∃ xs, wx.ownsRow wb.heap.size 9 1 q n xs

theorem half_of {wb X : World} {ub n : Nat} {A Z0 : Adr} {zv q : Value} {xs : List Value} (hb : Below wb.heap.size wb X) (hz : AdrIn X ub Z0 zv) (ho : X.ownsRow wb.heap.size 9 1 q n xs) (hub : wb.heap.size ≤ ub) : HalfU wb (X.setCells ub 0 (adrCells A q)) ub A q n :=
  ⟨below_setCells hub _ _ _ hb, hz.store, xs, own_cells ho hz _ _⟩

theorem own_len {w : World} {B n m : Nat} {a : Option Addr} {k c : Nat} {xs : List Value} (h : w.ownsRow B 9 1 (.slice a k c) n xs) : k = n := by
  rcases h.2 with ⟨hv, hn⟩ | ⟨g, cap, cur, hv, _⟩
  · injection hv with e1 e2 e3; omega
  · injection hv with e1 e2 e3

set_option maxHeartbeats 16000000 in
set_option maxRecDepth 100000 in
theorem urlKept_walk (s b : ByteArray) (w : World) (hs : s.size ≤ 140737488351232) (hb : b.size ≤ 140737488351232) (hg : Gd w) :
    Calls Tryz.prog 9 #[.string s, .string b] w fun e w' => e = .returned (.bool true) ∧ Below w.heap.size w w' := by
  obtain ⟨F, hF⟩ : ∃ F : ByteArray, ⟨(s.data.toList.take 200).toArray⟩ = F := ⟨_, rfl⟩
  have hFs : F.size ≤ 200 := by rw [← hF, Lib.size_eq]; show (s.data.toList.take 200).length ≤ _; rw [List.length_take]; omega
  have HFw := hid (fun w => few_any s 200 w (by omega) (by omega))
  rw [hF] at HFw
  have HUk := hid (url_k b w (by omega))
  have HKn := hid (fun (Z : World) (hZ : Gd Z) => known3_any Z hZ)
  have HG := hid hg
  clear hg hF hs hb
  cases hr : urlV b.data.toList with
  | error x =>
    rw [hr] at HUk
    unfold UPost at HUk
    simp only [isOk] at HUk
    obtain ⟨A, hA⟩ : ∃ A, adrOf (.error x) = A := ⟨_, rfl⟩
    rw [hA] at HUk
    clear hr hA
    go_enter Tryz.func9, Tryz.ntmps9
    go_wp2_with fail
    refine HUk.out.mono ?_
    rintro e w1 ⟨pv, rfl, hown, hb1⟩
    obtain ⟨da, dn, dc, rfl⟩ := own_sl hown
    obtain ⟨d0, d1, d2, d3, d4, d5, d6, d8, d9, d10, d11, hxd⟩ := adr_cells A da dn dc
    have hvd : adrVal A (.slice da dn dc) = .agg #[.string d0, .string d1, .string d2, .string d3, .bool d4, .int .i64 d5, .bool d6, .slice da dn dc, .string d8, .string d9, .bool d10, .bool d11] := by unfold adrVal; rw [hxd]
    rw [hvd]
    obtain ⟨W2, hW2⟩ : ∃ X, (w1.alloc (.cells #[.string d0, .string d1, .string d2, .string d3, .bool d4, .int .i64 d5, .bool d6, .slice da dn dc, .string d8, .string d9, .bool d10, .bool d11] 24)) = X := ⟨_, rfl⟩
    have hbW2 : Below w1.heap.size w1 W2 := by rw [← hW2]; exact (Below.refl _ w1).alloc (Nat.le_refl _) _
    have hsW2 : W2.heap.size = w1.heap.size + 1 := by rw [← hW2]; simp
    have hAW2 : AdrIn W2 w1.heap.size A (.slice da dn dc) := by
      unfold AdrIn
      rw [hxd, ← hW2]
      exact heap_alloc_new w1 _
    have HB2 := hid (below2 hb1 hbW2)
    clear hown hb1 hbW2 hAW2 hxd hvd
    go_wp2_with fail
    refine (HKn.out _ (HG.out.kept HB2.out)).mono ?_
    rintro e w3 ⟨rfl, hb3⟩
    go_wp2
    go_ret
    exact ⟨rfl, below2 HB2.out hb3⟩
  | ok B =>
    rw [hr] at HUk
    unfold UPost at HUk
    simp only [isOk, adrOf] at HUk
    unfold urlV at hr
    have HFi := hid (parse_fine hr)
    have HLn := hid (show B.path.length ≤ 100000 from slim_path (parse_slim hr) (by omega))
    have HFr := hid (show B.fragment.length ≤ 1000000 by
      have := parse_slim hr
      unfold Slim at this
      omega)
    clear hr
    go_enter Tryz.func9, Tryz.ntmps9
    go_wp2_with fail
    refine HUk.out.mono ?_
    rintro e w1 ⟨pv, rfl, hown, hb1⟩
    obtain ⟨da, dn, dc, rfl⟩ := own_sl hown
    obtain ⟨d0, d1, d2, d3, d4, d5, d6, d8, d9, d10, d11, hxd⟩ := adr_cells B da dn dc
    have hvd : adrVal B (.slice da dn dc) = .agg #[.string d0, .string d1, .string d2, .string d3, .bool d4, .int .i64 d5, .bool d6, .slice da dn dc, .string d8, .string d9, .bool d10, .bool d11] := by unfold adrVal; rw [hxd]
    rw [hvd]
    obtain ⟨W2, hW2⟩ : ∃ X, (w1.alloc (.cells #[.string d0, .string d1, .string d2, .string d3, .bool d4, .int .i64 d5, .bool d6, .slice da dn dc, .string d8, .string d9, .bool d10, .bool d11] 24)) = X := ⟨_, rfl⟩
    have hbW2 : Below w1.heap.size w1 W2 := by rw [← hW2]; exact (Below.refl _ w1).alloc (Nat.le_refl _) _
    have hsW2 : W2.heap.size = w1.heap.size + 1 := by rw [← hW2]; simp
    have hAW2 : AdrIn W2 w1.heap.size B (.slice da dn dc) := by
      unfold AdrIn
      rw [hxd, ← hW2]
      exact heap_alloc_new w1 _
    have hpp := (own_path hown).kept hbW2
    have HPP2 := hid hpp
    have HB2 := hid (below2 hb1 hbW2)
    have HA2 := hid hAW2
    have HXd := hid hxd
    have HVd := hid hvd
    have HT := hid (fun (Z : World) (hZ : Below W2.heap.size W2 Z) => rtext3_any B (.slice da dn dc) Z (hpp.kept hZ) HFi.out HFr.out)
    obtain ⟨TT, hTT⟩ : ∃ X : ByteArray, X = ⟨(textV B).toArray⟩ := ⟨_, rfl⟩
    rw [← hTT, hvd] at HT
    obtain ⟨y0, y1, y2, y3, y4, y5, y6, y7, y8, y9, y10, y11⟩ := adr_twelve hxd hAW2
    clear hown hb1 hbW2 hAW2 hxd hvd hpp hTT
    go_wp2_with fail
    refine (HT.out _ (Below.refl _ _)).mono ?_
    rintro e wb ⟨rfl, hb3⟩
    have HS3 := hid hb3
    have HBb := hid (below2 HB2.out hb3)
    have HAb := hid (HA2.out.kept hb3)
    have HPb := hid (HPP2.out.kept hb3)
    clear y0 y1 y2 y3 y4 y5 y6 y7 y8 y9 y10 y11 hb3 HA2 HPP2
    obtain ⟨r1, hr1⟩ : ∃ r, readV F.data.toList (some B) = r := ⟨_, rfl⟩
    obtain ⟨r2, hr2⟩ : ∃ r, readV (⟨#[]⟩ : ByteArray).data.toList (some B) = r := ⟨_, rfl⟩
    have HJ1 := hid (fun (Z : World) (hZ : Below wb.heap.size wb Z) => ujoin_any F B (.slice da dn dc) Z (HG.out.kept (below2 HBb.out hZ)) (by omega) (HPb.out.kept hZ) HLn.out)
    have HJ2 := hid (fun (Z : World) (hZ : Below wb.heap.size wb Z) => ujoin_any ⟨#[]⟩ B (.slice da dn dc) Z (HG.out.kept (below2 HBb.out hZ)) (by decide) (HPb.out.kept hZ) HLn.out)
    rw [HVd.out, hr1] at HJ1
    rw [HVd.out, hr2] at HJ2
    unfold ReadPost at HJ1 HJ2
    obtain ⟨A1, hA1⟩ : ∃ A, adrOf r1 = A := ⟨_, rfl⟩
    obtain ⟨A2, hA2⟩ : ∃ A, adrOf r2 = A := ⟨_, rfl⟩
    obtain ⟨n1, hn1⟩ : ∃ A, numOf r1 = A := ⟨_, rfl⟩
    obtain ⟨n2, hn2⟩ : ∃ A, numOf r2 = A := ⟨_, rfl⟩
    rw [hA1, hn1] at HJ1
    rw [hA2, hn2] at HJ2
    clear hA1 hA2 hr1 hr2 hn1 hn2 HFi HFr HLn HUk
    go_wp2_with fail
    go_loopw [8] (fun v8 wr => ∃ i : Nat, i ≤ 2 ∧ v8 = .int .i64 i ∧ Hid (Below wb.heap.size wb wr)) (fun v8 _ => 2 - (intOf v8).toNat)
    case atStart => exact ⟨0, by omega, rfl, hid (Below.refl _ _)⟩
    case round =>
      obtain ⟨i, hi, rfl, HBr⟩ := hrel
      by_cases hlt : i < 2
      · have hlt' : (i : Int) < 2 := by omega
        obtain ⟨W0, hW0⟩ : ∃ X, wr = X := ⟨_, rfl⟩
        subst hW0
        have hAr := HAb.out.kept HBr.out
        have HRb := hid (show ∀ Z, Below wr.heap.size wr Z → Z.rangeAt w1.heap.size 0 [.string d0, .string d1, .string d2, .string d3, .bool d4, .int .i64 d5, .bool d6, .slice da dn dc, .string d8, .string d9, .bool d10, .bool d11] from fun Z hZ => by
          have := range_row (show Z.heap[w1.heap.size]? = some (.cells (adrCells B (.slice da dn dc)).toArray 24 (0, 0)) from hAr.kept hZ)
          rw [HXd.out] at this
          exact this)
        have HQ0 := hid ((Below.refl wr.heap.size wr).drew)
        clear hAr
        go_upto_region 8 with fail
        go_cut [9, 10] from 29 to 35 (fun x9 x10 wx => ∃ (ub : Nat) (qa : Option Addr) (qn qc : Nat), x9 = .pointer (some ⟨ub, 0, none⟩) ∧ x10 = .int .i64 n1 ∧ qn = A1.path.length ∧ Hid (HalfU wb wx ub A1 (.slice qa qn qc) A1.path.length))
        case first =>
          refine wp_region_held_drew (S := (fun wx => Below wr.heap.size wr wx)) (by kernel_rfl) HQ0.out (fun hHeld => ?_)
          refine wpAnyH_to (fuel' := 10) (listed' := #[false, false, false, false, false, false, false, false, false, false]) rfl rfl ?_
          refine' wpAnyH_take (i := 0) (oi := ⟨some 30, _, _, _, _, _⟩) (v := _) rfl (by kernel_rfl) (by kernel_rfl) (by kernel_rfl) (fun _ _ _ h => h) (Or.inl ⟨by kernel_rfl, ?hy1⟩) (by assumption) ?rest1
          case hy1 => (intro wx hSw; (try dsimp only at hSw); go_simp; first | done | with_reducible rfl)
          (try simp only [Act.put, List.setIfInBounds_toArray, List.set_cons_zero, List.set_cons_succ])
          refine wpAnyH_take (i := 2) (oi := ⟨some 32, _, _, _, _, _⟩) rfl (by kernel_rfl) (by kernel_rfl) (by kernel_rfl) (fun _ _ _ h => h) (yieldsIf_load_mid (by kernel_rfl) 24 (.tmp 5) rfl (w1.heap.size) 0 rfl [.string d0, .string d1, .string d2, .string d3, .bool d4, .int .i64 d5, .bool d6, .slice da dn dc, .string d8, .string d9, .bool d10, .bool d11] _ HRb.out Tryz.underlying24 rfl sizeU) (by assumption) ?_
          (try simp only [Act.put, List.setIfInBounds_toArray, List.set_cons_zero, List.set_cons_succ])
          refine wpAnyH_ready (rs := [1, 7]) (by kernel_rfl) (by simp) ?_
          refine AllReadyH.cons rfl (fun K9 hK => ?_) (AllReadyH.cons rfl (fun K9 hK => ?_) AllReadyH.nil)
          · rw [if_pos (by kernel_rfl)]
            go_simp
            go_wp2_with (go_at_call 27; refine (HFw.out _).mono ?_; rintro e w' ⟨rfl, rfl⟩)
            refine hK.out _ _ HQ0.out (fun hHeld2 => ?_)
            clear hK K9 hHeld
            rename _ => hHeld
            refine wpAnyH_ready (rs := [3, 7]) (by kernel_rfl) (by simp) ?_
            refine AllReadyH.cons rfl (fun K9 hK => ?_) (AllReadyH.cons rfl (fun K9 hK => ?_) AllReadyH.nil)
            · rw [if_pos (by kernel_rfl)]
              go_simp
              go_wp2_with (go_at_call 15; refine (HJ1.out _ (below2 HBr.out HQ0.out)).mono ?_; rintro e wa ⟨qv, rfl, hown, hba⟩)
              have HQ1 := hid (below2 HQ0.out hba)
              have hown1 := ownsRow_lower hown (show wb.heap.size ≤ _ from (below2 HBr.out HQ0.out).size)
              obtain ⟨qa, qn, qc, rfl⟩ := own_sl hown
              have HQn := hid (own_len (m := 0) hown)
              have HO1 := hid hown1
              clear hba hown hown1
              refine hK.out _ _ HQ1.out (fun hHeld2 => ?_)
              clear hK K9 hHeld
              rename _ => hHeld
              refine' wpAnyH_take (i := 4) (oi := ⟨some 29, _, _, _, _, _⟩) (v := _) rfl (by kernel_rfl) (by kernel_rfl) (by kernel_rfl) (fun _ _ _ h => h) (Or.inl ⟨by kernel_rfl, ?hy2⟩) (by assumption) ?rest2
              case hy2 => (intro wx hSw; (try dsimp only at hSw); go_simp; first | done | with_reducible rfl)
              (try simp only [Act.put, List.setIfInBounds_toArray, List.set_cons_zero, List.set_cons_succ])
              refine' wpAnyH_take (i := 5) (oi := ⟨some 34, _, _, _, _, _⟩) (v := _) rfl (by kernel_rfl) (by kernel_rfl) (by kernel_rfl) (fun _ _ _ h => h) (Or.inl ⟨by kernel_rfl, ?hy3⟩) (by assumption) ?rest3
              case hy3 => (intro wx hSw; (try dsimp only at hSw); go_simp; first | done | with_reducible rfl)
              (try simp only [Act.put, List.setIfInBounds_toArray, List.set_cons_zero, List.set_cons_succ])
              refine' wpAnyH_take (i := 6) (oi := ⟨some 35, _, _, _, _, _⟩) (v := _) rfl (by kernel_rfl) (by kernel_rfl) (by kernel_rfl) (fun _ _ _ h => h) (Or.inl ⟨by kernel_rfl, ?hy4⟩) (by assumption) ?rest4
              case hy4 => (intro wx hSw; (try dsimp only at hSw); go_simp; first | done | with_reducible rfl)
              (try simp only [Act.put, List.setIfInBounds_toArray, List.set_cons_zero, List.set_cons_succ])
              refine wpAnyH_ready (rs := [7]) (by kernel_rfl) (by simp) ?_
              refine AllReadyH.cons rfl (fun K9 hK => ?_) AllReadyH.nil
              rw [if_pos (by kernel_rfl)]
              go_simp
              have HZ1 := hid (show AdrIn (wa.alloc (.cells #[.string ⟨#[]⟩, .string ⟨#[]⟩, .string ⟨#[]⟩, .string ⟨#[]⟩, .bool false, .int .i64 0, .bool false, .slice none 0 0, .string ⟨#[]⟩, .string ⟨#[]⟩, .bool false, .bool false] 24)) wa.heap.size Adr.zero (.slice none 0 0) from heap_alloc_new wa _)
              have HQ2 := hid (show Below wr.heap.size wr (wa.alloc (.cells #[.string ⟨#[]⟩, .string ⟨#[]⟩, .string ⟨#[]⟩, .string ⟨#[]⟩, .bool false, .int .i64 0, .bool false, .slice none 0 0, .string ⟨#[]⟩, .string ⟨#[]⟩, .bool false, .bool false] 24)) from below2 HQ1.out ((Below.refl _ wa).alloc (Nat.le_refl _) _))
              have HO2 := hid (own_below HO1.out ((Below.refl wa.heap.size wa).alloc (Nat.le_refl _) (.cells #[.string ⟨#[]⟩, .string ⟨#[]⟩, .string ⟨#[]⟩, .string ⟨#[]⟩, .bool false, .int .i64 0, .bool false, .slice none 0 0, .string ⟨#[]⟩, .string ⟨#[]⟩, .bool false, .bool false] 24)))
              have HZ2 := HZ1
              refine hK.out _ _ HQ2.out (fun hHeld2 => ?_)
              clear hK K9 hHeld
              rename _ => hHeld
              refine wpAnyH_ready (rs := [8]) (by kernel_rfl) (by simp) ?_
              refine AllReadyH.cons rfl (fun K9 hK => ?_) AllReadyH.nil
              rw [if_pos (by kernel_rfl)]
              refine wp_store_mid 24 (.tmp 9) (.tmp 34) rfl (wa.heap.size) 0 (adrCells A1 (.slice qa qn qc)).toArray rfl rfl HZ2.out.there (sizeUa _ _) (all_oneCell_toArray (adrCells_one _ _ ⟨_, _, _, rfl⟩)) ?_
              have hwl : wb.heap.size ≤ wa.heap.size := by
                have h1 := HBr.out.size
                have h2 := HQ1.out.size
                first | omega | (simp at h2 ⊢; omega)
              have HHf := hid (half_of (A := A1) (below2 HBr.out (by first | exact HQ2.out | exact HQ1.out)) HZ2.out HO2.out hwl)
              have HQ3 := hid (show Below wr.heap.size wr ((wa.alloc (.cells #[.string ⟨#[]⟩, .string ⟨#[]⟩, .string ⟨#[]⟩, .string ⟨#[]⟩, .bool false, .int .i64 0, .bool false, .slice none 0 0, .string ⟨#[]⟩, .string ⟨#[]⟩, .bool false, .bool false] 24)).setCells (wa.heap.size) 0 (adrCells A1 (.slice qa qn qc))) from below_setCells (by
                have h2 := HQ1.out.size
                first | omega | (simp at h2 ⊢; omega)) _ _ _ (by first | exact HQ2.out | exact HQ1.out))
              (try simp only [Act.put, List.setIfInBounds_toArray, List.set_cons_zero, List.set_cons_succ])
              refine hK.out _ _ HQ3.out (fun hHeld2 => ?_)
              clear hK K9 hHeld
              rename _ => hHeld
              refine wpAnyH_ready (rs := [9]) (by kernel_rfl) (by simp) ?_
              refine AllReadyH.cons rfl (fun K9 hK => ?_) AllReadyH.nil
              rw [if_pos (by kernel_rfl)]
              go_simp
              refine hK.out _ _ HQ3.out (fun hHeld2 => ?_)
              clear hK K9 hHeld
              rename _ => hHeld
              refine wpAnyH_done (by kernel_rfl) ?_ _
              go_wp2_with fail
              go_meet
              case rel => exact ⟨_, qa, qn, qc, rfl, rfl, HQn.out, HHf⟩
            · rw [if_pos (by kernel_rfl)]
              go_simp
              have HZ1 := hid (show AdrIn (wr.drew.alloc (.cells #[.string ⟨#[]⟩, .string ⟨#[]⟩, .string ⟨#[]⟩, .string ⟨#[]⟩, .bool false, .int .i64 0, .bool false, .slice none 0 0, .string ⟨#[]⟩, .string ⟨#[]⟩, .bool false, .bool false] 24)) wr.heap.size Adr.zero (.slice none 0 0) from heap_alloc_new wr.drew _)
              have HQ2 := hid (show Below wr.heap.size wr (wr.drew.alloc (.cells #[.string ⟨#[]⟩, .string ⟨#[]⟩, .string ⟨#[]⟩, .string ⟨#[]⟩, .bool false, .int .i64 0, .bool false, .slice none 0 0, .string ⟨#[]⟩, .string ⟨#[]⟩, .bool false, .bool false] 24)) from below2 HQ0.out ((Below.refl _ wr.drew).alloc (Nat.le_refl _) _))
              refine hK.out _ _ HQ2.out (fun hHeld2 => ?_)
              clear hK K9 hHeld
              rename _ => hHeld
              refine wpAnyH_ready (rs := [3]) (by kernel_rfl) (by simp) ?_
              refine AllReadyH.cons rfl (fun K9 hK => ?_) AllReadyH.nil
              rw [if_pos (by kernel_rfl)]
              go_simp
              go_wp2_with (go_at_call 15; refine (HJ1.out _ (below2 HBr.out HQ2.out)).mono ?_; rintro e wa ⟨qv, rfl, hown, hba⟩)
              have HQ1 := hid (below2 HQ2.out hba)
              have hown1 := ownsRow_lower hown (show wb.heap.size ≤ _ from (below2 HBr.out HQ2.out).size)
              obtain ⟨qa, qn, qc, rfl⟩ := own_sl hown
              have HQn := hid (own_len (m := 0) hown)
              have HO2 := hid hown1
              have HZ2 := hid (HZ1.out.kept hba)
              clear hba hown hown1
              refine hK.out _ _ HQ1.out (fun hHeld2 => ?_)
              clear hK K9 hHeld
              rename _ => hHeld
              refine' wpAnyH_take (i := 4) (oi := ⟨some 29, _, _, _, _, _⟩) (v := _) rfl (by kernel_rfl) (by kernel_rfl) (by kernel_rfl) (fun _ _ _ h => h) (Or.inl ⟨by kernel_rfl, ?hy5⟩) (by assumption) ?rest5
              case hy5 => (intro wx hSw; (try dsimp only at hSw); go_simp; first | done | with_reducible rfl)
              (try simp only [Act.put, List.setIfInBounds_toArray, List.set_cons_zero, List.set_cons_succ])
              refine' wpAnyH_take (i := 5) (oi := ⟨some 34, _, _, _, _, _⟩) (v := _) rfl (by kernel_rfl) (by kernel_rfl) (by kernel_rfl) (fun _ _ _ h => h) (Or.inl ⟨by kernel_rfl, ?hy6⟩) (by assumption) ?rest6
              case hy6 => (intro wx hSw; (try dsimp only at hSw); go_simp; first | done | with_reducible rfl)
              (try simp only [Act.put, List.setIfInBounds_toArray, List.set_cons_zero, List.set_cons_succ])
              refine' wpAnyH_take (i := 6) (oi := ⟨some 35, _, _, _, _, _⟩) (v := _) rfl (by kernel_rfl) (by kernel_rfl) (by kernel_rfl) (fun _ _ _ h => h) (Or.inl ⟨by kernel_rfl, ?hy7⟩) (by assumption) ?rest7
              case hy7 => (intro wx hSw; (try dsimp only at hSw); go_simp; first | done | with_reducible rfl)
              (try simp only [Act.put, List.setIfInBounds_toArray, List.set_cons_zero, List.set_cons_succ])
              refine wpAnyH_ready (rs := [8]) (by kernel_rfl) (by simp) ?_
              refine AllReadyH.cons rfl (fun K9 hK => ?_) AllReadyH.nil
              rw [if_pos (by kernel_rfl)]
              refine wp_store_mid 24 (.tmp 9) (.tmp 34) rfl (wr.heap.size) 0 (adrCells A1 (.slice qa qn qc)).toArray rfl rfl HZ2.out.there (sizeUa _ _) (all_oneCell_toArray (adrCells_one _ _ ⟨_, _, _, rfl⟩)) ?_
              have hwl : wb.heap.size ≤ wr.heap.size := by
                have h1 := HBr.out.size
                have h2 := HQ1.out.size
                first | omega | (simp at h2 ⊢; omega)
              have HHf := hid (half_of (A := A1) (below2 HBr.out (by first | exact HQ2.out | exact HQ1.out)) HZ2.out HO2.out hwl)
              have HQ3 := hid (show Below wr.heap.size wr (wa.setCells (wr.heap.size) 0 (adrCells A1 (.slice qa qn qc))) from below_setCells (by
                have h2 := HQ1.out.size
                first | omega | (simp at h2 ⊢; omega)) _ _ _ (by first | exact HQ2.out | exact HQ1.out))
              (try simp only [Act.put, List.setIfInBounds_toArray, List.set_cons_zero, List.set_cons_succ])
              refine hK.out _ _ HQ3.out (fun hHeld2 => ?_)
              clear hK K9 hHeld
              rename _ => hHeld
              refine wpAnyH_ready (rs := [9]) (by kernel_rfl) (by simp) ?_
              refine AllReadyH.cons rfl (fun K9 hK => ?_) AllReadyH.nil
              rw [if_pos (by kernel_rfl)]
              go_simp
              refine hK.out _ _ HQ3.out (fun hHeld2 => ?_)
              clear hK K9 hHeld
              rename _ => hHeld
              refine wpAnyH_done (by kernel_rfl) ?_ _
              go_wp2_with fail
              go_meet
              case rel => exact ⟨_, qa, qn, qc, rfl, rfl, HQn.out, HHf⟩
          · rw [if_pos (by kernel_rfl)]
            go_simp
            have HZ1 := hid (show AdrIn (wr.drew.alloc (.cells #[.string ⟨#[]⟩, .string ⟨#[]⟩, .string ⟨#[]⟩, .string ⟨#[]⟩, .bool false, .int .i64 0, .bool false, .slice none 0 0, .string ⟨#[]⟩, .string ⟨#[]⟩, .bool false, .bool false] 24)) wr.heap.size Adr.zero (.slice none 0 0) from heap_alloc_new wr.drew _)
            have HQ2 := hid (show Below wr.heap.size wr (wr.drew.alloc (.cells #[.string ⟨#[]⟩, .string ⟨#[]⟩, .string ⟨#[]⟩, .string ⟨#[]⟩, .bool false, .int .i64 0, .bool false, .slice none 0 0, .string ⟨#[]⟩, .string ⟨#[]⟩, .bool false, .bool false] 24)) from below2 HQ0.out ((Below.refl _ wr.drew).alloc (Nat.le_refl _) _))
            refine hK.out _ _ HQ2.out (fun hHeld2 => ?_)
            clear hK K9 hHeld
            rename _ => hHeld
            refine wpAnyH_ready (rs := [1]) (by kernel_rfl) (by simp) ?_
            refine AllReadyH.cons rfl (fun K9 hK => ?_) AllReadyH.nil
            rw [if_pos (by kernel_rfl)]
            go_simp
            go_wp2_with (go_at_call 27; refine (HFw.out _).mono ?_; rintro e w' ⟨rfl, rfl⟩)
            refine hK.out _ _ HQ2.out (fun hHeld2 => ?_)
            clear hK K9 hHeld
            rename _ => hHeld
            refine wpAnyH_ready (rs := [3]) (by kernel_rfl) (by simp) ?_
            refine AllReadyH.cons rfl (fun K9 hK => ?_) AllReadyH.nil
            rw [if_pos (by kernel_rfl)]
            go_simp
            go_wp2_with (go_at_call 15; refine (HJ1.out _ (below2 HBr.out HQ2.out)).mono ?_; rintro e wa ⟨qv, rfl, hown, hba⟩)
            have HQ1 := hid (below2 HQ2.out hba)
            have hown1 := ownsRow_lower hown (show wb.heap.size ≤ _ from (below2 HBr.out HQ2.out).size)
            obtain ⟨qa, qn, qc, rfl⟩ := own_sl hown
            have HQn := hid (own_len (m := 0) hown)
            have HO2 := hid hown1
            have HZ2 := hid (HZ1.out.kept hba)
            clear hba hown hown1
            refine hK.out _ _ HQ1.out (fun hHeld2 => ?_)
            clear hK K9 hHeld
            rename _ => hHeld
            refine' wpAnyH_take (i := 4) (oi := ⟨some 29, _, _, _, _, _⟩) (v := _) rfl (by kernel_rfl) (by kernel_rfl) (by kernel_rfl) (fun _ _ _ h => h) (Or.inl ⟨by kernel_rfl, ?hy8⟩) (by assumption) ?rest8
            case hy8 => (intro wx hSw; (try dsimp only at hSw); go_simp; first | done | with_reducible rfl)
            (try simp only [Act.put, List.setIfInBounds_toArray, List.set_cons_zero, List.set_cons_succ])
            refine' wpAnyH_take (i := 5) (oi := ⟨some 34, _, _, _, _, _⟩) (v := _) rfl (by kernel_rfl) (by kernel_rfl) (by kernel_rfl) (fun _ _ _ h => h) (Or.inl ⟨by kernel_rfl, ?hy9⟩) (by assumption) ?rest9
            case hy9 => (intro wx hSw; (try dsimp only at hSw); go_simp; first | done | with_reducible rfl)
            (try simp only [Act.put, List.setIfInBounds_toArray, List.set_cons_zero, List.set_cons_succ])
            refine' wpAnyH_take (i := 6) (oi := ⟨some 35, _, _, _, _, _⟩) (v := _) rfl (by kernel_rfl) (by kernel_rfl) (by kernel_rfl) (fun _ _ _ h => h) (Or.inl ⟨by kernel_rfl, ?hy10⟩) (by assumption) ?rest10
            case hy10 => (intro wx hSw; (try dsimp only at hSw); go_simp; first | done | with_reducible rfl)
            (try simp only [Act.put, List.setIfInBounds_toArray, List.set_cons_zero, List.set_cons_succ])
            refine wpAnyH_ready (rs := [8]) (by kernel_rfl) (by simp) ?_
            refine AllReadyH.cons rfl (fun K9 hK => ?_) AllReadyH.nil
            rw [if_pos (by kernel_rfl)]
            refine wp_store_mid 24 (.tmp 9) (.tmp 34) rfl (wr.heap.size) 0 (adrCells A1 (.slice qa qn qc)).toArray rfl rfl HZ2.out.there (sizeUa _ _) (all_oneCell_toArray (adrCells_one _ _ ⟨_, _, _, rfl⟩)) ?_
            have hwl : wb.heap.size ≤ wr.heap.size := by
              have h1 := HBr.out.size
              have h2 := HQ1.out.size
              first | omega | (simp at h2 ⊢; omega)
            have HHf := hid (half_of (A := A1) (below2 HBr.out (by first | exact HQ2.out | exact HQ1.out)) HZ2.out HO2.out hwl)
            have HQ3 := hid (show Below wr.heap.size wr (wa.setCells (wr.heap.size) 0 (adrCells A1 (.slice qa qn qc))) from below_setCells (by
              have h2 := HQ1.out.size
              first | omega | (simp at h2 ⊢; omega)) _ _ _ (by first | exact HQ2.out | exact HQ1.out))
            (try simp only [Act.put, List.setIfInBounds_toArray, List.set_cons_zero, List.set_cons_succ])
            refine hK.out _ _ HQ3.out (fun hHeld2 => ?_)
            clear hK K9 hHeld
            rename _ => hHeld
            refine wpAnyH_ready (rs := [9]) (by kernel_rfl) (by simp) ?_
            refine AllReadyH.cons rfl (fun K9 hK => ?_) AllReadyH.nil
            rw [if_pos (by kernel_rfl)]
            go_simp
            refine hK.out _ _ HQ3.out (fun hHeld2 => ?_)
            clear hK K9 hHeld
            rename _ => hHeld
            refine wpAnyH_done (by kernel_rfl) ?_ _
            go_wp2_with fail
            go_meet
            case rel => exact ⟨_, qa, qn, qc, rfl, rfl, HQn.out, HHf⟩
        case rest =>
          obtain ⟨ub, qa, qn, qc, rfl, rfl, hqn, HHf⟩ := hcut
          have hHf : HalfU wb wc ub A1 (.slice qa qn qc) qn := by
            have := HHf.out
            rw [← hqn] at this
            exact this
          have HH := hid hHf
          clear hHf HHf hqn HRb HQ0
          have hAc := HAb.out.kept HH.out.1
          obtain ⟨y0, y1, y2, y3, y4, y5, y6, y7, y8, y9, y10, y11⟩ := adr_twelve HXd.out hAc
          clear hAc
          go_wp2_with fail
          refine (HJ2.out _ HH.out.1).mono ?_
          rintro e w6 ⟨rv, rfl, hown, hb6⟩
          obtain ⟨xa, xn, xc, rfl⟩ := own_sl hown
          obtain ⟨x0, x1, x2, x3, x4, x5, x6, x8, x9, x10, x11, hxx⟩ := adr_cells A2 xa xn xc
          have hvx : adrVal A2 (.slice xa xn xc) = .agg #[.string x0, .string x1, .string x2, .string x3, .bool x4, .int .i64 x5, .bool x6, .slice xa xn xc, .string x8, .string x9, .bool x10, .bool x11] := by unfold adrVal; rw [hxx]
          rw [hvx]
          obtain ⟨W7, hW7⟩ : ∃ X, (w6.alloc (.cells #[.string x0, .string x1, .string x2, .string x3, .bool x4, .int .i64 x5, .bool x6, .slice xa xn xc, .string x8, .string x9, .bool x10, .bool x11] 24)) = X := ⟨_, rfl⟩
          have hbW7 : Below w6.heap.size w6 W7 := by rw [← hW7]; exact (Below.refl _ w6).alloc (Nat.le_refl _) _
          have hsW7 : W7.heap.size = w6.heap.size + 1 := by rw [← hW7]; simp
          have hAW7 : AdrIn W7 w6.heap.size A2 (.slice xa xn xc) := by
            unfold AdrIn
            rw [hxx, ← hW7]
            exact heap_alloc_new w6 _
          obtain ⟨xs0, hxs0⟩ := HH.out.2.2
          have hxn := own_len (m := 0) hown
          have HK7 := hid (show KpU wb W7 ub w6.heap.size A1 A2 (.slice qa qn qc) (.slice xa xn xc) qn xn from
            ⟨below2 HH.out.1 (below2 hb6 hbW7), (HH.out.2.1.kept hb6).kept hbW7, hAW7, ⟨xs0, own_below (own_below hxs0 hb6) hbW7⟩, ⟨_, by
              have := own_below (ownsRow_lower hown HH.out.1.size) hbW7
              rw [← hxn] at this
              exact this⟩, fun g hg hg2 => by
              have h1 := (hxs0.lt g hg).2
              have h2 := (hown.lt g hg2).1
              omega⟩)
          clear y0 y1 y2 y3 y4 y5 y6 y7 y8 y9 y10 y11 hown hb6 hbW7 hAW7 hxx hvx hxs0 hxn HH
          go_wp2_with fail
          go_loopw [13] (fun vk wq => ∃ k : Nat, k ≤ qn ∧ vk = .int .i64 k ∧ Hid (KpU wb wq ub w6.heap.size A1 A2 (.slice qa qn qc) (.slice xa xn xc) qn xn)) (fun vk _ => qn - (intOf vk).toNat)
          case atStart => exact ⟨0, Nat.zero_le _, rfl, HK7⟩
          case round =>
            obtain ⟨k, hk, rfl, HKq⟩ := hrel
            have hc7 : wr.cell? ⟨ub, 7, none⟩ = some (.slice qa qn qc) := HKq.out.adrA.cell 7 _ rfl
            by_cases hltk : k < qn
            · have hltk' : (k : Int) < (qn : Int) := by omega
              obtain ⟨g, v, rfl, hcv, hfr, hmx, hcm⟩ := HKq.out.roomA k hltk
              have HN := hid (HKq.out.setA k (.string ⟨#[115, 112, 111, 105, 108, 116]⟩))
              unfold maxLen at hcm
              go_wp2_with fail
              go_roundw
              case rel => exact ⟨k + 1, by omega, by go_num, HN⟩
              case measure => simp [intOf]; omega
            · have hltk' : decide ((k : Int) < (qn : Int)) = false := by rw [decide_eq_false_iff_not]; omega
              clear HK7
              have HK7 := HKq
              clear HKq
              obtain ⟨w8, hw8⟩ : ∃ X, X = wr := ⟨_, rfl⟩
              subst hw8
              go_wp2_with fail
              go_loopw [14] (fun vk wq => ∃ k : Nat, k ≤ xn ∧ vk = .int .i64 k ∧ Hid (KpU wb wq ub w6.heap.size A1 A2 (.slice qa qn qc) (.slice xa xn xc) qn xn)) (fun vk _ => xn - (intOf vk).toNat)
              case atStart => exact ⟨0, Nat.zero_le _, rfl, HK7⟩
              case round =>
                obtain ⟨k, hk, rfl, HKq⟩ := hrel
                have hc7 : wr.cell? ⟨w6.heap.size, 7, none⟩ = some (.slice xa xn xc) := HKq.out.adrV.cell 7 _ rfl
                by_cases hltk : k < xn
                · have hltk' : (k : Int) < (xn : Int) := by omega
                  obtain ⟨g, v, rfl, hcv, hfr, hmx, hcm⟩ := HKq.out.roomV k hltk
                  have HN := hid (HKq.out.setV k (.string ⟨#[115, 112, 111, 105, 108, 116]⟩))
                  unfold maxLen at hcm
                  go_wp2_with fail
                  go_roundw
                  case rel => exact ⟨k + 1, by omega, by go_num, HN⟩
                  case measure => simp [intOf]; omega
                · have hltk' : decide ((k : Int) < (xn : Int)) = false := by rw [decide_eq_false_iff_not]; omega
                  clear HK7
                  have HK7 := HKq
                  clear HKq
                  obtain ⟨w9, hw9⟩ : ∃ X, X = wr := ⟨_, rfl⟩
                  subst hw9
                  go_wp2_with fail
                  go_roundw
                  case rel => exact ⟨i + 1, by omega, by go_num, hid HK7.out.below⟩
                  case measure => simp [intOf]; omega
      · have hlt' : decide ((i : Int) < 2) = false := by rw [decide_eq_false_iff_not]; omega
        have hAr := HAb.out.kept HBr.out
        obtain ⟨y0, y1, y2, y3, y4, y5, y6, y7, y8, y9, y10, y11⟩ := adr_twelve HXd.out hAr
        clear hAr
        go_wp2_with fail
        refine (HT.out _ (below2 HS3.out HBr.out)).mono ?_
        rintro e w9 ⟨rfl, hb9⟩
        have HB9 := hid (below2 (below2 HBb.out HBr.out) hb9)
        clear hb9
        go_wp2_with fail
        refine (HKn.out _ (HG.out.kept HB9.out)).mono ?_
        rintro e w10 ⟨rfl, hb10⟩
        go_wp2
        go_ret
        exact ⟨rfl, below2 HB9.out hb10⟩

end Go.Proofs.YtdnginibhpnefaaGreatDoor
