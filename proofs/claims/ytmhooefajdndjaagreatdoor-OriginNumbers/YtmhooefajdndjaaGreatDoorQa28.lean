/-
  Walks and plain facts that this claim leans on, put together out of 3 texts: Eyd, Eyc, Ewk.
-/
import Derived.Test.YtmhooefajdndjaaGreatDoorProg
import Derived.Test.YtmhooefajdndjaaGreatDoorQa1
import Derived.Test.YtmhooefajdndjaaGreatDoorQa2
import Derived.Test.YtmhooefajdndjaaGreatDoorQa3
import Derived.Test.YtmhooefajdndjaaGreatDoorQa6
import Derived.Test.YtmhooefajdndjaaGreatDoorQa8
import Derived.Test.YtmhooefajdndjaaGreatDoorQa9
import Derived.Test.YtmhooefajdndjaaGreatDoorQa11
import Derived.Test.YtmhooefajdndjaaGreatDoorQa12
import Derived.Test.YtmhooefajdndjaaGreatDoorQa13
import Derived.Test.YtmhooefajdndjaaGreatDoorQa18
import Derived.Test.YtmhooefajdndjaaGreatDoorQa22
import Derived.Test.YtmhooefajdndjaaGreatDoorQa24
import Derived.Test.YtmhooefajdndjaaGreatDoorQa25
import Derived.Test.YtmhooefajdndjaaGreatDoorQa26
import Derived.Test.YtmhooefajdndjaaGreatDoorQa27
import Derived.Deep.Cut
import Derived.Deep.QuietTactic
import Derived.BigQuiet
import Derived.BigRegion
import Derived.Deep.RegionHeld
import Derived.Lib.IndexMore
import Derived.Lib.Join
import Derived.Lib.LastIndexByte
import Derived.WalkKit
import Derived.Lib.Strings
import Derived.Lib.UnsafeStr
import Derived.Laws.IdiomStrings
import Derived.Laws.AppendOwn
import Derived.Laws.BitsAllLaws
import Derived.Lib.Bytealg
import Derived.Lib.BufferMore
import Derived.Lib.BufferRead
import Derived.Lib.RuneBytes
import Derived.Laws.RangeAny
import Derived.LoopN
import Derived.RegionTactic
import Derived.Deep.RegionWith
import Derived.OwnWalk
import Derived.Deep.RegionLaw
import Derived.Laws.OwnMore
import Derived.Deep.LoopGhost
import Derived.Shelf.Strings.Builder1
import Derived.Shelf.Strings.Builder2
import Derived.Shelf.Strings.OnBuilder
import Derived.Shelf.Strings.Trim
import Derived.Shelf.Small.Utf8
import Derived.Shelf.Small.Strs
import Derived.Shelf.Small.Wraps
import Derived.Shelf.Strings.BuilderF
import Derived.Shelf.Strings.BuilderK
import Derived.Shelf.Strings.BuilderRune
import Derived.Shelf.Utf8.AppendRune
import Derived.Shelf.Utf8.AppendRunePlain
import Derived.Shelf.Strings.Builder2Cap
import Derived.Shelf.Strconv.Itoa0
import Derived.Shelf.Strconv.Itoa1
import Derived.Shelf.LaysM
import Derived.Shelf.Strconv.Itoa2
import Derived.Shelf.Strconv.Itoa3
import Derived.Shelf.Strings.Search1
import Derived.Shelf.Strings.Search2
import Derived.Shelf.Strings.Search3
import Derived.Shelf.Strings.Cut
import Derived.Shelf.Strings.Count
import Derived.Shelf.Strings.Shaped
import Derived.Shelf.Strings.LastIndex
import Derived.Shelf.Strings.Prefix
import Derived.Shelf.Strings.Split
import Derived.Shelf.Strings.Replace
import Derived.Shelf.Strings.Runes
import Derived.Shelf.Strings.IndexAny
import Derived.Shelf.Strings.AsciiSet
import Derived.Shelf.Strings.IndexAnyAll
import Derived.Shelf.Unicode.DecodeSlow
import Derived.Ground.Names2Prog
import Derived.Shelf.Slices.Clone
import Derived.Ground.SlgnProg
import Derived.Shelf.SlicesE.Clone
import Derived.Laws.AppendOwnNone
import Derived.Scope
import Derived.ScopeJumps
import Derived.WalkMore
import Derived.Lib.IndexAny
import Derived.Lib.Replace
import Derived.Lib.TrimByte
import Derived.Lib.ItoaNum
import Derived.Lib.DecodeN
import Derived.Lib.OthersKept
import Derived.Laws.BytesString
import Derived.Deep.WholeRow
import Derived.Lib.AppendStr
import Derived.WalkSpells
import Derived.WalkLawsBesides
import Derived.Lib.AppendIntMem
import Derived.Lib.SmallJoins
import Derived.WalkSmall
import Derived.Laws.CopyOwn
import Derived.Laws.ResultCell
import Derived.Deep.MidRow
import Derived.Lib.FrozenHead2
import Derived.Lib.Builder
import Derived.Lib.SlTrimSet
import Derived.Below
import Derived.Shelf.Strings.SlTrimAscii
import Derived.Laws.Runes
set_option linter.unusedSimpArgs false
set_option linter.unusedVariables false

namespace Go.Proofs.YtmhooefajdndjaaGreatDoor
open Go.RowKit

def AnPost (A : Adr) (w : World) (e : Ending) (w' : World) : Prop := ∃ qv, e = .returned (adrVal A qv) ∧ PathAt w' qv A.path ∧ Below w.heap.size w w'

set_option maxHeartbeats 8000000 in
set_option maxRecDepth 100000 in
theorem raise14_any (u : Adr) (pv : Value) (w : World) (hp : PathAt w pv u.path) (hl : u.path.length ≤ 1000000) :
  Calls Tryz.prog 32 #[adrVal u pv] w (AnPost (raiV u) w) := by
 have HC := hid (fun (X : World) (h : PathAt X pv u.path) => clone_any pv u.path X h hl)
 obtain ⟨da, dn, dc, rfl⟩ := path_sl hp
 obtain ⟨d0, d1, d2, d3, d4, d5, d6, d8, d9, d10, d11, hxd, hx0, -, hx5, -⟩ := adr_named u da dn dc
 have hvd : adrVal u (.slice da dn dc) = .agg #[.string d0, .string d1, .string d2, .string d3, .bool d4, .int .i64 d5, .bool d6, .slice da dn dc, .string d8, .string d9, .bool d10, .bool d11] := by unfold adrVal; rw [hxd]
 rw [hvd]
 obtain ⟨W1, hW1⟩ : ∃ X, (w.alloc (.cells #[.string d0, .string d1, .string d2, .string d3, .bool d4, .int .i64 d5, .bool d6, .slice da dn dc, .string d8, .string d9, .bool d10, .bool d11] 45)) = X := ⟨_, rfl⟩
 have hbW1 : Below w.heap.size w W1 := by rw [← hW1]; exact (Below.refl _ w).alloc (Nat.le_refl _) _
 have hsW1 : W1.heap.size = w.heap.size + 1 := by rw [← hW1]; simp
 have hAW1 : AdrIn W1 w.heap.size u (.slice da dn dc) := by
  unfold AdrIn
  rw [hxd, ← hW1]
  exact heap_alloc_new w _
 obtain ⟨W2, hW2⟩ : ∃ W2, (W1.alloc (.cells (adrCells Adr.zero (.slice none 0 0)).toArray 45)) = W2 := ⟨_, rfl⟩
 have hb2 : Below W1.heap.size W1 W2 := by rw [← hW2]; exact (Below.refl _ W1).alloc (Nat.le_refl _) _
 have hA2 := hAW1.kept hb2
 have hR2 : AdrIn W2 W1.heap.size Adr.zero (.slice none 0 0) := by rw [← hW2]; exact heap_alloc_new W1 _
 rw [hsW1] at hR2
 have hB2 := below2 hbW1 hb2
 obtain ⟨y0, y1, y2, y3, y4, y5, y6, y7, y8, y9, y10, y11⟩ := adr_twelve hxd hA2
 have HP2 := hid (hp.kept hB2)
 have HB2 := hid hB2
 have HA2 := hid hA2
 have HR2 := hid hR2
 have HS1 := hid hsW1
 have hW2' : W1.alloc (.cells #[.string ⟨#[]⟩, .string ⟨#[]⟩, .string ⟨#[]⟩, .string ⟨#[]⟩, .bool false, .int .i64 0, .bool false, .slice none 0 0, .string ⟨#[]⟩, .string ⟨#[]⟩, .bool false, .bool false] 45) = W2 := hW2
 have HX0 := hid hx0
 have HX5 := hid hx5
 have HXd := hid hxd
 clear hW2 hp hl hxd hvd hbW1 hAW1 hb2 hA2 hR2 hB2 hx0 hx5
 go_enter Tryz.func32, Tryz.ntmps32
 go_wp2_with fail
 refine (HC.out _ HP2.out).mono ?_
 rintro e w3 ⟨ev, rfl, hown, hb3⟩
 obtain ⟨ea, en, ec, rfl⟩ := own_sl hown
 have h7 := (HA2.out.kept hb3).cell 7 _ (by rw [HXd.out]; rfl)
 have f7 := (HA2.out.kept hb3).frozen 7
 obtain ⟨W4, hW4⟩ : ∃ X, w3.setCell ⟨w.heap.size, 7, none⟩ (.slice ea en ec) = X := ⟨_, rfl⟩
 have hxe : adrCells u (.slice ea en ec) = [.string d0, .string d1, .string d2, .string d3, .bool d4, .int .i64 d5, .bool d6, .slice ea en ec, .string d8, .string d9, .bool d10, .bool d11] := by
  have : adrCells u (.slice ea en ec) = (adrCells u (.slice da dn dc)).set 7 (.slice ea en ec) := rfl
  rw [this, HXd.out]
  rfl
 have hA4 : AdrIn W4 w.heap.size u (.slice ea en ec) := by rw [← hW4]; exact (HA2.out.kept hb3).set 7 _ rfl
 have hR4 : AdrIn W4 (w.heap.size + 1) Adr.zero (.slice none 0 0) := by rw [← hW4]; exact (HR2.out.kept hb3).set_other (by omega) 7 _
 have hO4 : W4.ownsRow W2.heap.size 9 1 (.slice ea en ec) u.path.length (cellsS u.path) := by rw [← hW4]; exact own_cells hown (HA2.out.kept hb3) [.slice ea en ec] 7
 have hB4 : Below w.heap.size w W4 := by rw [← hW4]; exact (below2 HB2.out hb3).setCell (p := ⟨w.heap.size, 7, none⟩) (Nat.le_refl _) _
 have HXe := hid hxe
 have HA4 := hid hA4
 have HR4 := hid hR4
 have HO4 := hid hO4
 have HB4 := hid hB4
 obtain ⟨v0, v1, v2, v3, v4, v5, v6, v7, v8, v9, v10, v11⟩ := adr_twelve hxe hA4
 clear hown hb3 hxe hA4 hR4 hO4 hB4 y0 y1 y2 y3 y4 y5 y6 y7 y8 y9 y10 y11 HC
 obtain ⟨q1, e1⟩ : ∃ q, (d0.toList == [104, 116, 116, 112]) = q := ⟨_, rfl⟩
 obtain ⟨q2, e2⟩ : ∃ q, (d0.toList == [119, 115]) = q := ⟨_, rfl⟩
 have HE1 := hid e1
 have HE2 := hid e2
 cases q1 with
 | true =>
  have HSc := hid (show u.scheme = sHttp by rw [← HX0.out, ← Lib.toList_data]; exact beq_iff_eq.1 HE1.out)
  have f0 := HA4.out.frozen 0
  obtain ⟨W5, hW5⟩ : ∃ X, W4.setCell ⟨w.heap.size, 0, none⟩ (.string ⟨#[104, 116, 116, 112, 115]⟩) = X := ⟨_, rfl⟩
  have hA5 : AdrIn W5 w.heap.size { u with scheme := sHttps } (.slice ea en ec) := by rw [← hW5]; exact HA4.out.set 0 _ rfl
  have hR5 : AdrIn W5 (w.heap.size + 1) Adr.zero (.slice none 0 0) := by rw [← hW5]; exact HR4.out.set_other (by omega) 0 _
  have hO5 : W5.ownsRow W2.heap.size 9 1 (.slice ea en ec) u.path.length (cellsS u.path) := by rw [← hW5]; exact own_cells HO4.out HA4.out [.string ⟨#[104, 116, 116, 112, 115]⟩] 0
  have hB5 : Below w.heap.size w W5 := by rw [← hW5]; exact HB4.out.setCell (p := ⟨w.heap.size, 0, none⟩) (Nat.le_refl _) _
  have hx5' : adrCells { u with scheme := sHttps } (.slice ea en ec) = [.string ⟨#[104, 116, 116, 112, 115]⟩, .string d1, .string d2, .string d3, .bool d4, .int .i64 d5, .bool d6, .slice ea en ec, .string d8, .string d9, .bool d10, .bool d11] := by
   have : adrCells { u with scheme := sHttps } (.slice ea en ec) = (adrCells u (.slice ea en ec)).set 0 (.string ⟨#[104, 116, 116, 112, 115]⟩) := rfl
   rw [this, HXe.out]
   rfl
  have HX5c := hid hx5'
  have HA5 := hid hA5
  have HR5 := hid hR5
  have HO5 := hid hO5
  have HB5 := hid hB5
  obtain ⟨v0, v1, v2, v3, v4, v5, v6, v7, v8, v9, v10, v11⟩ := adr_twelve hx5' hA5
  clear hA5 hR5 hO5 hB5 hx5'
  have HOw : Hid (∀ w : World, Calls Tryz.prog 35 #[.string ⟨#[104, 116, 116, 112, 115]⟩] w fun e w' => e = .returned (.int .i64 443) ∧ w = w') := fun w => own_any ⟨#[104, 116, 116, 112, 115]⟩ w
  go_upto_region 8 with fail
  by_cases h443 : d5 = 443
  ·subst h443
   go_quiet (first | (go_at_call 35; refine Calls.quiet_of_same ((HOw.out _).mono fun _ _ h => ⟨h.1, h.2.symm⟩)))
   have hA5 : AdrIn (W5.drewN nq) w.heap.size { u with scheme := sHttps } (.slice ea en ec) := HA5.out
   have f5 := hA5.frozen 5
   have v5' := hA5.cell 5 _ (by rw [HX5c.out]; rfl)
   have hR5 : AdrIn (W5.drewN nq) (w.heap.size + 1) Adr.zero (.slice none 0 0) := HR5.out
   have hO5 : (W5.drewN nq).ownsRow W2.heap.size 9 1 (.slice ea en ec) u.path.length (cellsS u.path) := HO5.out
   have hB5 : Below w.heap.size w (W5.drewN nq) := ⟨HB5.out.os, HB5.out.tape, HB5.out.output, HB5.out.size, HB5.out.block⟩
   obtain ⟨W6, hW6⟩ : ∃ X, (W5.drewN nq).setCell ⟨w.heap.size, 5, none⟩ (.int .i64 (-1)) = X := ⟨_, rfl⟩
   have hx6 : adrCells { u with scheme := sHttps, port := -1 } (.slice ea en ec) = [.string ⟨#[104, 116, 116, 112, 115]⟩, .string d1, .string d2, .string d3, .bool d4, .int .i64 (-1), .bool d6, .slice ea en ec, .string d8, .string d9, .bool d10, .bool d11] := by
    have : adrCells { u with scheme := sHttps, port := -1 } (.slice ea en ec) = (adrCells { u with scheme := sHttps } (.slice ea en ec)).set 5 (.int .i64 (-1)) := rfl
    rw [this, HX5c.out]
    rfl
   have HA6 : Hid (AdrIn W6 w.heap.size { u with scheme := sHttps, port := -1 } (.slice ea en ec)) := by rw [← hW6]; exact hA5.set 5 _ rfl
   have HR6 : Hid (AdrIn W6 (w.heap.size + 1) Adr.zero (.slice none 0 0)) := by rw [← hW6]; exact hR5.set_other (by omega) 5 _
   have HO6 : Hid (W6.ownsRow W2.heap.size 9 1 (.slice ea en ec) u.path.length (cellsS u.path)) := by rw [← hW6]; exact own_cells hO5 hA5 [.int .i64 (-1)] 5
   have HB6 : Hid (Below w.heap.size w W6) := by rw [← hW6]; exact hB5.setCell (p := ⟨w.heap.size, 5, none⟩) (Nat.le_refl _) _
   have HX6 := hid hx6
   obtain ⟨g0, g1, g2, g3, g4, g5, g6, g7, g8, g9, g10, g11⟩ := adr_twelve hx6 HA6.out
   clear hA5 hR5 hO5 hB5 hx6
   have ry0 := HR6.out.cell 0 _ rfl
   have rz0 := HR6.out.frozen 0
   have ry1 := HR6.out.cell 1 _ rfl
   have rz1 := HR6.out.frozen 1
   have ry2 := HR6.out.cell 2 _ rfl
   have rz2 := HR6.out.frozen 2
   have ry3 := HR6.out.cell 3 _ rfl
   have rz3 := HR6.out.frozen 3
   have ry4 := HR6.out.cell 4 _ rfl
   have rz4 := HR6.out.frozen 4
   have ry5 := HR6.out.cell 5 _ rfl
   have rz5 := HR6.out.frozen 5
   have ry6 := HR6.out.cell 6 _ rfl
   have rz6 := HR6.out.frozen 6
   have ry7 := HR6.out.cell 7 _ rfl
   have rz7 := HR6.out.frozen 7
   have ry8 := HR6.out.cell 8 _ rfl
   have rz8 := HR6.out.frozen 8
   have ry9 := HR6.out.cell 9 _ rfl
   have rz9 := HR6.out.frozen 9
   have ry10 := HR6.out.cell 10 _ rfl
   have rz10 := HR6.out.frozen 10
   have ry11 := HR6.out.cell 11 _ rfl
   have rz11 := HR6.out.frozen 11
   go_wp2_with fail
   have hrg := range_row (HR6.out.store (v := { u with scheme := sHttps, port := -1 }) (qv := .slice ea en ec))
   have hbl := below_setCells (B := w.heap.size) (b := w.heap.size + 1) (Nat.le_succ _) (adrCells { u with scheme := sHttps, port := -1 } (.slice ea en ec)) 0 _ HB6.out
   have how := own_path (own_cells HO6.out HR6.out (adrCells { u with scheme := sHttps, port := -1 } (.slice ea en ec)) 0)
   have hcs : adrCells { u with scheme := sHttps, port := -1 } (.slice ea en ec) = [.string ⟨#[104, 116, 116, 112, 115]⟩, .string d1, .string d2, .string d3, .bool d4, .int .i64 (-1), .bool d6, .slice ea en ec, .string d8, .string d9, .bool d10, .bool d11] := HX6.out
   have hra : raiV u = { u with scheme := sHttps, port := -1 } := by rw [rai_http u HSc.out, if_pos HX5.out.symm]
   rw [hra]
   refine bodyPost_ret (results_u1 rfl _ _ (w.heap.size + 1) { u with scheme := sHttps, port := -1 } (.slice ea en ec) rfl ?_) rfl ⟨.slice ea en ec, ?_, ?_, ?_⟩
   ·rw [hcs] at hrg ⊢; exact hrg
   ·rfl
   ·rw [hcs] at how; exact how
   ·rw [hcs] at hbl; exact hbl
  ·go_quiet (first | (go_at_call 35; refine Calls.quiet_of_same ((HOw.out _).mono fun _ _ h => ⟨h.1, h.2.symm⟩)))
   obtain ⟨W6, hW6⟩ : ∃ X, W5.drewN nq = X := ⟨_, rfl⟩
   have HA6 : Hid (AdrIn W6 w.heap.size { u with scheme := sHttps } (.slice ea en ec)) := by rw [← hW6]; exact HA5.out
   have HR6 : Hid (AdrIn W6 (w.heap.size + 1) Adr.zero (.slice none 0 0)) := by rw [← hW6]; exact HR5.out
   have HO6 : Hid (W6.ownsRow W2.heap.size 9 1 (.slice ea en ec) u.path.length (cellsS u.path)) := by rw [← hW6]; exact HO5.out
   have HB6 : Hid (Below w.heap.size w W6) := by rw [← hW6]; exact ⟨HB5.out.os, HB5.out.tape, HB5.out.output, HB5.out.size, HB5.out.block⟩
   obtain ⟨g0, g1, g2, g3, g4, g5, g6, g7, g8, g9, g10, g11⟩ := adr_twelve HX5c.out HA6.out
   rw [hW6]
   have ry0 := HR6.out.cell 0 _ rfl
   have rz0 := HR6.out.frozen 0
   have ry1 := HR6.out.cell 1 _ rfl
   have rz1 := HR6.out.frozen 1
   have ry2 := HR6.out.cell 2 _ rfl
   have rz2 := HR6.out.frozen 2
   have ry3 := HR6.out.cell 3 _ rfl
   have rz3 := HR6.out.frozen 3
   have ry4 := HR6.out.cell 4 _ rfl
   have rz4 := HR6.out.frozen 4
   have ry5 := HR6.out.cell 5 _ rfl
   have rz5 := HR6.out.frozen 5
   have ry6 := HR6.out.cell 6 _ rfl
   have rz6 := HR6.out.frozen 6
   have ry7 := HR6.out.cell 7 _ rfl
   have rz7 := HR6.out.frozen 7
   have ry8 := HR6.out.cell 8 _ rfl
   have rz8 := HR6.out.frozen 8
   have ry9 := HR6.out.cell 9 _ rfl
   have rz9 := HR6.out.frozen 9
   have ry10 := HR6.out.cell 10 _ rfl
   have rz10 := HR6.out.frozen 10
   have ry11 := HR6.out.cell 11 _ rfl
   have rz11 := HR6.out.frozen 11
   go_wp2_with fail
   have hrg := range_row (HR6.out.store (v := { u with scheme := sHttps }) (qv := .slice ea en ec))
   have hbl := below_setCells (B := w.heap.size) (b := w.heap.size + 1) (Nat.le_succ _) (adrCells { u with scheme := sHttps } (.slice ea en ec)) 0 _ HB6.out
   have how := own_path (own_cells HO6.out HR6.out (adrCells { u with scheme := sHttps } (.slice ea en ec)) 0)
   have hcs : adrCells { u with scheme := sHttps } (.slice ea en ec) = [.string ⟨#[104, 116, 116, 112, 115]⟩, .string d1, .string d2, .string d3, .bool d4, .int .i64 d5, .bool d6, .slice ea en ec, .string d8, .string d9, .bool d10, .bool d11] := HX5c.out
   have hra : raiV u = { u with scheme := sHttps } := by rw [rai_http u HSc.out, if_neg (by rw [← HX5.out]; exact h443)]
   rw [hra]
   refine bodyPost_ret (results_u1 rfl _ _ (w.heap.size + 1) { u with scheme := sHttps } (.slice ea en ec) rfl ?_) rfl ⟨.slice ea en ec, ?_, ?_, ?_⟩
   ·rw [hcs] at hrg ⊢; exact hrg
   ·rfl
   ·rw [hcs] at how; exact how
   ·rw [hcs] at hbl; exact hbl
 | false =>
  cases q2 with
  | true =>
   have HSc := hid (show u.scheme = sWs by rw [← HX0.out, ← Lib.toList_data]; exact beq_iff_eq.1 HE2.out)
   have f0 := HA4.out.frozen 0
   obtain ⟨W5, hW5⟩ : ∃ X, W4.setCell ⟨w.heap.size, 0, none⟩ (.string ⟨#[119, 115, 115]⟩) = X := ⟨_, rfl⟩
   have hA5 : AdrIn W5 w.heap.size { u with scheme := sWss } (.slice ea en ec) := by rw [← hW5]; exact HA4.out.set 0 _ rfl
   have hR5 : AdrIn W5 (w.heap.size + 1) Adr.zero (.slice none 0 0) := by rw [← hW5]; exact HR4.out.set_other (by omega) 0 _
   have hO5 : W5.ownsRow W2.heap.size 9 1 (.slice ea en ec) u.path.length (cellsS u.path) := by rw [← hW5]; exact own_cells HO4.out HA4.out [.string ⟨#[119, 115, 115]⟩] 0
   have hB5 : Below w.heap.size w W5 := by rw [← hW5]; exact HB4.out.setCell (p := ⟨w.heap.size, 0, none⟩) (Nat.le_refl _) _
   have hx5' : adrCells { u with scheme := sWss } (.slice ea en ec) = [.string ⟨#[119, 115, 115]⟩, .string d1, .string d2, .string d3, .bool d4, .int .i64 d5, .bool d6, .slice ea en ec, .string d8, .string d9, .bool d10, .bool d11] := by
    have : adrCells { u with scheme := sWss } (.slice ea en ec) = (adrCells u (.slice ea en ec)).set 0 (.string ⟨#[119, 115, 115]⟩) := rfl
    rw [this, HXe.out]
    rfl
   have HX5c := hid hx5'
   have HA5 := hid hA5
   have HR5 := hid hR5
   have HO5 := hid hO5
   have HB5 := hid hB5
   obtain ⟨v0, v1, v2, v3, v4, v5, v6, v7, v8, v9, v10, v11⟩ := adr_twelve hx5' hA5
   clear hA5 hR5 hO5 hB5 hx5'
   have HOw : Hid (∀ w : World, Calls Tryz.prog 35 #[.string ⟨#[119, 115, 115]⟩] w fun e w' => e = .returned (.int .i64 443) ∧ w = w') := fun w => own_any ⟨#[119, 115, 115]⟩ w
   go_upto_region 8 with fail
   by_cases h443 : d5 = 443
   ·subst h443
    go_quiet (first | (go_at_call 35; refine Calls.quiet_of_same ((HOw.out _).mono fun _ _ h => ⟨h.1, h.2.symm⟩)))
    have hA5 : AdrIn (W5.drewN nq) w.heap.size { u with scheme := sWss } (.slice ea en ec) := HA5.out
    have f5 := hA5.frozen 5
    have v5' := hA5.cell 5 _ (by rw [HX5c.out]; rfl)
    have hR5 : AdrIn (W5.drewN nq) (w.heap.size + 1) Adr.zero (.slice none 0 0) := HR5.out
    have hO5 : (W5.drewN nq).ownsRow W2.heap.size 9 1 (.slice ea en ec) u.path.length (cellsS u.path) := HO5.out
    have hB5 : Below w.heap.size w (W5.drewN nq) := ⟨HB5.out.os, HB5.out.tape, HB5.out.output, HB5.out.size, HB5.out.block⟩
    obtain ⟨W6, hW6⟩ : ∃ X, (W5.drewN nq).setCell ⟨w.heap.size, 5, none⟩ (.int .i64 (-1)) = X := ⟨_, rfl⟩
    have hx6 : adrCells { u with scheme := sWss, port := -1 } (.slice ea en ec) = [.string ⟨#[119, 115, 115]⟩, .string d1, .string d2, .string d3, .bool d4, .int .i64 (-1), .bool d6, .slice ea en ec, .string d8, .string d9, .bool d10, .bool d11] := by
     have : adrCells { u with scheme := sWss, port := -1 } (.slice ea en ec) = (adrCells { u with scheme := sWss } (.slice ea en ec)).set 5 (.int .i64 (-1)) := rfl
     rw [this, HX5c.out]
     rfl
    have HA6 : Hid (AdrIn W6 w.heap.size { u with scheme := sWss, port := -1 } (.slice ea en ec)) := by rw [← hW6]; exact hA5.set 5 _ rfl
    have HR6 : Hid (AdrIn W6 (w.heap.size + 1) Adr.zero (.slice none 0 0)) := by rw [← hW6]; exact hR5.set_other (by omega) 5 _
    have HO6 : Hid (W6.ownsRow W2.heap.size 9 1 (.slice ea en ec) u.path.length (cellsS u.path)) := by rw [← hW6]; exact own_cells hO5 hA5 [.int .i64 (-1)] 5
    have HB6 : Hid (Below w.heap.size w W6) := by rw [← hW6]; exact hB5.setCell (p := ⟨w.heap.size, 5, none⟩) (Nat.le_refl _) _
    have HX6 := hid hx6
    obtain ⟨g0, g1, g2, g3, g4, g5, g6, g7, g8, g9, g10, g11⟩ := adr_twelve hx6 HA6.out
    clear hA5 hR5 hO5 hB5 hx6
    have ry0 := HR6.out.cell 0 _ rfl
    have rz0 := HR6.out.frozen 0
    have ry1 := HR6.out.cell 1 _ rfl
    have rz1 := HR6.out.frozen 1
    have ry2 := HR6.out.cell 2 _ rfl
    have rz2 := HR6.out.frozen 2
    have ry3 := HR6.out.cell 3 _ rfl
    have rz3 := HR6.out.frozen 3
    have ry4 := HR6.out.cell 4 _ rfl
    have rz4 := HR6.out.frozen 4
    have ry5 := HR6.out.cell 5 _ rfl
    have rz5 := HR6.out.frozen 5
    have ry6 := HR6.out.cell 6 _ rfl
    have rz6 := HR6.out.frozen 6
    have ry7 := HR6.out.cell 7 _ rfl
    have rz7 := HR6.out.frozen 7
    have ry8 := HR6.out.cell 8 _ rfl
    have rz8 := HR6.out.frozen 8
    have ry9 := HR6.out.cell 9 _ rfl
    have rz9 := HR6.out.frozen 9
    have ry10 := HR6.out.cell 10 _ rfl
    have rz10 := HR6.out.frozen 10
    have ry11 := HR6.out.cell 11 _ rfl
    have rz11 := HR6.out.frozen 11
    go_wp2_with fail
    have hrg := range_row (HR6.out.store (v := { u with scheme := sWss, port := -1 }) (qv := .slice ea en ec))
    have hbl := below_setCells (B := w.heap.size) (b := w.heap.size + 1) (Nat.le_succ _) (adrCells { u with scheme := sWss, port := -1 } (.slice ea en ec)) 0 _ HB6.out
    have how := own_path (own_cells HO6.out HR6.out (adrCells { u with scheme := sWss, port := -1 } (.slice ea en ec)) 0)
    have hcs : adrCells { u with scheme := sWss, port := -1 } (.slice ea en ec) = [.string ⟨#[119, 115, 115]⟩, .string d1, .string d2, .string d3, .bool d4, .int .i64 (-1), .bool d6, .slice ea en ec, .string d8, .string d9, .bool d10, .bool d11] := HX6.out
    have hra : raiV u = { u with scheme := sWss, port := -1 } := by rw [rai_ws u HSc.out, if_pos HX5.out.symm]
    rw [hra]
    refine bodyPost_ret (results_u1 rfl _ _ (w.heap.size + 1) { u with scheme := sWss, port := -1 } (.slice ea en ec) rfl ?_) rfl ⟨.slice ea en ec, ?_, ?_, ?_⟩
    ·rw [hcs] at hrg ⊢; exact hrg
    ·rfl
    ·rw [hcs] at how; exact how
    ·rw [hcs] at hbl; exact hbl
   ·go_quiet (first | (go_at_call 35; refine Calls.quiet_of_same ((HOw.out _).mono fun _ _ h => ⟨h.1, h.2.symm⟩)))
    obtain ⟨W6, hW6⟩ : ∃ X, W5.drewN nq = X := ⟨_, rfl⟩
    have HA6 : Hid (AdrIn W6 w.heap.size { u with scheme := sWss } (.slice ea en ec)) := by rw [← hW6]; exact HA5.out
    have HR6 : Hid (AdrIn W6 (w.heap.size + 1) Adr.zero (.slice none 0 0)) := by rw [← hW6]; exact HR5.out
    have HO6 : Hid (W6.ownsRow W2.heap.size 9 1 (.slice ea en ec) u.path.length (cellsS u.path)) := by rw [← hW6]; exact HO5.out
    have HB6 : Hid (Below w.heap.size w W6) := by rw [← hW6]; exact ⟨HB5.out.os, HB5.out.tape, HB5.out.output, HB5.out.size, HB5.out.block⟩
    obtain ⟨g0, g1, g2, g3, g4, g5, g6, g7, g8, g9, g10, g11⟩ := adr_twelve HX5c.out HA6.out
    rw [hW6]
    have ry0 := HR6.out.cell 0 _ rfl
    have rz0 := HR6.out.frozen 0
    have ry1 := HR6.out.cell 1 _ rfl
    have rz1 := HR6.out.frozen 1
    have ry2 := HR6.out.cell 2 _ rfl
    have rz2 := HR6.out.frozen 2
    have ry3 := HR6.out.cell 3 _ rfl
    have rz3 := HR6.out.frozen 3
    have ry4 := HR6.out.cell 4 _ rfl
    have rz4 := HR6.out.frozen 4
    have ry5 := HR6.out.cell 5 _ rfl
    have rz5 := HR6.out.frozen 5
    have ry6 := HR6.out.cell 6 _ rfl
    have rz6 := HR6.out.frozen 6
    have ry7 := HR6.out.cell 7 _ rfl
    have rz7 := HR6.out.frozen 7
    have ry8 := HR6.out.cell 8 _ rfl
    have rz8 := HR6.out.frozen 8
    have ry9 := HR6.out.cell 9 _ rfl
    have rz9 := HR6.out.frozen 9
    have ry10 := HR6.out.cell 10 _ rfl
    have rz10 := HR6.out.frozen 10
    have ry11 := HR6.out.cell 11 _ rfl
    have rz11 := HR6.out.frozen 11
    go_wp2_with fail
    have hrg := range_row (HR6.out.store (v := { u with scheme := sWss }) (qv := .slice ea en ec))
    have hbl := below_setCells (B := w.heap.size) (b := w.heap.size + 1) (Nat.le_succ _) (adrCells { u with scheme := sWss } (.slice ea en ec)) 0 _ HB6.out
    have how := own_path (own_cells HO6.out HR6.out (adrCells { u with scheme := sWss } (.slice ea en ec)) 0)
    have hcs : adrCells { u with scheme := sWss } (.slice ea en ec) = [.string ⟨#[119, 115, 115]⟩, .string d1, .string d2, .string d3, .bool d4, .int .i64 d5, .bool d6, .slice ea en ec, .string d8, .string d9, .bool d10, .bool d11] := HX5c.out
    have hra : raiV u = { u with scheme := sWss } := by rw [rai_ws u HSc.out, if_neg (by rw [← HX5.out]; exact h443)]
    rw [hra]
    refine bodyPost_ret (results_u1 rfl _ _ (w.heap.size + 1) { u with scheme := sWss } (.slice ea en ec) rfl ?_) rfl ⟨.slice ea en ec, ?_, ?_, ?_⟩
    ·rw [hcs] at hrg ⊢; exact hrg
    ·rfl
    ·rw [hcs] at how; exact how
    ·rw [hcs] at hbl; exact hbl
  | false =>
   have ry0 := HR4.out.cell 0 _ rfl
   have rz0 := HR4.out.frozen 0
   have ry1 := HR4.out.cell 1 _ rfl
   have rz1 := HR4.out.frozen 1
   have ry2 := HR4.out.cell 2 _ rfl
   have rz2 := HR4.out.frozen 2
   have ry3 := HR4.out.cell 3 _ rfl
   have rz3 := HR4.out.frozen 3
   have ry4 := HR4.out.cell 4 _ rfl
   have rz4 := HR4.out.frozen 4
   have ry5 := HR4.out.cell 5 _ rfl
   have rz5 := HR4.out.frozen 5
   have ry6 := HR4.out.cell 6 _ rfl
   have rz6 := HR4.out.frozen 6
   have ry7 := HR4.out.cell 7 _ rfl
   have rz7 := HR4.out.frozen 7
   have ry8 := HR4.out.cell 8 _ rfl
   have rz8 := HR4.out.frozen 8
   have ry9 := HR4.out.cell 9 _ rfl
   have rz9 := HR4.out.frozen 9
   have ry10 := HR4.out.cell 10 _ rfl
   have rz10 := HR4.out.frozen 10
   have ry11 := HR4.out.cell 11 _ rfl
   have rz11 := HR4.out.frozen 11
   go_wp2_with fail
   have hrg := range_row (HR4.out.store (v := u) (qv := .slice ea en ec))
   have hbl := below_setCells (B := w.heap.size) (b := w.heap.size + 1) (Nat.le_succ _) (adrCells u (.slice ea en ec)) 0 _ HB4.out
   have how := own_path (own_cells HO4.out HR4.out (adrCells u (.slice ea en ec)) 0)
   have hcs : adrCells u (.slice ea en ec) = [.string d0, .string d1, .string d2, .string d3, .bool d4, .int .i64 d5, .bool d6, .slice ea en ec, .string d8, .string d9, .bool d10, .bool d11] := HXe.out
   have hra : raiV u = u := rai_same u (fun h => by have := HE1.out.symm.trans (beq_yes d0 [104, 116, 116, 112] (HX0.out.trans h)); cases this) (fun h => by have := HE2.out.symm.trans (beq_yes d0 [119, 115] (HX0.out.trans h)); cases this)
   rw [hra]
   refine bodyPost_ret (results_u1 rfl _ _ (w.heap.size + 1) u (.slice ea en ec) rfl ?_) rfl ⟨.slice ea en ec, ?_, ?_, ?_⟩
   ·rw [hcs] at hrg ⊢; exact hrg
   ·rfl
   ·rw [hcs] at how; exact how
   ·rw [hcs] at hbl; exact hbl

end Go.Proofs.YtmhooefajdndjaaGreatDoor

namespace Go.Proofs.YtmhooefajdndjaaGreatDoor
open Go.RowKit

set_option maxHeartbeats 4000000 in
set_option maxRecDepth 100000 in
theorem bad14_any (u : Adr) (pv : Value) (w : World) (hp : PathAt w pv u.path) :
  Calls Tryz.prog 24 #[adrVal u pv] w fun e w' => e = .returned (.bool (badU u)) ∧ Below w.heap.size w w' := by
 obtain ⟨da, dn, dc, rfl⟩ := path_sl hp
 obtain ⟨d0, d1, d2, d3, d4, d5, d6, d8, d9, d10, d11, hxd, hx0, hx3, hx5, -⟩ := adr_named u da dn dc
 have hvd : adrVal u (.slice da dn dc) = .agg #[.string d0, .string d1, .string d2, .string d3, .bool d4, .int .i64 d5, .bool d6, .slice da dn dc, .string d8, .string d9, .bool d10, .bool d11] := by unfold adrVal; rw [hxd]
 rw [hvd]
 obtain ⟨W1, hW1⟩ : ∃ X, (w.alloc (.cells #[.string d0, .string d1, .string d2, .string d3, .bool d4, .int .i64 d5, .bool d6, .slice da dn dc, .string d8, .string d9, .bool d10, .bool d11] 45)) = X := ⟨_, rfl⟩
 have hbW1 : Below w.heap.size w W1 := by rw [← hW1]; exact (Below.refl _ w).alloc (Nat.le_refl _) _
 have hsW1 : W1.heap.size = w.heap.size + 1 := by rw [← hW1]; simp
 have hAW1 : AdrIn W1 w.heap.size u (.slice da dn dc) := by
  unfold AdrIn
  rw [hxd, ← hW1]
  exact heap_alloc_new w _
 have HB1 := hid hbW1
 obtain ⟨y0, y1, y2, y3, y4, y5, y6, y7, y8, y9, y10, y11⟩ := adr_twelve hxd hAW1
 have HS := hid (fun w => special_any d0 w)
 have HP := hid (fun w => badPort_any d5 w)
 rw [hx0] at HS
 obtain ⟨sp, hsp⟩ : ∃ q, specV u.scheme = q := ⟨_, rfl⟩
 obtain ⟨bp, hbp⟩ : ∃ q, badP d5 = q := ⟨_, rfl⟩
 have HV := hid (show badU u = (sp && bp) by unfold badU; rw [hsp, ← hx5, hbp])
 rw [hsp] at HS
 rw [hbp] at HP
 clear hx0 hx3 hx5 hxd hvd hp hbW1 hAW1 hsW1 hsp hbp
 cases sp with
 | false =>
  go_enter Tryz.func24, Tryz.ntmps24
  go_wp2_with fail
  refine (HS.out _).mono ?_
  rintro e w2 ⟨rfl, rfl⟩
  go_wp2
  go_ret
  exact ⟨ret_bool (by rw [HV.out]; rfl), HB1.out⟩
 | true =>
  go_enter Tryz.func24, Tryz.ntmps24
  go_wp2_with fail
  refine (HS.out _).mono ?_
  rintro e w2 ⟨rfl, rfl⟩
  go_wp2_with fail
  refine (HP.out _).mono ?_
  rintro e w3 ⟨rfl, rfl⟩
  go_wp2
  go_ret
  exact ⟨ret_bool (by rw [HV.out]; rfl), HB1.out⟩

set_option maxHeartbeats 4000000 in
set_option maxRecDepth 100000 in
theorem named14_any (h : ByteArray) (w : World) (hh : h.size ≤ 9223372036854775807) :
  Calls Tryz.prog 58 #[.string h] w fun e w' => e = .returned (.bool (nameM h.data.toList)) ∧ Below w.heap.size w w' := by
 have HT := hid (fun w => trim5_any h ⟨#[48, 49, 50, 51, 52, 53, 54, 55, 56, 57, 46]⟩ w hh (by decide) (by decide))
 obtain ⟨T, hT⟩ : ∃ X : ByteArray, X = ⟨(Lib.trimS h.data.toList [48, 49, 50, 51, 52, 53, 54, 55, 56, 57, 46]).toArray⟩ := ⟨_, rfl⟩
 have HT' : Hid (∀ w, Calls Tryz.prog 67 #[.string h, .string ⟨#[48, 49, 50, 51, 52, 53, 54, 55, 56, 57, 46]⟩] w fun e w' => e = .returned (.string T) ∧ Below w.heap.size w w') := by rw [hT]; exact HT.out
 obtain ⟨q1, e1⟩ : ∃ q, Lib.hasPrefix h.data.toList [91] = q := ⟨_, rfl⟩
 obtain ⟨q2, e2⟩ : ∃ q, T.toList.isEmpty = q := ⟨_, rfl⟩
 have HP : Hid (∀ w, Calls Tryz.prog 38 #[.string h, .string ⟨#[91]⟩] w fun e w' => e = .returned (.bool q1) ∧ w' = w) := fun w => by rw [← e1]; exact Tryz.strings_HasPrefix h _ w
 have HV := hid (show nameM h.data.toList = (!q1 && !q2) by unfold nameM numO; rw [e1, ← e2, Lib.toList_data, hT])
 clear HT hT e1 hh
 cases q1 with
 | true =>
  go_enter Tryz.func58, Tryz.ntmps58
  go_wp2_with fail
  refine (HP.out _).mono ?_
  rintro e w2 ⟨rfl, hw2⟩
  rw [hw2]
  go_wp2
  go_ret
  exact ⟨ret_bool (by rw [HV.out]; rfl), Below.refl _ _⟩
 | false =>
  go_enter Tryz.func58, Tryz.ntmps58
  go_wp2_with fail
  refine (HP.out _).mono ?_
  rintro e w2 ⟨rfl, hw2⟩
  rw [hw2]
  clear hw2
  go_wp2_with fail
  refine (HT'.out _).mono ?_
  rintro e w3 ⟨rfl, hb⟩
  cases q2 with
  | true =>
   go_wp2
   go_ret
   exact ⟨ret_bool (by rw [HV.out]; rfl), hb⟩
  | false =>
   go_wp2
   go_ret
   exact ⟨ret_bool (by rw [HV.out]; rfl), hb⟩

set_option maxHeartbeats 8000000 in
set_option maxRecDepth 100000 in
theorem judge14_any (p u : Adr) (qv pv : Value) (dest : Int) (w : World) (hg : Gd w) (hq : PathAt w qv p.path) (hp : PathAt w pv u.path) (ht : TrOk u) :
  Calls Tryz.prog 29 #[adrVal p qv, adrVal u pv, .int .i64 dest] w fun e w' => e = .returned (.int .i64 (judV p u dest)) ∧ Below w.heap.size w w' := by
 have HTr := hid (fun (X : World) (hX : Gd X) (h : PathAt X pv u.path) => trusted_any u pv X hX h ht)
 obtain ⟨pa, pn, pc, rfl⟩ := path_sl hq
 obtain ⟨p0, p1, p2, p3, p4, p5, p6, p8, p9, p10, p11, hxp, hy0, -, -, -⟩ := adr_named p pa pn pc
 have hvp : adrVal p (.slice pa pn pc) = .agg #[.string p0, .string p1, .string p2, .string p3, .bool p4, .int .i64 p5, .bool p6, .slice pa pn pc, .string p8, .string p9, .bool p10, .bool p11] := by unfold adrVal; rw [hxp]
 rw [hvp]
 obtain ⟨da, dn, dc, rfl⟩ := path_sl hp
 obtain ⟨d0, d1, d2, d3, d4, d5, d6, d8, d9, d10, d11, hxd, hx0, hx3, -, -⟩ := adr_named u da dn dc
 have hvd : adrVal u (.slice da dn dc) = .agg #[.string d0, .string d1, .string d2, .string d3, .bool d4, .int .i64 d5, .bool d6, .slice da dn dc, .string d8, .string d9, .bool d10, .bool d11] := by unfold adrVal; rw [hxd]
 rw [hvd] at HTr ⊢
 obtain ⟨W1, hW1⟩ : ∃ X, (w.alloc (.cells #[.string p0, .string p1, .string p2, .string p3, .bool p4, .int .i64 p5, .bool p6, .slice pa pn pc, .string p8, .string p9, .bool p10, .bool p11] 45)) = X := ⟨_, rfl⟩
 have hbW1 : Below w.heap.size w W1 := by rw [← hW1]; exact (Below.refl _ w).alloc (Nat.le_refl _) _
 have hsW1 : W1.heap.size = w.heap.size + 1 := by rw [← hW1]; simp
 have hAW1 : AdrIn W1 w.heap.size p (.slice pa pn pc) := by
  unfold AdrIn
  rw [hxp, ← hW1]
  exact heap_alloc_new w _
 obtain ⟨W2, hW2⟩ : ∃ X, (W1.alloc (.cells #[.string d0, .string d1, .string d2, .string d3, .bool d4, .int .i64 d5, .bool d6, .slice da dn dc, .string d8, .string d9, .bool d10, .bool d11] 45)) = X := ⟨_, rfl⟩
 have hbW2 : Below W1.heap.size W1 W2 := by rw [← hW2]; exact (Below.refl _ W1).alloc (Nat.le_refl _) _
 have hsW2 : W2.heap.size = W1.heap.size + 1 := by rw [← hW2]; simp
 have hAW2 : AdrIn W2 W1.heap.size u (.slice da dn dc) := by
  unfold AdrIn
  rw [hxd, ← hW2]
  exact heap_alloc_new W1 _
 have hB2 := below2 hbW1 hbW2
 have HB2 := hid hB2
 have HG2 := hid (hg.kept hB2)
 have HP2 := hid (hp.kept hB2)
 obtain ⟨x0, x1, x2, x3, x4, x5, x6, x7, x8, x9, x10, x11⟩ := adr_twelve hxp (hAW1.kept hbW2)
 obtain ⟨y0, y1, y2, y3, y4, y5, y6, y7, y8, y9, y10, y11⟩ := adr_twelve hxd hAW2
 rw [hsW1] at y0 y1 y2 y3 y4 y5 y6 y7 y8 y9 y10 y11
 have hW2' : W1.alloc (.cells #[.string d0, .string d1, .string d2, .string d3, .bool d4, .int .i64 d5, .bool d6, .slice da dn dc, .string d8, .string d9, .bool d10, .bool d11] 45) = W2 := hW2
 have HA2 := hid hAW2
 rw [hsW1] at HA2
 have HXd := hid hxd
 obtain ⟨tr, htr⟩ : ∃ q, trustV u = q := ⟨_, rfl⟩
 rw [htr] at HTr
 have HNm := hid (fun w => named14_any d3 w (by rw [Lib.size_eq, hx3]; have := ht.2.2; omega))
 rw [hx3] at HNm
 obtain ⟨nm, hnm⟩ : ∃ q, nameM u.host = q := ⟨_, rfl⟩
 rw [hnm] at HNm
 obtain ⟨q1, e1⟩ : ∃ q, (p0.toList == [104, 116, 116, 112, 115]) = q := ⟨_, rfl⟩
 obtain ⟨q2, e2⟩ : ∃ q, (d0.toList == [104, 116, 116, 112]) = q := ⟨_, rfl⟩
 obtain ⟨q3, e3⟩ : ∃ q, (d0.toList == [119, 115]) = q := ⟨_, rfl⟩
 obtain ⟨q4, e4⟩ : ∃ q, decide (dest = 4) = q := ⟨_, rfl⟩
 have n1 : (p0.toList != [104, 116, 116, 112, 115]) = !q1 := by rw [← e1]; rfl
 have n2 : (d0.toList != [104, 116, 116, 112]) = !q2 := by rw [← e2]; rfl
 have n3 : (d0.toList != [119, 115]) = !q3 := by rw [← e3]; rfl
 have HV := hid (show judV p u dest = judT q1 tr q2 q3 q4 nm by
  unfold judV
  rw [htr, hnm, ← e1, ← e2, ← e3, ← e4, Lib.toList_data, Lib.toList_data, hy0, hx0]
  rfl)
 have HQ := hid (show ¬ (q2 = true ∧ q3 = true) from fun h => by
  have h1 := beq_iff_eq.1 (e2.trans h.1)
  have h2 := beq_iff_eq.1 (e3.trans h.2)
  rw [h1] at h2
  cases h2)
 clear hx0 hx3 hy0 hxp hvp hxd hvd hg hp hq ht hbW1 hbW2 hAW1 hAW2 hsW2 hB2 htr hnm
 cases q1 with
 | false =>
  go_enter Tryz.func29, Tryz.ntmps29
  go_wp2
  go_ret
  exact ⟨ret_int (by rw [HV.out]; rfl), HB2.out⟩
 | true =>
  cases tr with
  | true =>
   go_enter Tryz.func29, Tryz.ntmps29
   go_wp2_with fail
   refine (HTr.out _ HG2.out HP2.out).mono ?_
   rintro e w3 ⟨rfl, hb3⟩
   have HB3 := hid (below2 HB2.out hb3)
   go_wp2
   go_ret
   exact ⟨ret_int (by rw [HV.out]; rfl), HB3.out⟩
  | false =>
   cases q2 with
   | false =>
    cases q3 with
    | false =>
     go_enter Tryz.func29, Tryz.ntmps29
     go_wp2_with fail
     refine (HTr.out _ HG2.out HP2.out).mono ?_
     rintro e w3 ⟨rfl, hb3⟩
     have HB3 := hid (below2 HB2.out hb3)
     obtain ⟨z0, z1, z2, z3, z4, z5, z6, z7, z8, z9, z10, z11⟩ := adr_twelve HXd.out (HA2.out.kept hb3)
     clear hb3
     go_wp2
     go_ret
     exact ⟨ret_int (by rw [HV.out]; rfl), HB3.out⟩
    | true =>
     go_enter Tryz.func29, Tryz.ntmps29
     go_wp2_with fail
     refine (HTr.out _ HG2.out HP2.out).mono ?_
     rintro e w3 ⟨rfl, hb3⟩
     have HB3 := hid (below2 HB2.out hb3)
     obtain ⟨z0, z1, z2, z3, z4, z5, z6, z7, z8, z9, z10, z11⟩ := adr_twelve HXd.out (HA2.out.kept hb3)
     clear hb3
     go_wp2
     go_ret
     exact ⟨ret_int (by rw [HV.out]; rfl), HB3.out⟩
   | true =>
    cases q4 with
    | false =>
     have hd4 : ¬ dest = 4 := of_decide_eq_false e4
     go_enter Tryz.func29, Tryz.ntmps29
     go_wp2_with fail
     refine (HTr.out _ HG2.out HP2.out).mono ?_
     rintro e w3 ⟨rfl, hb3⟩
     have HB3 := hid (below2 HB2.out hb3)
     obtain ⟨z0, z1, z2, z3, z4, z5, z6, z7, z8, z9, z10, z11⟩ := adr_twelve HXd.out (HA2.out.kept hb3)
     clear hb3
     go_wp2
     go_ret
     exact ⟨ret_int (by rw [HV.out]; rfl), HB3.out⟩
    | true =>
     have hd4 : dest = 4 := of_decide_eq_true e4
     subst hd4
     go_enter Tryz.func29, Tryz.ntmps29
     go_wp2_with fail
     refine (HTr.out _ HG2.out HP2.out).mono ?_
     rintro e w3 ⟨rfl, hb3⟩
     have HB3 := hid (below2 HB2.out hb3)
     obtain ⟨z0, z1, z2, z3, z4, z5, z6, z7, z8, z9, z10, z11⟩ := adr_twelve HXd.out (HA2.out.kept hb3)
     clear hb3
     go_wp2_with fail
     refine (HNm.out _).mono ?_
     rintro e w4 ⟨rfl, hb4⟩
     have HB4 := hid (below2 HB3.out hb4)
     clear hb4
     cases nm with
     | true =>
      go_wp2
      go_ret
      exact ⟨ret_int (by rw [HV.out]; rfl), HB4.out⟩
     | false =>
      go_wp2
      go_ret
      exact ⟨ret_int (by rw [HV.out]; rfl), HB4.out⟩

end Go.Proofs.YtmhooefajdndjaaGreatDoor

namespace Go.Proofs.YtmhooefajdndjaaGreatDoor
open Go.RowKit

theorem tr_zero4 : TrOk Adr.zero := ⟨by decide, by decide, by decide⟩

theorem tr_read (s : List UInt8) : TrOk (adrOf (readV s none)) := by
 cases hr : readV s none with
 | ok v => exact slim_tr (parse_slim hr)
 | error e => exact tr_zero4

end Go.Proofs.YtmhooefajdndjaaGreatDoor
