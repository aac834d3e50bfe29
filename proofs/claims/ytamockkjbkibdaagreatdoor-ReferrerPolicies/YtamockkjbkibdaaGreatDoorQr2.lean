/-
  Walks and plain facts that this claim leans on, put together out of 3 texts: Exb, Xk, Exd.
-/
import Derived.Test.YtamockkjbkibdaaGreatDoorProg
import Derived.Test.YtamockkjbkibdaaGreatDoorQa1
import Derived.Test.YtamockkjbkibdaaGreatDoorQa2
import Derived.Test.YtamockkjbkibdaaGreatDoorQa3
import Derived.Test.YtamockkjbkibdaaGreatDoorQa4
import Derived.Test.YtamockkjbkibdaaGreatDoorQa5
import Derived.Test.YtamockkjbkibdaaGreatDoorQa6
import Derived.Test.YtamockkjbkibdaaGreatDoorQa7
import Derived.Test.YtamockkjbkibdaaGreatDoorQa8
import Derived.Test.YtamockkjbkibdaaGreatDoorQa9
import Derived.Test.YtamockkjbkibdaaGreatDoorQa10
import Derived.Test.YtamockkjbkibdaaGreatDoorQa11
import Derived.Test.YtamockkjbkibdaaGreatDoorQa12
import Derived.Test.YtamockkjbkibdaaGreatDoorQa13
import Derived.Test.YtamockkjbkibdaaGreatDoorQa14
import Derived.Test.YtamockkjbkibdaaGreatDoorQa15
import Derived.Test.YtamockkjbkibdaaGreatDoorQa16
import Derived.Test.YtamockkjbkibdaaGreatDoorQa17
import Derived.Test.YtamockkjbkibdaaGreatDoorQa18
import Derived.Test.YtamockkjbkibdaaGreatDoorQa19
import Derived.Test.YtamockkjbkibdaaGreatDoorQa20
import Derived.Test.YtamockkjbkibdaaGreatDoorQa21
import Derived.Test.YtamockkjbkibdaaGreatDoorQa22
import Derived.Test.YtamockkjbkibdaaGreatDoorQa23
import Derived.Test.YtamockkjbkibdaaGreatDoorQa24
import Derived.Test.YtamockkjbkibdaaGreatDoorQa25
import Derived.Test.YtamockkjbkibdaaGreatDoorQa26
import Derived.Test.YtamockkjbkibdaaGreatDoorQa27
import Derived.Test.YtamockkjbkibdaaGreatDoorQa28
import Derived.Test.YtamockkjbkibdaaGreatDoorQa29
import Derived.Test.YtamockkjbkibdaaGreatDoorQa30
import Derived.Test.YtamockkjbkibdaaGreatDoorQa31
import Derived.Test.YtamockkjbkibdaaGreatDoorQa32
import Derived.Test.YtamockkjbkibdaaGreatDoorQr1
import Derived.Deep.Cut
import Derived.Deep.QuietTactic
import Derived.BigQuiet
import Derived.BigRegion
import Derived.Deep.RegionHeld
import Derived.Deep.CutRange
import Derived.Lib.IndexMore
import Derived.Lib.Join
import Derived.Lib.LastIndexByte
import Derived.WalkKit
import Derived.Lib.Strings
import Derived.Lib.UnsafeStr
import Derived.Laws.IdiomStrings
import Derived.Laws.AppendOwn
import Derived.Laws.BitsAllLaws
import Derived.Lib.Bytealg
import Derived.Lib.BufferMore
import Derived.Lib.BufferRead
import Derived.Lib.RuneBytes
import Derived.Laws.RangeAny
import Derived.LoopN
import Derived.RegionTactic
import Derived.Deep.RegionWith
import Derived.OwnWalk
import Derived.Deep.RegionLaw
import Derived.Laws.OwnMore
import Derived.Deep.LoopGhost
import Derived.Shelf.Strings.Builder1
import Derived.Shelf.Strings.Builder2
import Derived.Shelf.Strings.OnBuilder
import Derived.Shelf.Strings.Trim
import Derived.Shelf.Small.Utf8
import Derived.Shelf.Small.Strs
import Derived.Shelf.Small.Wraps
import Derived.Shelf.Strings.BuilderF
import Derived.Shelf.Strings.BuilderK
import Derived.Shelf.Strings.BuilderRune
import Derived.Shelf.Utf8.AppendRune
import Derived.Shelf.Utf8.AppendRunePlain
import Derived.Shelf.Strings.Builder2Cap
import Derived.Shelf.Strconv.Itoa0
import Derived.Shelf.Strconv.Itoa1
import Derived.Shelf.LaysM
import Derived.Shelf.Strconv.Itoa2
import Derived.Shelf.Strconv.Itoa3
import Derived.Shelf.Strings.Search1
import Derived.Shelf.Strings.Search2
import Derived.Shelf.Strings.Search3
import Derived.Shelf.Strings.Cut
import Derived.Shelf.Strings.Count
import Derived.Shelf.Strings.Shaped
import Derived.Shelf.Strings.LastIndex
import Derived.Shelf.Strings.Prefix
import Derived.Shelf.Strings.Split
import Derived.Shelf.Strings.Replace
import Derived.Shelf.Strings.Runes
import Derived.Shelf.Strings.IndexAny
import Derived.Shelf.Strings.AsciiSet
import Derived.Shelf.Strings.IndexAnyAll
import Derived.Shelf.Unicode.DecodeSlow
import Derived.Ground.Names2Prog
import Derived.Shelf.Slices.Clone
import Derived.Ground.SlgnProg
import Derived.Shelf.SlicesE.Clone
import Derived.Laws.AppendOwnNone
import Derived.Scope
import Derived.ScopeJumps
import Derived.WalkMore
import Derived.Lib.IndexAny
import Derived.Lib.Replace
import Derived.Lib.TrimByte
import Derived.Lib.ItoaNum
import Derived.Lib.DecodeN
import Derived.Lib.OthersKept
import Derived.Laws.BytesString
import Derived.Deep.WholeRow
import Derived.Lib.AppendStr
import Derived.WalkSpells
import Derived.WalkLawsBesides
import Derived.Lib.AppendIntMem
import Derived.Lib.SmallJoins
import Derived.WalkSmall
import Derived.Laws.CopyOwn
import Derived.Laws.ResultCell
import Derived.Deep.MidRow
import Derived.Lib.FrozenHead2
import Derived.Lib.Builder
import Derived.Lib.SlTrimSet
import Derived.Below
import Derived.Shelf.Strings.SlTrimAscii
import Derived.Laws.Runes
set_option linter.unusedSimpArgs false
set_option linter.unusedVariables false

namespace Go.Proofs.YtamockkjbkibdaaGreatDoor
open Go.RowKit

set_option maxHeartbeats 4000000 in
set_option maxRecDepth 100000 in
theorem known13_any (s : ByteArray) (w : World) :
  Calls Tryz.prog 37 #[.string s] w fun e w' => e = .returned (.bool (knownR s.data.toList)) ∧ w = w' := by
 obtain ⟨q0, e0⟩ : ∃ q, (s.toList == [110, 111, 45, 114, 101, 102, 101, 114, 114, 101, 114]) = q := ⟨_, rfl⟩
 obtain ⟨q1, e1⟩ : ∃ q, (s.toList == [110, 111, 45, 114, 101, 102, 101, 114, 114, 101, 114, 45, 119, 104, 101, 110, 45, 100, 111, 119, 110, 103, 114, 97, 100, 101]) = q := ⟨_, rfl⟩
 obtain ⟨q2, e2⟩ : ∃ q, (s.toList == [115, 97, 109, 101, 45, 111, 114, 105, 103, 105, 110]) = q := ⟨_, rfl⟩
 obtain ⟨q3, e3⟩ : ∃ q, (s.toList == [111, 114, 105, 103, 105, 110]) = q := ⟨_, rfl⟩
 obtain ⟨q4, e4⟩ : ∃ q, (s.toList == [115, 116, 114, 105, 99, 116, 45, 111, 114, 105, 103, 105, 110]) = q := ⟨_, rfl⟩
 obtain ⟨q5, e5⟩ : ∃ q, (s.toList == [111, 114, 105, 103, 105, 110, 45, 119, 104, 101, 110, 45, 99, 114, 111, 115, 115, 45, 111, 114, 105, 103, 105, 110]) = q := ⟨_, rfl⟩
 obtain ⟨q6, e6⟩ : ∃ q, (s.toList == [115, 116, 114, 105, 99, 116, 45, 111, 114, 105, 103, 105, 110, 45, 119, 104, 101, 110, 45, 99, 114, 111, 115, 115, 45, 111, 114, 105, 103, 105, 110]) = q := ⟨_, rfl⟩
 obtain ⟨q7, e7⟩ : ∃ q, (s.toList == [117, 110, 115, 97, 102, 101, 45, 117, 114, 108]) = q := ⟨_, rfl⟩
 have HV := hid (show knownR s.data.toList = (q0 || (q1 || (q2 || (q3 || (q4 || (q5 || (q6 || (q7)))))))) by
  unfold knownR
  rw [← e0, ← e1, ← e2, ← e3, ← e4, ← e5, ← e6, ← e7, Lib.toList_data]
  rfl)
 cases q0 with
 | true =>
  go_enter Tryz.func37, Tryz.ntmps37
  go_wp2
  go_ret
  exact ⟨ret_bool (by rw [HV.out]; rfl), rfl⟩
 | false =>
  cases q1 with
  | true =>
   go_enter Tryz.func37, Tryz.ntmps37
   go_wp2
   go_ret
   exact ⟨ret_bool (by rw [HV.out]; rfl), rfl⟩
  | false =>
   cases q2 with
   | true =>
    go_enter Tryz.func37, Tryz.ntmps37
    go_wp2
    go_ret
    exact ⟨ret_bool (by rw [HV.out]; rfl), rfl⟩
   | false =>
    cases q3 with
    | true =>
     go_enter Tryz.func37, Tryz.ntmps37
     go_wp2
     go_ret
     exact ⟨ret_bool (by rw [HV.out]; rfl), rfl⟩
    | false =>
     cases q4 with
     | true =>
      go_enter Tryz.func37, Tryz.ntmps37
      go_wp2
      go_ret
      exact ⟨ret_bool (by rw [HV.out]; rfl), rfl⟩
     | false =>
      cases q5 with
      | true =>
       go_enter Tryz.func37, Tryz.ntmps37
       go_wp2
       go_ret
       exact ⟨ret_bool (by rw [HV.out]; rfl), rfl⟩
      | false =>
       cases q6 with
       | true =>
        go_enter Tryz.func37, Tryz.ntmps37
        go_wp2
        go_ret
        exact ⟨ret_bool (by rw [HV.out]; rfl), rfl⟩
       | false =>
        cases q7 with
        | true =>
         go_enter Tryz.func37, Tryz.ntmps37
         go_wp2
         go_ret
         exact ⟨ret_bool (by rw [HV.out]; rfl), rfl⟩
        | false =>
         go_enter Tryz.func37, Tryz.ntmps37
         go_wp2
         go_ret
         exact ⟨ret_bool (by rw [HV.out]; rfl), rfl⟩

theorem strip_no {u : Adr} (only : Bool) (h : webV u.scheme = false) : stripV u only = [] := by unfold stripV; rw [h]; rfl

theorem strip_bare {u : Adr} (h : webV u.scheme = true) (hl : (bareV (clearU u)).length ≤ 4096) : stripV u false = bareV (clearU u) := by
 unfold stripV; rw [h]; simp [hl]

theorem strip_long {u : Adr} (h : webV u.scheme = true) (hl : ¬ (bareV (clearU u)).length ≤ 4096) : stripV u false = textO (orgV (clearU u)) ++ [47] := by
 unfold stripV; rw [h]; simp [hl]

theorem strip_only {u : Adr} (h : webV u.scheme = true) : stripV u true = textO (orgV (clearU u)) ++ [47] := by
 unfold stripV; rw [h]; rfl

theorem textO_short {o : Org} (hs : o.scheme.length ≤ 1000000) (hh : o.host.length ≤ 1000000) : (textO o).length ≤ 3000000 := by
 have h1 := portT_len o.port
 unfold textO
 split
 ·simp
 ·simp only [List.length_append, List.length_cons, List.length_nil]
  have : (if o.port = ownV o.scheme then ([] : List UInt8) else [58] ++ portT o.port).length ≤ 7 := by
   split
   ·simp
   ·simp; omega
  simp only [List.cons_append, List.nil_append] at this ⊢
  omega

theorem or_ff {a b : Bool} (h : (a || b) = false) : a = false ∧ b = false := by revert h; cases a <;> cases b <;> decide

theorem or_tt {a b : Bool} (h : (a || b) = true) : a = true ∨ (a = false ∧ b = true) := by revert h; cases a <;> cases b <;> decide

theorem clear_tr {u : Adr} (h : TrOk u) : TrOk (clearU u) := h

theorem clear_fine {u : Adr} (h : Fine u) : Fine (clearU u) := by
 unfold Fine at h ⊢
 simp only [clearU, List.length_nil]
 omega

def StOk (u : Adr) : Prop := Fine u ∧ TrOk u

theorem slim_st {u : Adr} (h : Slim 20000 u) : StOk u := ⟨h.fine (by omega), slim_tr h⟩

set_option maxHeartbeats 8000000 in
set_option maxRecDepth 100000 in
theorem strip13_any (u : Adr) (pv : Value) (only : Bool) (w : World) (hg : Gd w) (hp : PathAt w pv u.path) (hs : StOk u) :
  Calls Tryz.prog 36 #[adrVal u pv, .bool only] w fun e w' => e = .returned (.string ⟨(stripV u only).toArray⟩) ∧ Below w.heap.size w w' := by
 obtain ⟨hfi, htr⟩ := hs
 have HBa := hid (fun (X : World) (hX : Gd X) (h : PathAt X pv (clearU u).path) => bare_any (clearU u) pv X hX h (clear_fine hfi))
 have HOf := hid (fun (X : World) (hX : Gd X) (h : PathAt X pv (clearU u).path) => of_any (clearU u) pv X hX h htr.1 htr.2.1)
 obtain ⟨BB, hBB⟩ : ∃ X : ByteArray, X = ⟨(bareV (clearU u)).toArray⟩ := ⟨_, rfl⟩
 rw [← hBB] at HBa
 have HBl := hid (show BB.data.toList = bareV (clearU u) by rw [hBB])
 obtain ⟨da, dn, dc, rfl⟩ := path_sl hp
 obtain ⟨d0, d1, d2, d3, d4, d5, d6, d8, d9, d10, d11, hxd, hx0, hx3, -, -⟩ := adr_named u da dn dc
 have hvd : adrVal u (.slice da dn dc) = .agg #[.string d0, .string d1, .string d2, .string d3, .bool d4, .int .i64 d5, .bool d6, .slice da dn dc, .string d8, .string d9, .bool d10, .bool d11] := by unfold adrVal; rw [hxd]
 have hxc : adrCells (clearU u) (.slice da dn dc) = [.string d0, .string ⟨#[]⟩, .string ⟨#[]⟩, .string d3, .bool d4, .int .i64 d5, .bool d6, .slice da dn dc, .string d8, .string d9, .bool d10, .bool d11] := by
  have : adrCells (clearU u) (.slice da dn dc) = ((adrCells u (.slice da dn dc)).set 1 (.string ⟨#[]⟩)).set 2 (.string ⟨#[]⟩) := rfl
  rw [this, hxd]
  rfl
 have hvc : adrVal (clearU u) (.slice da dn dc) = .agg #[.string d0, .string ⟨#[]⟩, .string ⟨#[]⟩, .string d3, .bool d4, .int .i64 d5, .bool d6, .slice da dn dc, .string d8, .string d9, .bool d10, .bool d11] := by unfold adrVal; rw [hxc]
 rw [hvc] at HBa HOf
 rw [hvd]
 obtain ⟨W1, hW1⟩ : ∃ X, (w.alloc (.cells #[.string d0, .string d1, .string d2, .string d3, .bool d4, .int .i64 d5, .bool d6, .slice da dn dc, .string d8, .string d9, .bool d10, .bool d11] 24)) = X := ⟨_, rfl⟩
 have hbW1 : Below w.heap.size w W1 := by rw [← hW1]; exact (Below.refl _ w).alloc (Nat.le_refl _) _
 have hsW1 : W1.heap.size = w.heap.size + 1 := by rw [← hW1]; simp
 have hAW1 : AdrIn W1 w.heap.size u (.slice da dn dc) := by
  unfold AdrIn
  rw [hxd, ← hW1]
  exact heap_alloc_new w _
 have HB1 := hid hbW1
 obtain ⟨q1, eq1⟩ : ∃ q, (d0.toList == [104, 116, 116, 112]) = q := ⟨_, rfl⟩
 obtain ⟨q2, eq2⟩ : ∃ q, (d0.toList == [104, 116, 116, 112, 115]) = q := ⟨_, rfl⟩
 have nq1 : (d0.toList != [104, 116, 116, 112]) = !q1 := by rw [← eq1]; rfl
 have nq2 : (d0.toList != [104, 116, 116, 112, 115]) = !q2 := by rw [← eq2]; rfl
 have HW := hid (show webV u.scheme = (q1 || q2) by unfold webV; rw [← eq1, ← eq2, Lib.toList_data, hx0]; rfl)
 obtain ⟨y0, y1, y2, y3, y4, y5, y6, y7, y8, y9, y10, y11⟩ := adr_twelve hxd hAW1
 by_cases hw : webV u.scheme = false
 ·obtain ⟨hq1, hq2⟩ := or_ff (HW.out.symm.trans hw)
  subst hq1 hq2
  have HV := hid (strip_no only hw)
  clear hBB hx0 hx3 hxd hxc hvd hvc hg hp hfi htr hbW1 hAW1 hsW1 hw HOf HBa
  go_enter Tryz.func36, Tryz.ntmps36
  go_wp2
  go_ret
  exact ⟨ret_str' (by rw [HV.out]), HB1.out⟩
 ·have hw' : webV u.scheme = true := by simpa using hw
  have HWt := hid hw'
  have f1 := hAW1.frozen 1
  have f2 := hAW1.frozen 2
  obtain ⟨Wn, hWn⟩ : ∃ X, ((W1.setCell ⟨w.heap.size, 1, none⟩ (.string ⟨#[]⟩)).setCell ⟨w.heap.size, 2, none⟩ (.string ⟨#[]⟩)) = X := ⟨_, rfl⟩
  have h9 : AdrIn (W1.setCell ⟨w.heap.size, 1, none⟩ (.string ⟨#[]⟩)) w.heap.size { u with user := [] } (.slice da dn dc) := hAW1.set 1 _ rfl
  have h10 : AdrIn Wn w.heap.size (clearU u) (.slice da dn dc) := by rw [← hWn]; exact h9.set 2 _ rfl
  have hbn : Below w.heap.size w Wn := by rw [← hWn]; exact (hbW1.setCell (p := ⟨w.heap.size, 1, none⟩) (Nat.le_refl _) _).setCell (p := ⟨w.heap.size, 2, none⟩) (Nat.le_refl _) _
  have HBn := hid hbn
  have HGn := hid (hg.kept hbn)
  have HPn := hid (hp.kept hbn)
  have HAn := hid h10
  have HXc := hid hxc
  have hOo : orgV (clearU u) = ⟨u.scheme, u.host, hasP u, false⟩ := org_web (u := clearU u) hw'
  have hown : 0 ≤ ownV u.scheme ∧ ownV u.scheme ≤ 65535 := by rcases web_cases hw' with e | e <;> rw [e] <;> decide
  have hhp : 0 ≤ hasP u ∧ hasP u ≤ 65535 := by
   unfold hasP
   split
   ·exact hown
   ·rcases hfi.1 with e | e
    ·rename_i hn; exact absurd e hn
    ·exact e
  obtain ⟨TT, hTT⟩ : ∃ X : ByteArray, X = ⟨(textO (orgV (clearU u))).toArray⟩ := ⟨_, rfl⟩
  have HTl := hid (show TT.data.toList = textO (orgV (clearU u)) by rw [hTT])
  have hTs : TT.size ≤ 3000000 := by rw [Lib.size_eq, HTl.out, hOo]; exact textO_short hfi.2.1.1 hfi.2.1.2.2.2
  have HTx := hid (fun (X : World) (hX : Gd X) => textO_any (orgV (clearU u)) X hX (by rw [hOo]; exact hfi.2.1.1) (by rw [hOo]; exact hfi.2.1.2.2.2) (by rw [hOo]; exact fun _ => hhp))
  rw [← hTT] at HTx
  generalize horg : orgV (clearU u) = OO at HOf HTx
  rw [horg] at HTl
  have HSO := hid (strip_only hw')
  have HSL := hid (strip_long hw')
  have HSB := hid (strip_bare hw')
  rw [horg] at HSO HSL
  clear hBB hx0 hx3 hxd hxc hvd hvc hg hp hfi htr hbW1 hAW1 hsW1 hw hw' h9 h10 hbn hOo hown hhp hTT horg
  have hws := or_tt (HW.out.symm.trans HWt.out)
  obtain ⟨z0, z1, z2, z3, z4, z5, z6, z7, z8, z9, z10, z11⟩ := adr_twelve HXc.out HAn.out
  by_cases hle : (bareV (clearU u)).length ≤ 4096
  ·have hsz : (BB.size : Int) ≤ 4096 := by rw [Lib.size_eq, HBl.out]; omega
   have HSB2 := hid (HSB.out hle)
   clear hle HSL HSB
   rcases hws with rfl | ⟨rfl, rfl⟩
   all_goals
    go_enter Tryz.func36, Tryz.ntmps36
    go_wp2_with fail
    refine (HBa.out _ HGn.out HPn.out).mono ?_
    rintro e w2 ⟨rfl, hb2⟩
    have HB2 := hid (below2 HBn.out hb2)
    have HG2 := hid (HGn.out.kept hb2)
    have HP2 := hid (HPn.out.kept hb2)
    have HA2 := hid (HAn.out.kept hb2)
    clear hb2
    cases only with
    | false =>
     go_wp2
     go_ret
     exact ⟨ret_str' (by refine ba_ext ?_; rw [HSB2.out, HBl.out]), HB2.out⟩
    | true =>
     obtain ⟨v0, v1, v2, v3, v4, v5, v6, v7, v8, v9, v10, v11⟩ := adr_twelve HXc.out HA2.out
     go_wp2_with fail
     refine (HOf.out _ HG2.out HP2.out).mono ?_
     rintro e w3 ⟨rfl, hb3⟩
     have HB3 := hid (below2 HB2.out hb3)
     have HG3 := hid (HG2.out.kept hb3)
     clear hb3 v0 v1 v2 v3 v4 v5 v6 v7 v8 v9 v10 v11
     go_wp2_with fail
     refine (HTx.out _ HG3.out).mono ?_
     rintro e w4 ⟨rfl, hb4⟩
     go_wp2
     go_ret
     exact ⟨ret_str' (by refine ba_ext ?_; rw [HSO.out, ByteArray.data_append, Array.toList_append, HTl.out]), below2 HB3.out hb4⟩
  ·have hsz : ¬ (BB.size : Int) ≤ 4096 := by rw [Lib.size_eq, HBl.out]; omega
   have hsz2 : (4096 : Int) < (BB.size : Int) := by omega
   have HSL2 := hid (HSL.out hle)
   clear hle HSL HSB
   rcases hws with rfl | ⟨rfl, rfl⟩
   all_goals
    go_enter Tryz.func36, Tryz.ntmps36
    go_wp2_with fail
    refine (HBa.out _ HGn.out HPn.out).mono ?_
    rintro e w2 ⟨rfl, hb2⟩
    have HB2 := hid (below2 HBn.out hb2)
    have HG2 := hid (HGn.out.kept hb2)
    have HP2 := hid (HPn.out.kept hb2)
    have HA2 := hid (HAn.out.kept hb2)
    clear hb2
    obtain ⟨v0, v1, v2, v3, v4, v5, v6, v7, v8, v9, v10, v11⟩ := adr_twelve HXc.out HA2.out
    cases only
    all_goals
     go_wp2_with fail
     refine (HOf.out _ HG2.out HP2.out).mono ?_
     rintro e w3 ⟨rfl, hb3⟩
     have HB3 := hid (below2 HB2.out hb3)
     have HG3 := hid (HG2.out.kept hb3)
     clear hb3 v0 v1 v2 v3 v4 v5 v6 v7 v8 v9 v10 v11
     go_wp2_with fail
     refine (HTx.out _ HG3.out).mono ?_
     rintro e w4 ⟨rfl, hb4⟩
     go_wp2
     go_ret
     exact ⟨ret_str' (by refine ba_ext ?_; first | rw [HSO.out, ByteArray.data_append, Array.toList_append, HTl.out] | rw [HSL2.out, ByteArray.data_append, Array.toList_append, HTl.out]), below2 HB3.out hb4⟩

end Go.Proofs.YtamockkjbkibdaaGreatDoor

namespace Go.Proofs.YtamockkjbkibdaaGreatDoor
open Go.RowKit

def restP (out : List (List UInt8)) (r : List UInt8) (mo : Bool) : List (List UInt8) := if mo then out ++ (pcs r).map trimB else out

theorem pcs_cut (r : List UInt8) : pcs r = if cutB r then cutA r :: pcs (cutR r) else [cutA r] := by
 unfold cutA cutR cutB
 cases h : cutQ false r with
 | none => rw [pcs_none r h]; rfl
 | some k => rw [pcs_some r k h]; rfl

theorem restP_step (out : List (List UInt8)) (r : List UInt8) : restP out r true = restP (out ++ [trimB (cutA r)]) (cutR r) (cutB r) := by
 unfold restP
 rw [if_pos rfl, pcs_cut]
 cases cutB r <;> simp

theorem cutR_len (r : List UInt8) (h : cutB r = true) : (cutR r).length + 1 ≤ r.length := by
 unfold cutB at h
 unfold cutR
 cases hc : cutQ false r with
 | none => rw [hc] at h; cases h
 | some k =>
  have := cutQ_lt r.length false r k (Nat.le_refl _) hc
  simp; omega

theorem cutA_len (r : List UInt8) : (cutA r).length ≤ r.length := by
 unfold cutA; split <;> simp <;> omega

theorem cutR_le (r : List UInt8) : (cutR r).length ≤ r.length := by
 unfold cutR; split <;> simp

def SplitPost (L : List (List UInt8)) (w : World) (e : Ending) (w' : World) : Prop :=
 ∃ v, e = .returned (.tuple #[v, .bool true]) ∧ w'.ownsRow w.heap.size 9 1 v L.length (cellsT L) ∧ Below w.heap.size w w'

set_option maxHeartbeats 2000000 in
set_option maxRecDepth 100000 in
theorem hsplit_any (v : Value) (L : List Hd) (n : ByteArray) (w : World) (h : HdAt w v L) (hs : n.size ≤ 140737488351232) (hz : Szd 140737488351232 L) (hl : L.length ≤ 1000000) (hb : bulkV L ≤ 1000000000) (hh : getB L n.data.toList = true) :
  Calls Tryz.prog 75 #[v, .string n] w (SplitPost (splitV L n.data.toList) w) := by
 obtain ⟨i0, hi, hz0, hz1, hz2⟩ := info3 infoTx
 have HG := hid (get_any v L n w h hs hz hl (by omega))
 have hgl := getT_len L n.data.toList
 obtain ⟨T, hT⟩ : ∃ T : ByteArray, T = ⟨(getT L n.data.toList).toArray⟩ := ⟨_, rfl⟩
 rw [← hT, hh] at HG
 have hTs : T.size ≤ 1000000000 := by rw [hT, xsize]; omega
 have HV := hid (show splitV L n.data.toList = restP [] T.data.toList true by rw [hT]; rfl)
 clear hT hgl h hz hb hh
 go_enter Tryz.func75, Tryz.ntmps75
 go_wp2_with fail
 refine HG.out.mono ?_
 rintro e w0 ⟨rfl, hb0⟩
 go_wp2
 go_loopw [6, 7, 8, 9] (fun r m vv x wr => ∃ (R : ByteArray) (mo : Bool) (out : List (List UInt8)), r = .string R ∧ m = .bool mo ∧ out.length + R.size ≤ 1000000001 ∧ (mo = true → out.length + R.size ≤ 1000000000) ∧ R.size ≤ 1000000000 ∧ restP out R.data.toList mo = restP [] T.data.toList true ∧ wr.ownsRow w.heap.size 9 1 vv out.length (cellsT out) ∧ Below w.heap.size w wr)
  (fun r m _ _ _ => match r, m with | .string R, .bool true => R.size + 1 | _, _ => 0)
 case atStart => exact ⟨T, true, [], rfl, rfl, by simp; omega, fun _ => by simp; omega, hTs, rfl, World.ownsRow_nil _ _ _ _, hb0⟩
 case round =>
  obtain ⟨R, mo, out, rfl, rfl, hol, holm, hRs, hrest, hown, hbw⟩ := hrel
  have HO := hid hown
  have hwr := hbw.size
  have HR := hid hrest
  clear hown hrest
  cases mo with
  | false =>
   have HE := hid (show out = splitV L n.data.toList by rw [HV.out, ← HR.out]; rfl)
   go_wp2
   go_ret2
   unfold SplitPost
   rw [← HE.out]
   exact ⟨_, rfl, HO.out, hbw⟩
  | true =>
   have hol' := holm rfl
   obtain ⟨A, hA⟩ : ∃ x : ByteArray, x = ⟨(cutA R.data.toList).toArray⟩ := ⟨_, rfl⟩
   obtain ⟨B, hB⟩ : ∃ x : ByteArray, x = ⟨(cutR R.data.toList).toArray⟩ := ⟨_, rfl⟩
   obtain ⟨mo, hmo⟩ : ∃ x, x = cutB R.data.toList := ⟨_, rfl⟩
   have HCP : Hid (∀ w : World, Calls Tryz.prog 121 #[.string R] w fun e w' => e = .returned (.tuple #[.string A, .string B, .bool mo]) ∧ Below w.heap.size w w') := fun w => by
    have := cutPiece_any R w (by omega)
    rw [← hA, ← hB, ← hmo] at this
    exact this
   have hAs : A.size ≤ 1000000000 := by have := cutA_len R.data.toList; rw [hA, xsize]; simp at this; omega
   have hBs : B.size ≤ R.size := by have := cutR_le R.data.toList; rw [hB, xsize]; simpa using this
   have hBm : mo = true → B.size + 1 ≤ R.size := fun h => by have := cutR_len R.data.toList (by rw [← hmo]; exact h); rw [hB, xsize]; simpa using this
   obtain ⟨P, hP⟩ : ∃ x : ByteArray, x = ⟨(trimB A.data.toList).toArray⟩ := ⟨_, rfl⟩
   have HTr : Hid (∀ w : World, Calls Tryz.prog 106 #[.string A, .string ⟨#[9, 32]⟩] w fun e w' => e = .returned (.string P) ∧ Below w.heap.size w w') := fun w => by
    have := trimB_any A w (by omega)
    rw [← hP] at this
    exact this
   have HS := hid (show restP (out ++ [P.data.toList]) B.data.toList mo = restP [] T.data.toList true by
    rw [← HR.out, restP_step, hP, hB, hmo, hA])
   clear hA hB hmo hP holm
   go_wp2_with fail
   refine (HCP.out _).mono ?_
   rintro e w1 ⟨rfl, hb1⟩
   have hbw1 := hbw.trans (hb1.mono hwr)
   have hw1 := hbw1.size
   have HO1 := hid (own_same HO.out hb1)
   go_wp2_with fail
   refine (HTr.out _).mono ?_
   rintro e w2 ⟨rfl, hb2⟩
   have hbw2 := hbw1.trans (hb2.mono hw1)
   have hw2 := hbw2.size
   have HO2 := hid (own_same HO1.out hb2)
   go_wp2_with (at_builtin; go_must (refine wpList_append_own _ rfl _ _ 22 rfl w.heap.size 9 i0 (.string ByteArray.empty) 1 16 Tryz.underlying22 hi hz0 hz1 hz2 rfl (by decide) _ _ _ rfl (HO2.out.alloc _) ⟨w2.heap.size, 0, none⟩ 1 1 [.string P] rfl rfl ?c1 ?c2 ?c3 ?c4 ?c5 ?_))
   case c1 =>
    intro q u hq
    match q, hq with
    | 0, hq => simp at hq; subst hq; simp [Addr.add]
   case c2 => intro u hu; simp at hu; subst hu; rfl
   case c3 => unfold maxLen; omega
   case c4 => omega
   case c5 => simp; omega
   intro v' w3 hown' hgrow hnil
   have HO3 := hid hown'
   have HB3 := hid (show Below w.heap.size w w3 from (hbw2.alloc hw2 _).grown hgrow (by simp; omega) (fun g hg => (HO2.out.lt g hg).1))
   clear hown' hgrow hnil
   go_wp2
   go_roundw
   case rel =>
    refine ⟨B, mo, out ++ [P.data.toList], rfl, rfl, by simp; omega, fun h => by have := hBm h; simp; omega, by omega, HS.out, ?_, HB3.out⟩
    rw [cellsT_app, cellsT_one, List.length_append]
    exact HO3.out
   case measure =>
    cases mo with
    | false => simp
    | true => have := hBm rfl; simp; omega

end Go.Proofs.YtamockkjbkibdaaGreatDoor

namespace Go.Proofs.YtamockkjbkibdaaGreatDoor
open Go.RowKit

/- head -/

set_option maxHeartbeats 1000000 in
theorem split_none13 (v : Value) (L : List Hd) (n : ByteArray) (w : World) (h : HdAt w v L) (hs : n.size ≤ 140737488351232) (hz : Szd 140737488351232 L) (hl : L.length ≤ 1000000) (hb : bulkV L ≤ 1000000000) (hh : getB L n.data.toList = false) :
  Calls Tryz.prog 75 #[v, .string n] w fun e w' => e = .returned (.tuple #[.slice none 0 0, .bool false]) ∧ Below w.heap.size w w' := by
 have HG := hid (get_any v L n w h hs hz hl (by omega))
 obtain ⟨T, hT⟩ : ∃ T : ByteArray, T = ⟨(getT L n.data.toList).toArray⟩ := ⟨_, rfl⟩
 rw [← hT, hh] at HG
 clear hT h hz hb hh
 go_enter Tryz.func75, Tryz.ntmps75
 go_wp2_with fail
 refine HG.out.mono ?_
 rintro e w0 ⟨rfl, hb0⟩
 go_wp2
 go_ret2
 exact ⟨rfl, hb0⟩

def pcsV13 (L : List Hd) (n : List UInt8) : List (List UInt8) := if getB L n then splitV L n else []

def MpcPost13 (L : List (List UInt8)) (w : World) (e : Ending) (w' : World) : Prop :=
 ∃ v b, e = .returned (.tuple #[v, .bool b]) ∧ w'.ownsRow w.heap.size 9 1 v L.length (cellsT L) ∧ Below w.heap.size w w'

theorem split6_any13 (v : Value) (L : List Hd) (n : ByteArray) (w : World) (h : HdAt w v L) (hs : n.size ≤ 140737488351232) (hz : Szd 140737488351232 L) (hl : L.length ≤ 1000000) (hb : bulkV L ≤ 1000000000) :
  Calls Tryz.prog 75 #[v, .string n] w (MpcPost13 (pcsV13 L n.data.toList) w) := by
 cases hh : getB L n.data.toList with
 | true =>
  refine (hsplit_any v L n w h hs hz hl hb hh).mono ?_
  rintro e w' ⟨u, rfl, ho, hb'⟩
  have e : pcsV13 L n.data.toList = splitV L n.data.toList := by unfold pcsV13; rw [hh]; rfl
  unfold MpcPost13
  rw [e]
  exact ⟨u, true, rfl, ho, hb'⟩
 | false =>
  refine (split_none13 v L n w h hs hz hl hb hh).mono ?_
  rintro e w' ⟨rfl, hb'⟩
  have e : pcsV13 L n.data.toList = [] := by unfold pcsV13; rw [hh]; rfl
  unfold MpcPost13
  rw [e]
  exact ⟨_, false, rfl, World.ownsRow_nil _ _ _ _, hb'⟩

theorem pcsN_sum13 : ∀ (f : Nat) (l : List UInt8), ∀ p ∈ pcsN f l, p.length ≤ l.length := by
 intro f
 induction f with
 | zero => intro l p hp; simp [pcsN] at hp; subst hp; exact Nat.le_refl _
 | succ f ih =>
  intro l p hp
  rw [pcsN] at hp
  cases hc : cutQ false l with
  | none => rw [hc] at hp; simp at hp; subst hp; exact Nat.le_refl _
  | some k =>
   rw [hc] at hp
   rcases List.mem_cons.1 hp with rfl | hp
   ·simp; omega
   ·have := ih _ p hp; simp at this; omega

theorem pcsV_le13 (L : List Hd) (n : List UInt8) : ∀ p ∈ pcsV13 L n, p.length ≤ bulkV L := by
 intro p hp
 unfold pcsV13 at hp
 split at hp
 ·unfold splitV at hp
  obtain ⟨q, hq, rfl⟩ := List.mem_map.1 hp
  have h1 := pcsN_sum13 _ _ q hq
  have h2 := getT_len L n
  have h3 : (trimB q).length ≤ q.length := by
   unfold trimB Lib.trimS Lib.trimLeftS Lib.trimRightS
   refine Nat.le_trans (List.dropWhile_suffix _).length_le ?_
   rw [List.length_reverse]
   exact Nat.le_trans (List.dropWhile_suffix _).length_le (by simp)
  omega
 ·simp at hp
/- head -/

theorem fromR_drop {L : List (List UInt8)} {k : Nat} (h : k < L.length) (o : List UInt8) : fromR (L.drop k) o = fromR (L.drop (k + 1)) (if knownR (low L[k]) then low L[k] else o) := by
 rw [List.drop_eq_getElem_cons h]
 rfl

set_option maxHeartbeats 4000000 in
set_option maxRecDepth 100000 in
theorem from13_any (v : Value) (L : List Hd) (O : ByteArray) (w : World) (h : HdAt w v L) (hz : Szd 140737488351232 L) (hl : L.length ≤ 1000000) (hb : bulkV L ≤ 1000000000) :
  Calls Tryz.prog 39 #[v, .string O] w fun e w' => e = .returned (.string ⟨(fromR (pcsV13 L [114, 101, 102, 101, 114, 114, 101, 114, 45, 112, 111, 108, 105, 99, 121]) O.data.toList).toArray⟩) ∧ Below w.heap.size w w' := by
 have HS := hid (split6_any13 v L ⟨#[114, 101, 102, 101, 114, 114, 101, 114, 45, 112, 111, 108, 105, 99, 121]⟩ w h (by decide) hz hl hb)
 have HLe := hid (pcsV_le13 L [114, 101, 102, 101, 114, 114, 101, 114, 45, 112, 111, 108, 105, 99, 121])
 rw [show (⟨#[114, 101, 102, 101, 114, 114, 101, 114, 45, 112, 111, 108, 105, 99, 121]⟩ : ByteArray).data.toList = [114, 101, 102, 101, 114, 114, 101, 114, 45, 112, 111, 108, 105, 99, 121] from rfl] at HS
 obtain ⟨a, n, c, rfl⟩ : ∃ a n c, v = .slice a n c := by
  obtain ⟨a, c, e, -⟩ := h
  exact ⟨_, _, _, e⟩
 generalize pcsV13 L [114, 101, 102, 101, 114, 114, 101, 114, 45, 112, 111, 108, 105, 99, 121] = C at HS HLe ⊢
 obtain ⟨R, hR⟩ : ∃ R, fromR C O.data.toList = R := ⟨_, rfl⟩
 have HGoal := hid (show R = fromR (C.drop 0) O.data.toList by rw [← hR]; rfl)
 rw [hR]
 have HBk := hid hb
 clear h hz hl hb hR
 go_enter Tryz.func39, Tryz.ntmps39
 go_wp2_with fail
 refine HS.out.mono ?_
 rintro e w1 ⟨vc, bc, rfl, hown, hb1⟩
 obtain ⟨m, hm⟩ : ∃ m, m = C.length := ⟨_, rfl⟩
 have HM := hid hm
 have HCA := hid (own_txt' (L := C) hown)
 obtain ⟨ac, cc, rfl, hcc, hcm, -⟩ := HCA.out.view
 rw [← hm] at hcc HCA ⊢
 have HB1 := hid hb1
 have hm9 : m ≤ 9223372036854775807 := Nat.le_trans hcc (Nat.le_trans hcm (by decide))
 clear hown hb1 HS hm
 go_wp2_with fail
 go_loopw [1, 17] (fun v1 v17 wr => ∃ (k : Nat) (X : ByteArray), k ≤ m ∧ v1 = .string X ∧ v17 = .int .i64 k ∧ Hid (R = fromR (C.drop k) X.data.toList ∧ Below w1.heap.size w1 wr)) (fun v1 v17 _ => m - (intOf v17).toNat)
 case atStart => exact ⟨0, O, Nat.zero_le _, rfl, rfl, HGoal.out, Below.refl _ _⟩
 case round =>
  clear HGoal
  obtain ⟨k, X, hk, rfl, rfl, HR⟩ := hrel
  by_cases hlt : k < m
  ·have hkC : k < C.length := by have := HM.out; omega
   obtain ⟨ac', cc', eac, q1, q2, hcell⟩ := HCA.out.view
   injection eac with eac1 eac2 eac3
   clear eac2 eac3
   subst eac1
   obtain ⟨bc', oc, rfl, hcl⟩ := hcell k hkC
   obtain ⟨A, hA⟩ : ∃ A : ByteArray, A = ⟨C[k].toArray⟩ := ⟨_, rfl⟩
   rw [← hA] at hcl
   have HAL := hid (show ∃ h : k < C.length, A.data.toList = C[k] from ⟨hkC, by rw [hA]⟩)
   have hAs : A.size ≤ 140737488351232 := by
    have h1 := HLe.out _ (List.getElem_mem hkC)
    have h2 := HBk.out
    rw [Lib.size_eq, hA]
    show C[k].length ≤ _
    omega
   have q0 := keptC hcl HR.out.2
   obtain ⟨LA, hLA⟩ : ∃ X : ByteArray, X = ⟨(low A.data.toList).toArray⟩ := ⟨_, rfl⟩
   have HLw := hid (fun X => lower_any A X hAs)
   rw [← hLA] at HLw
   have HLl := hid (show LA.data.toList = low A.data.toList by rw [hLA])
   obtain ⟨kq, hkq⟩ : ∃ q, knownR LA.data.toList = q := ⟨_, rfl⟩
   have HKn := hid (fun X => known13_any LA X)
   rw [hkq] at HKn
   have HKq := hid hkq
   have hin : (k : Int) < (m : Int) := by omega
   clear hcl hcell hkC hA q1 q2 hLA hkq hAs
   go_wp2_with fail
   refine (HLw.out _).mono ?_
   rintro e w4 ⟨rfl, hb4⟩
   have HB4 := hid hb4
   clear hb4 HLw
   go_wp2_with fail
   refine (HKn.out _).mono ?_
   rintro e w5 ⟨rfl, hw5⟩
   rw [← hw5]
   clear hw5 q0
   cases kq with
   | true =>
    have HN := hid (show R = fromR (C.drop (k + 1)) LA.data.toList ∧ Below w1.heap.size w1 w4 by
     refine ⟨?_, below2 HR.out.2 HB4.out⟩
     obtain ⟨h, ha⟩ := HAL.out
     rw [HR.out.1, fromR_drop h, ← ha, ← HLl.out, HKq.out, if_pos rfl])
    go_wp2_with fail
    go_roundw
    case rel =>
     first
      | exact ⟨k + 1, LA, by omega, rfl, by go_num, HN.out⟩
      | ((repeat apply Exists.intro); refine ⟨?_, rfl⟩; exact ⟨k + 1, LA, by omega, rfl, by go_num, HN.out⟩)
      | ((repeat apply Exists.intro); exact ⟨⟨k + 1, LA, by omega, rfl, by go_num, HN.out⟩, rfl⟩)
    case measure => simp [intOf]; omega
   | false =>
    have HN := hid (show R = fromR (C.drop (k + 1)) X.data.toList ∧ Below w1.heap.size w1 w4 by
     refine ⟨?_, below2 HR.out.2 HB4.out⟩
     obtain ⟨h, ha⟩ := HAL.out
     rw [HR.out.1, fromR_drop h, ← ha, ← HLl.out, HKq.out, if_neg (by decide)])
    go_wp2_with fail
    go_roundw
    case rel =>
     first
      | exact ⟨k + 1, X, by omega, rfl, by go_num, HN.out⟩
      | ((repeat apply Exists.intro); refine ⟨?_, rfl⟩; exact ⟨k + 1, X, by omega, rfl, by go_num, HN.out⟩)
      | ((repeat apply Exists.intro); exact ⟨⟨k + 1, X, by omega, rfl, by go_num, HN.out⟩, rfl⟩)
    case measure => simp [intOf]; omega
  ·have hge : ¬ (k : Int) < (m : Int) := by omega
   have HE := hid (show R = X.data.toList by
    rw [HR.out.1, List.drop_eq_nil_of_le (by have := HM.out; omega)]
    rfl)
   go_wp2_with fail
   go_ret
   exact ⟨ret_str' (by refine ba_ext ?_; rw [HE.out]), below2 HB1.out HR.out.2⟩

end Go.Proofs.YtamockkjbkibdaaGreatDoor
