/-
  Walks and plain facts that this claim leans on, put together out of 5 texts: Yte, Ewn, Ewx, Ewy, Ewz.
-/
import Derived.Test.YtgoefeaopegdoaaGreatDoorProg
import Derived.Test.YtgoefeaopegdoaaGreatDoorQa1
import Derived.Test.YtgoefeaopegdoaaGreatDoorQa2
import Derived.Test.YtgoefeaopegdoaaGreatDoorQa3
import Derived.Test.YtgoefeaopegdoaaGreatDoorQa4
import Derived.Test.YtgoefeaopegdoaaGreatDoorQa5
import Derived.Test.YtgoefeaopegdoaaGreatDoorQa6
import Derived.Test.YtgoefeaopegdoaaGreatDoorQa7
import Derived.Test.YtgoefeaopegdoaaGreatDoorQa8
import Derived.Test.YtgoefeaopegdoaaGreatDoorQa9
import Derived.Test.YtgoefeaopegdoaaGreatDoorQa10
import Derived.Test.YtgoefeaopegdoaaGreatDoorQa11
import Derived.Test.YtgoefeaopegdoaaGreatDoorQa12
import Derived.Test.YtgoefeaopegdoaaGreatDoorQa13
import Derived.Test.YtgoefeaopegdoaaGreatDoorQa14
import Derived.Test.YtgoefeaopegdoaaGreatDoorQa15
import Derived.Test.YtgoefeaopegdoaaGreatDoorQa16
import Derived.Test.YtgoefeaopegdoaaGreatDoorQa17
import Derived.Test.YtgoefeaopegdoaaGreatDoorQa18
import Derived.Test.YtgoefeaopegdoaaGreatDoorQa19
import Derived.Test.YtgoefeaopegdoaaGreatDoorQa20
import Derived.Test.YtgoefeaopegdoaaGreatDoorQa21
import Derived.Test.YtgoefeaopegdoaaGreatDoorQa22
import Derived.Test.YtgoefeaopegdoaaGreatDoorQa23
import Derived.Test.YtgoefeaopegdoaaGreatDoorQa24
import Derived.Test.YtgoefeaopegdoaaGreatDoorQa25
import Derived.Test.YtgoefeaopegdoaaGreatDoorQa26
import Derived.Test.YtgoefeaopegdoaaGreatDoorQa27
import Derived.Test.YtgoefeaopegdoaaGreatDoorQq1
import Derived.Lib.IndexMore
import Derived.Lib.Join
import Derived.Lib.LastIndexByte
import Derived.WalkKit
import Derived.Lib.Strings
import Derived.Lib.UnsafeStr
import Derived.Laws.IdiomStrings
import Derived.Laws.AppendOwn
import Derived.Laws.BitsAllLaws
import Derived.Lib.Bytealg
import Derived.Lib.BufferMore
import Derived.Lib.BufferRead
import Derived.Lib.RuneBytes
import Derived.Laws.RangeAny
import Derived.LoopN
import Derived.RegionTactic
import Derived.Deep.RegionWith
import Derived.Deep.QuietTactic
import Derived.BigQuiet
import Derived.OwnWalk
import Derived.Deep.RegionLaw
import Derived.Laws.OwnMore
import Derived.Deep.LoopGhost
import Derived.Shelf.Strings.Builder1
import Derived.Shelf.Strings.Builder2
import Derived.Shelf.Strings.OnBuilder
import Derived.Shelf.Strings.Trim
import Derived.Shelf.Small.Utf8
import Derived.Shelf.Small.Bits
import Derived.Shelf.Small.Strs
import Derived.Shelf.Small.Wraps
import Derived.Shelf.Strings.BuilderF
import Derived.Shelf.Strings.BuilderK
import Derived.Shelf.Strings.BuilderRune
import Derived.Shelf.Utf8.AppendRune
import Derived.Shelf.Utf8.AppendRunePlain
import Derived.Shelf.Strings.Builder2Cap
import Derived.Shelf.Strconv.Itoa0
import Derived.Shelf.Strconv.Itoa1
import Derived.Shelf.LaysM
import Derived.Shelf.Strconv.Itoa2
import Derived.Shelf.Strconv.Itoa3
import Derived.Shelf.Strings.Search1
import Derived.Shelf.Strings.Search2
import Derived.Shelf.Strings.Search3
import Derived.Shelf.Strings.Cut
import Derived.Shelf.Strings.Count
import Derived.Shelf.Strings.Shaped
import Derived.Shelf.Strings.LastIndex
import Derived.Shelf.Strings.Prefix
import Derived.Shelf.Strings.Split
import Derived.Shelf.Strings.Replace
import Derived.Shelf.Strings.Runes
import Derived.Shelf.Strings.IndexAny
import Derived.Shelf.Strings.AsciiSet
import Derived.Shelf.Strings.IndexAnyAll
import Derived.Shelf.Unicode.DecodeSlow
import Derived.Ground.Names2Prog
import Derived.Shelf.Slices.Clone
import Derived.Shelf.Slices.In.SortNone
import Derived.Ground.SlgnProg
import Derived.Shelf.SlicesE.Clone
import Derived.BigRegion
import Derived.Laws.AppendOwnNone
import Derived.Deep.Cut
import Derived.Scope
import Derived.ScopeJumps
import Derived.WalkMore
import Derived.Lib.IndexAny
import Derived.Lib.Replace
import Derived.Lib.TrimByte
import Derived.Lib.ItoaNum
import Derived.Lib.DecodeN
import Derived.Lib.OthersKept
import Derived.Laws.BytesString
import Derived.Deep.WholeRow
import Derived.Lib.AppendStr
import Derived.Deep.RegionHeld
import Derived.WalkSpells
import Derived.WalkLawsBesides
import Derived.Lib.AppendIntMem
import Derived.Lib.SmallJoins
import Derived.WalkSmall
import Derived.Laws.CopyOwn
import Derived.Laws.ResultCell
import Derived.Deep.MidRow
import Derived.Lib.FrozenHead2
import Derived.Lib.Builder
import Derived.Lib.SlTrimSet
import Derived.Below
import Derived.Shelf.Strings.SlTrimAscii
import Derived.Laws.Runes
set_option linter.unusedSimpArgs false
set_option linter.unusedVariables false

namespace Go.Proofs.YtgoefeaopegdoaaGreatDoor
open Go.RowKit

def aheadO (h : List UInt8) : Nat := (cutL 46 h).length - sufV h - 1

def siteV (o : Org) : List UInt8 := if o.opq then [] else if Lib.hasPrefix o.host [91] || numO o.host then o.host else Lib.join ((cutL 46 o.host).drop (aheadO o.host)) [46]

theorem TxAt.drop11 {w : World} {g cap n : Nat} {L : List (List UInt8)} (h : TxAt w (.slice (some ⟨g, 0, none⟩) n cap) L) (k : Nat) (hk : k ≤ L.length) : TxAt w (.slice (some ⟨g, k, none⟩) (n - k) (cap - k)) (L.drop k) := by
 obtain ⟨a, c, e, h1, h2, h3⟩ := h
 injection e with e1 e2 e3
 subst e1 e2 e3
 refine ⟨_, _, by rw [List.length_drop], by rw [List.length_drop]; omega, by omega, fun j hj => ?_⟩
 rw [List.length_drop] at hj
 obtain ⟨b, off, hb, hc⟩ := h3 (k + j) (by omega)
 injection hb with hb
 injection hb with hb1 hb2 hb3
 subst hb1 hb2
 refine ⟨g, k, rfl, ?_⟩
 rw [List.getElem_drop]
 rw [Nat.zero_add] at hc
 exact hc

set_option maxHeartbeats 4000000 in
set_option maxRecDepth 20000 in
theorem site_any (o : Org) (w : World) (hg : Gd w) (hh : o.host.length ≤ 1000000) (hj : (cutL 46 o.host).length ≤ 1000001 ∧ (Lib.join ((cutL 46 o.host).drop (aheadO o.host)) [46]).length ≤ 140737488355328) :
  Calls Tryz.prog 85 #[orgVal o] w fun e w' => e = .returned (.string ⟨(siteV o).toArray⟩) ∧ Below w.heap.size w w' := by
 obtain ⟨sa, ah, ap, ao⟩ := o
 obtain ⟨AS, rfl⟩ : ∃ X : ByteArray, sa = X.data.toList := ⟨⟨sa.toArray⟩, rfl⟩
 obtain ⟨AH, rfl⟩ : ∃ X : ByteArray, ah = X.data.toList := ⟨⟨ah.toArray⟩, rfl⟩
 rw [show orgVal ⟨AS.data.toList, AH.data.toList, ap, ao⟩ = .agg #[.string AS, .string AH, .int .i64 ap, .bool ao] from rfl]
 have hhs : AH.size ≤ 1000000 := by rw [Lib.size_eq]; exact hh
 obtain ⟨W, hW⟩ : ∃ W, (w.alloc (.cells #[.string AS, .string AH, .int .i64 ap, .bool ao] 28)) = W := ⟨_, rfl⟩
 have hbW : Below w.heap.size w W := by rw [← hW]; exact (Below.refl _ w).alloc (Nat.le_refl _) _
 have hrow : W.heap[w.heap.size]? = some (.cells #[.string AS, .string AH, .int .i64 ap, .bool ao] 28 (0, 0)) := by rw [← hW]; exact heap_alloc_new w _
 have h1 : W.cell? ⟨w.heap.size, 1, none⟩ = some (.string AH) := by rw [Lib.cell_of_heap hrow]; rfl
 have h3 : W.cell? ⟨w.heap.size, 3, none⟩ = some (.bool ao) := by rw [Lib.cell_of_heap hrow]; rfl
 have HK := hid (show ∀ Z, Below W.heap.size W Z → Z.cell? ⟨w.heap.size, 1, none⟩ = some (.string AH) from fun Z hZ => keptC h1 hZ)
 have HGW := hid (fun (X : World) (hX : Below W.heap.size W X) => (hg.kept hbW).kept hX)
 have HBW := hid hbW
 have HPr := hid (fun w => Tryz.strings_HasPrefix AH ⟨#[91]⟩ w)
 have HNu := hid (fun w => numeric_any AH w (by omega))
 have HSp := hid (fun (X : World) (hX : Below W.heap.size W X) => split_any AH 46 X ((hg.kept hbW).kept hX) (by omega))
 have HSu := hid (fun w => suffix_any AH w (by omega))
 obtain ⟨q1, e1⟩ : ∃ q, Lib.hasPrefix AH.data.toList [91] = q := ⟨_, rfl⟩
 obtain ⟨q2, e2⟩ : ∃ q, numO AH.data.toList = q := ⟨_, rfl⟩
 have HPr' : Hid (∀ w, Calls Tryz.prog 104 #[.string AH, .string ⟨#[91]⟩] w fun e w' => e = .returned (.bool q1) ∧ w' = w) := fun w => by rw [← e1]; exact HPr.out w
 rw [e2] at HNu
 have HV := hid (show siteV ⟨AS.data.toList, AH.data.toList, ap, ao⟩ = if ao then [] else if q1 || q2 then AH.data.toList else Lib.join ((cutL 46 AH.data.toList).drop (aheadO AH.data.toList)) [46] by unfold siteV; rw [← e1, ← e2])
 obtain ⟨V, hV⟩ : ∃ V, siteV ⟨AS.data.toList, AH.data.toList, ap, ao⟩ = V := ⟨_, rfl⟩
 rw [hV] at HV ⊢
 have HJ := hid hj
 obtain ⟨L, hL⟩ : ∃ L, cutL 46 AH.data.toList = L := ⟨_, rfl⟩
 have HL1 := hid (show 1 ≤ L.length by rw [← hL]; exact List.length_pos_iff.2 (cutL_ne 46 _))
 obtain ⟨s, hs⟩ : ∃ s, sufV AH.data.toList = s := ⟨_, rfl⟩
 have HA := hid (show aheadO AH.data.toList = L.length - s - 1 by unfold aheadO; rw [hL, hs])
 dsimp only at HJ
 rw [HA.out, hL] at HV HJ
 unfold TxPost at HSp
 rw [hL] at HSp
 rw [hs] at HSu
 have hs2 : 1 ≤ s ∧ s ≤ 2 := by rw [← hs]; unfold sufV; split <;> omega
 clear HPr hV hL hs e1 e2 hg hh hj hbW hrow HA
 cases ao with
 | true =>
  go_enter Tryz.func85, Tryz.ntmps85
  go_wp2
  go_ret
  exact ⟨ret_str' (by rw [HV.out]; rfl), HBW.out⟩
 | false =>
  go_enter Tryz.func85, Tryz.ntmps85
  go_wp2_with fail
  refine (HPr'.out _).mono ?_
  rintro e wz ⟨rfl, hwz⟩
  rw [hwz]
  clear hwz
  cases q1 with
  | true =>
   go_wp2
   go_ret
   exact ⟨ret_str' (by rw [HV.out]; rfl), HBW.out⟩
  | false =>
   go_wp2_with fail
   refine (HNu.out _).mono ?_
   rintro e w2 ⟨rfl, hb2⟩
   have k1 := HK.out _ hb2
   have HB2 := hid hb2
   clear hb2
   cases q2 with
   | true =>
    go_wp2
    go_ret
    exact ⟨ret_str' (by rw [HV.out]; rfl), below2 HBW.out HB2.out⟩
   | false =>
    go_wp2_with fail
    refine (HSp.out _ HB2.out).mono ?_
    rintro e w3 ⟨g, cap, rfl, hown, hb3⟩
    have HB3 := hid (below2 HB2.out hb3)
    have HT := hid (own_txt' hown)
    have k2 := HK.out _ HB3.out
    obtain ⟨a', c', he, hc1, hc2, -⟩ := HT.out.view
    injection he with he1 he2 he3
    rw [← he3] at hc1 hc2
    clear hb3 hown k1 he1 he2 he3
    obtain ⟨n, hn⟩ : ∃ n, L.length = n := ⟨_, rfl⟩
    rw [hn] at hc1 HV HJ HT ⊢
    have hn9 := HJ.out.1
    go_wp2_with fail
    refine (HSu.out _).mono ?_
    rintro e w4 ⟨rfl, hw4⟩
    rw [← hw4]
    clear hw4
    obtain ⟨k, hk⟩ : ∃ k, n - s - 1 = k := ⟨_, rfl⟩
    rw [hk] at HV HJ
    have hkn : k ≤ n := by omega
    have hmx : max ((n : Int) - (s : Int) - 1) 0 = (k : Int) := by omega
    have HD := hid (fun (h : k ≤ L.length) => HT.out.drop11 k h)
    have hn1 := HL1.out
    rw [hn] at hn1
    have hkc : k < cap := by omega
    have hkc1 : ¬ cap = k := by omega
    have hkc2 : ¬ cap - k = 0 := by omega
    have HJo := hid (join5_any _ _ ⟨#[46]⟩ w3 (HD.out (by omega)) (by rw [List.length_drop]; omega) HJ.out.2)
    clear hn1
    go_wp2_with fail
    refine HJo.out.mono ?_
    rintro e w5 ⟨rfl, hb5⟩
    go_wp2
    go_ret
    exact ⟨ret_str' (by rw [HV.out]; rfl), below2 HBW.out (below2 HB3.out hb5)⟩

end Go.Proofs.YtgoefeaopegdoaaGreatDoor

namespace Go.Proofs.YtgoefeaopegdoaaGreatDoor
open Go.RowKit

def kO1 : Org := ⟨sHttp, [104], 81, false⟩

def kO3 : Org := ⟨sHttps, [97, 46, 98, 46, 99, 111, 46, 117, 107], 443, false⟩

def kQ : List Hd := [⟨[97], [49]⟩, ⟨[98, 32, 99], []⟩, ⟨[], [65]⟩]

theorem kn4_1 : ofT [104, 116, 116, 112, 58, 47, 47, 104, 58, 56, 49, 47] = kO1 := by decide +kernel

theorem kn4_2 : ofT [100, 97, 116, 97, 58, 97] = Org.none := by decide +kernel

theorem kn4_3 : ofT [104, 116, 116, 112, 115, 58, 47, 47, 97, 46, 98, 46, 99, 111, 46, 117, 107, 47] = kO3 := by decide +kernel

theorem kn4_q : (querQ [97, 61, 49, 38, 98, 43, 99, 38, 38, 61, 37, 52, 49]).map (fun h => (h.name, h.value)) = kQ.map (fun h => (h.name, h.value)) := by decide +kernel

theorem hd_map {a b : List Hd} (h : a.map (fun h => (h.name, h.value)) = b.map (fun h => (h.name, h.value))) : a = b := by
 induction a generalizing b with
 | nil => cases b with
  | nil => rfl
  | cons y b => simp at h
 | cons x a ih => cases b with
  | nil => simp at h
  | cons y b =>
   simp only [List.map_cons, List.cons.injEq, Prod.mk.injEq] at h
   obtain ⟨⟨h1, h2⟩, h3⟩ := h
   rw [ih h3]
   cases x; cases y
   simp_all

theorem kn4_t1 : textO kO1 = [104, 116, 116, 112, 58, 47, 47, 104, 58, 56, 49] := by decide +kernel

theorem kn4_t2 : textO Org.none = [110, 117, 108, 108] := by decide +kernel

theorem kn4_s3 : siteV kO3 = [98, 46, 99, 111, 46, 117, 107] := by decide +kernel

theorem of4_at (S : ByteArray) (O : Org) (l : List UInt8) (hl : S.data.toList = l) (h : ofT l = O) (hs : S.size ≤ 9223372036854775807) : ∀ w, Gd w → Calls Tryz.prog 35 #[.string S] w fun e w' => e = .returned (orgVal O) ∧ Below w.heap.size w w' := fun w hg => by
 have := of4_any S w hg hs
 rw [hl, h] at this
 exact this

theorem text4_at (O : Org) (X : ByteArray) (l : List UInt8) (h : textO O = l) (hX : X = ⟨l.toArray⟩) (hs : O.scheme.length ≤ 1000000 ∧ O.host.length ≤ 1000000 ∧ (O.opq = false → 0 ≤ O.port ∧ O.port ≤ 65535)) : ∀ w, Gd w → Calls Tryz.prog 73 #[orgVal O] w fun e w' => e = .returned (.string X) ∧ Below w.heap.size w w' := fun w hg => by
 have := textO_any O w hg hs.1 hs.2.1 hs.2.2
 rw [h, ← hX] at this
 exact this

theorem site4_at (O : Org) (X : ByteArray) (l : List UInt8) (h : siteV O = l) (hX : X = ⟨l.toArray⟩) (hs : O.host.length ≤ 1000000 ∧ (cutL 46 O.host).length ≤ 1000001 ∧ (Lib.join ((cutL 46 O.host).drop (aheadO O.host)) [46]).length ≤ 140737488355328) : ∀ w, Gd w → Calls Tryz.prog 85 #[orgVal O] w fun e w' => e = .returned (.string X) ∧ Below w.heap.size w w' := fun w hg => by
 have := site_any O w hg hs.1 hs.2
 rw [h, ← hX] at this
 exact this

theorem lit_beq (X : ByteArray) (l : List UInt8) (hX : X = ⟨l.toArray⟩) : (X.toList == l) = true := by
 rw [hX, Lib.toList_data]
 exact beq_self_eq_true _

set_option maxHeartbeats 8000000 in
set_option maxRecDepth 100000 in
theorem known4_any (w : World) (hg : Gd w) : Calls Tryz.prog 33 #[] w fun e w' => e = .returned (.bool true) ∧ Below w.heap.size w w' := by
 have HG := hid hg
 have HQ := hid (query4_any ⟨#[97, 61, 49, 38, 98, 43, 99, 38, 38, 61, 37, 52, 49]⟩ w hg (by decide))
 rw [show (⟨#[97, 61, 49, 38, 98, 43, 99, 38, 38, 61, 37, 52, 49]⟩ : ByteArray).data.toList = [97, 61, 49, 38, 98, 43, 99, 38, 38, 61, 37, 52, 49] from rfl, hd_map kn4_q] at HQ
 unfold QPost at HQ
 have H1 := hid (of4_at ⟨#[104, 116, 116, 112, 58, 47, 47, 104, 58, 56, 49, 47]⟩ _ _ rfl kn4_1 (by decide))
 have H2 := hid (of4_at ⟨#[100, 97, 116, 97, 58, 97]⟩ _ _ rfl kn4_2 (by decide))
 have H3 := hid (of4_at ⟨#[104, 116, 116, 112, 115, 58, 47, 47, 97, 46, 98, 46, 99, 111, 46, 117, 107, 47]⟩ _ _ rfl kn4_3 (by decide))
 obtain ⟨X1, hX1⟩ : ∃ X : ByteArray, X = ⟨#[104, 116, 116, 112, 58, 47, 47, 104, 58, 56, 49]⟩ := ⟨_, rfl⟩
 obtain ⟨X2, hX2⟩ : ∃ X : ByteArray, X = ⟨#[110, 117, 108, 108]⟩ := ⟨_, rfl⟩
 obtain ⟨X3, hX3⟩ : ∃ X : ByteArray, X = ⟨#[98, 46, 99, 111, 46, 117, 107]⟩ := ⟨_, rfl⟩
 have T1 := hid (text4_at _ X1 _ kn4_t1 hX1 (by decide))
 have T2 := hid (text4_at _ X2 _ kn4_t2 hX2 (by decide))
 have S3 := hid (site4_at _ X3 _ kn4_s3 hX3 (by decide +kernel))
 have b1 := lit_beq X1 _ hX1
 have b2 := lit_beq X2 _ hX2
 have b3 := lit_beq X3 _ hX3
 clear hX1 hX2 hX3 hg
 generalize orgVal kO1 = V1 at H1 T1
 generalize orgVal Org.none = V2 at H2 T2
 generalize orgVal kO3 = V3 at H3 S3
 go_enter Tryz.func33, Tryz.ntmps33
 go_wp2_with fail
 refine HQ.out.mono ?_
 rintro e w0 ⟨v, rfl, hown, hb0⟩
 have HH := hid (own_hd hown)
 obtain ⟨a, cp, rfl, hc1, hc2, hcell⟩ := HH.out.view
 obtain ⟨g, off, rfl, c00, c01⟩ := hcell 0 (by decide)
 obtain ⟨g', off', eg, c20, c21⟩ := hcell 2 (by decide)
 injection eg with eg
 injection eg with eg1 eg2 eg3
 subst eg1 eg2
 have HB0 := hid hb0
 have HG0 := hid (HG.out.kept hb0)
 have HC := hid (show ∀ (X : World), Below w0.heap.size w0 X → X.cell? ⟨g, off, none⟩ = some (.string ⟨#[97]⟩) ∧ X.cell? ⟨g, off + 1, none⟩ = some (.string ⟨#[49]⟩) ∧ X.cell? ⟨g, off + 4, none⟩ = some (.string ⟨#[]⟩) ∧ X.cell? ⟨g, off + 4 + 1, none⟩ = some (.string ⟨#[65]⟩) from fun (X : World) (h : Below w0.heap.size w0 X) => And.intro (keptC4 c00 h) (And.intro (keptC4 c01 h) (And.intro (keptC4 c20 h) (keptC4 c21 h))))
 rw [show kQ.length = 3 from rfl] at hc1 ⊢
 clear hown hb0 hcell c00 c01 c20 c21 HQ
 go_wp2_with fail
 refine (H1.out _ HG0.out).mono ?_
 rintro e w1 ⟨rfl, hb1⟩
 have HG1 := hid (HG0.out.kept hb1)
 have HB1 := hid (below2 HB0.out hb1)
 have HD1 := hid (hb1)
 clear hb1
 go_wp2_with fail
 refine (T1.out _ HG1.out).mono ?_
 rintro e w2 ⟨rfl, hb2⟩
 have HG2 := hid (HG1.out.kept hb2)
 have HB2 := hid (below2 HB1.out hb2)
 have HD2 := hid (below2 HD1.out hb2)
 clear hb2
 go_wp2_with fail
 refine (H2.out _ HG2.out).mono ?_
 rintro e w3 ⟨rfl, hb3⟩
 have HG3 := hid (HG2.out.kept hb3)
 have HB3 := hid (below2 HB2.out hb3)
 have HD3 := hid (below2 HD2.out hb3)
 clear hb3
 go_wp2_with fail
 refine (T2.out _ HG3.out).mono ?_
 rintro e w4 ⟨rfl, hb4⟩
 have HG4 := hid (HG3.out.kept hb4)
 have HB4 := hid (below2 HB3.out hb4)
 have HD4 := hid (below2 HD3.out hb4)
 clear hb4
 go_wp2_with fail
 refine (H3.out _ HG4.out).mono ?_
 rintro e w5 ⟨rfl, hb5⟩
 have HG5 := hid (HG4.out.kept hb5)
 have HB5 := hid (below2 HB4.out hb5)
 have HD5 := hid (below2 HD4.out hb5)
 clear hb5
 go_wp2_with fail
 refine (S3.out _ HG5.out).mono ?_
 rintro e w6 ⟨rfl, hb6⟩
 have HG6 := hid (HG5.out.kept hb6)
 have HB6 := hid (below2 HB5.out hb6)
 have HD6 := hid (below2 HD5.out hb6)
 clear hb6
 obtain ⟨k00, k01, k20, k21⟩ := HC.out _ HD6.out
 go_wp2_with fail
 go_ret
 exact ⟨rfl, HB6.out⟩

end Go.Proofs.YtgoefeaopegdoaaGreatDoor

namespace Go.Proofs.YtgoefeaopegdoaaGreatDoor
open Go.RowKit

def MarksKept (b : Nat) (w w' : World) : Prop := ∀ k o, w.heap[k]? = some o → k ≠ b → (∀ c, o ≠ .cells c 5 (0, 0)) → w'.heap[k]? = some o

theorem MarksKept.refl (b : Nat) (w : World) : MarksKept b w w := fun _ _ h _ _ => h

theorem MarksKept.trans {b : Nat} {w w1 w2 : World} (h : MarksKept b w w1) (h2 : MarksKept b w1 w2) : MarksKept b w w2 := fun k o hk hb ho => h2 k o (h k o hk hb ho) hb ho

theorem MarksKept.set {b : Nat} {w w1 : World} (h : MarksKept b w w1) (j : Nat) (x : Value) : MarksKept b w (w1.setCell ⟨b, j, none⟩ x) := fun k o hk hb ho => by
 have := h k o hk hb ho
 rw [← this]
 exact heap_setCell_other _ _ _ _ hb

theorem copyCheck_n (B b : Nat) (bs : List Value) (w : World) (h : Lib.IsBuilder 115 5 B b bs w) :
  Calls Tryz.prog 135 #[.pointer (some ⟨b, 0, none⟩)] w fun e w' => e = .returned (.tuple #[]) ∧ (Lib.BuilderAt 115 5 B b (.pointer (some ⟨b, 0, none⟩)) bs w' ∧ Below B w w' ∧ MarksKept b w w') := by
 rcases h with h | h
 ·refine (copyCheck_fresh b w h.cell0 h.shape h.frozen0).mono ?_
  rintro e w' ⟨rfl, rfl⟩
  exact ⟨rfl, h.used _, (Below.refl B w).setCell (p := ⟨b, 0, none⟩) h.1 _, (MarksKept.refl _ w).set 0 _⟩
 ·refine (copyCheck_used b w h.cell0).mono ?_
  rintro e w' ⟨rfl, rfl⟩
  exact ⟨rfl, h, Below.refl B _, MarksKept.refl _ _⟩

set_option maxHeartbeats 2000000 in
set_option maxRecDepth 100000 in
theorem writeByte_n (B b : Nat) (bs : List Value) (c : Int) (w : World) (h : Lib.IsBuilder 115 5 B b bs w) (hlen : bs.length + 1 ≤ 140737488355328) (hBw : B ≤ w.heap.size) :
  Calls Tryz.prog 81 #[.pointer (some ⟨b, 0, none⟩), .int .u8 c] w fun e w' => e = .returned .nilIface ∧ (Lib.BuilderAt 115 5 B b (.pointer (some ⟨b, 0, none⟩)) (bs ++ [.int .u8 c]) w' ∧ Below B w w' ∧ MarksKept b w w') := by
 obtain ⟨i0, hi, hz0, hz1, hz2⟩ := info_parts infoByte
 go_enter Tryz.func81, Tryz.ntmps81
 go_wp2_with (go_at_call 135; refine (copyCheck_n B b bs _ h).mono ?_)
 rintro e w1 ⟨rfl, h1, hb1, hk1⟩
 obtain ⟨hB, v, hbk, hown, hne⟩ := h1
 have c0 : w1.cell? ⟨b, 0, none⟩ = some (.pointer (some ⟨b, 0, none⟩)) := by rw [Lib.cell_of_heap hbk]; rfl
 have c1 : w1.cell? ⟨b, 1, none⟩ = some v := by rw [Lib.cell_of_heap hbk]; rfl
 go_wp2_with (at_builtin; refine wpList_append_own _ rfl _ _ 113 rfl B 5 i0 (.int .u8 0) 1 1 Tryz.underlying113 hi hz0 hz1 hz2 rfl (by decide) _ _ _ rfl (hown.alloc _) ⟨w1.heap.size, 0, none⟩ 1 1 [.int .u8 c] rfl rfl ?c1 ?c2 ?c3 ?c4 ?c5 ?_)
 case c1 =>
  intro j u hj
  match j, hj with
  | 0, hj => simp at hj; subst hj; simp [Addr.add]
 case c2 => intro u hu; simp at hu; subst hu; rfl
 case c3 => unfold maxLen; omega
 case c4 => omega
 case c5 => have := hb1.size; simp; omega
 intro v' w2 hown' hgrow _
 have hlt : b < w1.heap.size := by
  rcases Nat.lt_or_ge b w1.heap.size with h' | h'
  ·exact h'
  ·simp [Array.getElem?_eq_none h'] at hbk
 have hb2 : w2.heap[b]? = some (.cells #[.pointer (some ⟨b, 0, none⟩), v] 115 (0, 0)) := by
  rw [hgrow.block b (by simp; omega) (fun e => hne e.symm), Lib.alloc_old w1 _ b hlt]
  exact hbk
 have d0 : w2.cell? ⟨b, 0, none⟩ = some (.pointer (some ⟨b, 0, none⟩)) := by rw [Lib.cell_of_heap hb2]; rfl
 have d1 : w2.cell? ⟨b, 1, none⟩ = some v := by rw [Lib.cell_of_heap hb2]; rfl
 have f1 : w2.frozen? ⟨b, 1, none⟩ = false := Lib.frozen_of_heap hb2 1
 obtain ⟨g, cap, rfl⟩ : ∃ g cap, v' = .slice (some ⟨g, 0, none⟩) (bs.length + 1) cap := by
  rcases hown'.2 with ⟨_, h0⟩ | ⟨g, cap, cur, hv, _⟩
  ·omega
  ·exact ⟨g, cap, hv⟩
 have hk2 : MarksKept b w1 w2 := fun k o hk hkb ho => by
  have hkl : k < w1.heap.size := by
   rcases Nat.lt_or_ge k w1.heap.size with h' | h'
   ·exact h'
   ·simp [Array.getElem?_eq_none h'] at hk
  have hko : v.ownBlock ≠ some k := fun e => by
   obtain ⟨cur, hc⟩ := ownsRow_kind hown k e
   rw [hk] at hc
   exact ho cur (Option.some.inj hc)
  rw [hgrow.block k (by simp; omega) (fun e => hko e.symm), Lib.alloc_old w1 _ k hkl]
  exact hk
 go_wp2
 go_ret
 refine ⟨rfl, ?_, ?_, (hk1.trans hk2).set 1 _⟩
 ·exact Lib.BuilderAt.put (T := 115) (e := 5) hB hb2 (bs' := bs ++ [.int .u8 c]) (by simpa using hown') (by decide)
 ·exact ((hb1.alloc (by have := hb1.size; omega) _).grown hgrow (by have := hb1.size; simp; omega) (fun k hk => (hown.lt k hk).1)).setCell (p := ⟨b, 1, none⟩) hB _

end Go.Proofs.YtgoefeaopegdoaaGreatDoor

namespace Go.Proofs.YtgoefeaopegdoaaGreatDoor
open Go.RowKit

def plI (c : Int) : Bool := decide (c = 42) || (decide (c = 45) || (decide (c = 46) || (decide (c = 95) || (letterI c || digitI c))))

def wrtC (c : UInt8) : List UInt8 := if plI (c.toNat : Int) then [c] else if c.toNat = 32 then [43] else esc c

def wrtV (l : List UInt8) : List UInt8 := l.flatMap wrtC

def wrP (h : Hd) : List UInt8 := wrtV h.name ++ 61 :: wrtV h.value

def wrA (first : Bool) : List Hd → List UInt8
 | [] => []
 | h :: t => (if first then [] else [38]) ++ (wrP h ++ wrA false t)

def wrV (L : List Hd) : List UInt8 := wrA true L

def bigH (h : Hd) : Nat := 3 * h.name.length + 3 * h.value.length + 2

def bigQ (L : List Hd) : Nat := (L.map bigH).sum

theorem wrtC_le (c : UInt8) : (wrtC c).length ≤ 3 := by
 unfold wrtC
 split
 ·simp
 ·split
  ·simp
  ·simp [esc]

theorem wrtV_le (l : List UInt8) : (wrtV l).length ≤ 3 * l.length := by
 unfold wrtV
 induction l with
 | nil => simp
 | cons c l ih =>
  have := wrtC_le c
  rw [List.flatMap_cons, List.length_append, List.length_cons]
  omega

theorem wrtV_snoc (l : List UInt8) (c : UInt8) : wrtV (l ++ [c]) = wrtV l ++ wrtC c := by simp [wrtV]

theorem wrA_le (f : Bool) (L : List Hd) : (wrA f L).length ≤ bigQ L := by
 induction L generalizing f with
 | nil => simp [wrA, bigQ]
 | cons h t ih =>
  have h1 := wrtV_le h.name
  have h2 := wrtV_le h.value
  have h3 := ih false
  have h4 : (if f = true then ([] : List UInt8) else [38]).length ≤ 1 := by split <;> simp
  unfold bigQ at h3 ⊢
  rw [wrA, wrP, List.length_append, List.length_append, List.length_append, List.length_cons, List.map_cons, List.sum_cons]
  show _ ≤ 3 * h.name.length + 3 * h.value.length + 2 + _
  omega

theorem wrA_snoc (f : Bool) (L : List Hd) (h : Hd) : wrA f (L ++ [h]) = wrA f L ++ ((if L.isEmpty && f then [] else [38]) ++ wrP h) := by
 induction L generalizing f with
 | nil => cases f <;> simp [wrA]
 | cons x t ih =>
  rw [List.cons_append, wrA, ih false, wrA]
  simp

theorem bigQ_app (a b : List Hd) : bigQ (a ++ b) = bigQ a + bigQ b := by simp [bigQ]

theorem big_take (L : List Hd) (k : Nat) (hk : k < L.length) : bigQ (L.take k) + bigH L[k] ≤ bigQ L := by
 have e : L.take (k + 1) = L.take k ++ [L[k]] := by rw [List.take_succ_eq_append_getElem hk]
 have h1 : bigQ (L.take (k + 1)) = bigQ (L.take k) + bigQ [L[k]] := by rw [e, bigQ_app]
 have h2 := bigQ_app (L.take (k + 1)) (L.drop (k + 1))
 rw [List.take_append_drop] at h2
 have h3 : bigQ [L[k]] = bigH L[k] := by simp [bigQ]
 omega

set_option maxHeartbeats 4000000 in
set_option maxRecDepth 100000 in
theorem plain4_any (c : Int) (w : World) :
  Calls Tryz.prog 136 #[.int .u8 c] w fun e w' => e = .returned (.bool (plI c)) ∧ w = w' := by
 by_cases h42 : c = 42
 ·subst h42
  go_enter Tryz.func136, Tryz.ntmps136
  go_wp2
  go_ret
  exact ⟨rfl, rfl⟩
 by_cases h45 : c = 45
 ·subst h45
  go_enter Tryz.func136, Tryz.ntmps136
  go_wp2
  go_ret
  exact ⟨rfl, rfl⟩
 by_cases h46 : c = 46
 ·subst h46
  go_enter Tryz.func136, Tryz.ntmps136
  go_wp2
  go_ret
  exact ⟨rfl, rfl⟩
 by_cases h95 : c = 95
 ·subst h95
  go_enter Tryz.func136, Tryz.ntmps136
  go_wp2
  go_ret
  exact ⟨rfl, rfl⟩
 have HV := hid (show plI c = (letterI c || digitI c) by unfold plI; rw [decide_eq_false h42, decide_eq_false h45, decide_eq_false h46, decide_eq_false h95]; rfl)
 rcases (show (c ≤ 47) ∨ (48 ≤ c ∧ c ≤ 57) ∨ (58 ≤ c ∧ c ≤ 64) ∨ (65 ≤ c ∧ c ≤ 90) ∨ (91 ≤ c ∧ c ≤ 96) ∨ (97 ≤ c ∧ c ≤ 122) ∨ (123 ≤ c) by omega) with hr | hr | hr | hr | hr | hr | hr
 ·have HA := hid (show plI c = false by rw [HV.out]; unfold letterI digitI; simp; omega)
  have t0 : decide (65 ≤ c) = false := by rw [decide_eq_false_iff_not]; omega
  have u0 : ¬ 65 ≤ c := by omega
  have t1 : decide (c ≤ 90) = true := by rw [decide_eq_true_eq]; omega
  have u1 : c ≤ 90 := by omega
  have t2 : decide (97 ≤ c) = false := by rw [decide_eq_false_iff_not]; omega
  have u2 : ¬ 97 ≤ c := by omega
  have t3 : decide (c ≤ 122) = true := by rw [decide_eq_true_eq]; omega
  have u3 : c ≤ 122 := by omega
  have t4 : decide (48 ≤ c) = false := by rw [decide_eq_false_iff_not]; omega
  have u4 : ¬ 48 ≤ c := by omega
  have t5 : decide (c ≤ 57) = true := by rw [decide_eq_true_eq]; omega
  have u5 : c ≤ 57 := by omega
  clear hr HV
  go_enter Tryz.func136, Tryz.ntmps136
  go_wp2
  go_ret
  exact ⟨ret_bool HA.out.symm, rfl⟩
 ·have HA := hid (show plI c = true by rw [HV.out]; unfold letterI digitI; simp; omega)
  have t0 : decide (65 ≤ c) = false := by rw [decide_eq_false_iff_not]; omega
  have u0 : ¬ 65 ≤ c := by omega
  have t1 : decide (c ≤ 90) = true := by rw [decide_eq_true_eq]; omega
  have u1 : c ≤ 90 := by omega
  have t2 : decide (97 ≤ c) = false := by rw [decide_eq_false_iff_not]; omega
  have u2 : ¬ 97 ≤ c := by omega
  have t3 : decide (c ≤ 122) = true := by rw [decide_eq_true_eq]; omega
  have u3 : c ≤ 122 := by omega
  have t4 : decide (48 ≤ c) = true := by rw [decide_eq_true_eq]; omega
  have u4 : 48 ≤ c := by omega
  have t5 : decide (c ≤ 57) = true := by rw [decide_eq_true_eq]; omega
  have u5 : c ≤ 57 := by omega
  clear hr HV
  go_enter Tryz.func136, Tryz.ntmps136
  go_wp2
  go_ret
  exact ⟨ret_bool HA.out.symm, rfl⟩
 ·have HA := hid (show plI c = false by rw [HV.out]; unfold letterI digitI; simp; omega)
  have t0 : decide (65 ≤ c) = false := by rw [decide_eq_false_iff_not]; omega
  have u0 : ¬ 65 ≤ c := by omega
  have t1 : decide (c ≤ 90) = true := by rw [decide_eq_true_eq]; omega
  have u1 : c ≤ 90 := by omega
  have t2 : decide (97 ≤ c) = false := by rw [decide_eq_false_iff_not]; omega
  have u2 : ¬ 97 ≤ c := by omega
  have t3 : decide (c ≤ 122) = true := by rw [decide_eq_true_eq]; omega
  have u3 : c ≤ 122 := by omega
  have t4 : decide (48 ≤ c) = true := by rw [decide_eq_true_eq]; omega
  have u4 : 48 ≤ c := by omega
  have t5 : decide (c ≤ 57) = false := by rw [decide_eq_false_iff_not]; omega
  have u5 : ¬ c ≤ 57 := by omega
  clear hr HV
  go_enter Tryz.func136, Tryz.ntmps136
  go_wp2
  go_ret
  exact ⟨ret_bool HA.out.symm, rfl⟩
 ·have HA := hid (show plI c = true by rw [HV.out]; unfold letterI digitI; simp; omega)
  have t0 : decide (65 ≤ c) = true := by rw [decide_eq_true_eq]; omega
  have u0 : 65 ≤ c := by omega
  have t1 : decide (c ≤ 90) = true := by rw [decide_eq_true_eq]; omega
  have u1 : c ≤ 90 := by omega
  have t2 : decide (97 ≤ c) = false := by rw [decide_eq_false_iff_not]; omega
  have u2 : ¬ 97 ≤ c := by omega
  have t3 : decide (c ≤ 122) = true := by rw [decide_eq_true_eq]; omega
  have u3 : c ≤ 122 := by omega
  have t4 : decide (48 ≤ c) = true := by rw [decide_eq_true_eq]; omega
  have u4 : 48 ≤ c := by omega
  have t5 : decide (c ≤ 57) = false := by rw [decide_eq_false_iff_not]; omega
  have u5 : ¬ c ≤ 57 := by omega
  clear hr HV
  go_enter Tryz.func136, Tryz.ntmps136
  go_wp2
  go_ret
  exact ⟨ret_bool HA.out.symm, rfl⟩
 ·have HA := hid (show plI c = false by rw [HV.out]; unfold letterI digitI; simp; omega)
  have t0 : decide (65 ≤ c) = true := by rw [decide_eq_true_eq]; omega
  have u0 : 65 ≤ c := by omega
  have t1 : decide (c ≤ 90) = false := by rw [decide_eq_false_iff_not]; omega
  have u1 : ¬ c ≤ 90 := by omega
  have t2 : decide (97 ≤ c) = false := by rw [decide_eq_false_iff_not]; omega
  have u2 : ¬ 97 ≤ c := by omega
  have t3 : decide (c ≤ 122) = true := by rw [decide_eq_true_eq]; omega
  have u3 : c ≤ 122 := by omega
  have t4 : decide (48 ≤ c) = true := by rw [decide_eq_true_eq]; omega
  have u4 : 48 ≤ c := by omega
  have t5 : decide (c ≤ 57) = false := by rw [decide_eq_false_iff_not]; omega
  have u5 : ¬ c ≤ 57 := by omega
  clear hr HV
  go_enter Tryz.func136, Tryz.ntmps136
  go_wp2
  go_ret
  exact ⟨ret_bool HA.out.symm, rfl⟩
 ·have HA := hid (show plI c = true by rw [HV.out]; unfold letterI digitI; simp; omega)
  have t0 : decide (65 ≤ c) = true := by rw [decide_eq_true_eq]; omega
  have u0 : 65 ≤ c := by omega
  have t1 : decide (c ≤ 90) = false := by rw [decide_eq_false_iff_not]; omega
  have u1 : ¬ c ≤ 90 := by omega
  have t2 : decide (97 ≤ c) = true := by rw [decide_eq_true_eq]; omega
  have u2 : 97 ≤ c := by omega
  have t3 : decide (c ≤ 122) = true := by rw [decide_eq_true_eq]; omega
  have u3 : c ≤ 122 := by omega
  have t4 : decide (48 ≤ c) = true := by rw [decide_eq_true_eq]; omega
  have u4 : 48 ≤ c := by omega
  have t5 : decide (c ≤ 57) = false := by rw [decide_eq_false_iff_not]; omega
  have u5 : ¬ c ≤ 57 := by omega
  clear hr HV
  go_enter Tryz.func136, Tryz.ntmps136
  go_wp2
  go_ret
  exact ⟨ret_bool HA.out.symm, rfl⟩
 ·have HA := hid (show plI c = false by rw [HV.out]; unfold letterI digitI; simp; omega)
  have t0 : decide (65 ≤ c) = true := by rw [decide_eq_true_eq]; omega
  have u0 : 65 ≤ c := by omega
  have t1 : decide (c ≤ 90) = false := by rw [decide_eq_false_iff_not]; omega
  have u1 : ¬ c ≤ 90 := by omega
  have t2 : decide (97 ≤ c) = true := by rw [decide_eq_true_eq]; omega
  have u2 : 97 ≤ c := by omega
  have t3 : decide (c ≤ 122) = false := by rw [decide_eq_false_iff_not]; omega
  have u3 : ¬ c ≤ 122 := by omega
  have t4 : decide (48 ≤ c) = true := by rw [decide_eq_true_eq]; omega
  have u4 : 48 ≤ c := by omega
  have t5 : decide (c ≤ 57) = false := by rw [decide_eq_false_iff_not]; omega
  have u5 : ¬ c ≤ 57 := by omega
  clear hr HV
  go_enter Tryz.func136, Tryz.ntmps136
  go_wp2
  go_ret
  exact ⟨ret_bool HA.out.symm, rfl⟩

theorem bat_below4 {T e : TypeId} {B b : Nat} {p : Value} {bs : List Value} {W W' : World} (h : Lib.BuilderAt T e B b p bs W) (hb : Below W.heap.size W W') : Lib.BuilderAt T e B b p bs W' := by
 have hlt := h.lt
 obtain ⟨hB, v, hv, hown, hne⟩ := h
 exact ⟨hB, v, (hb.block b hlt).trans hv, ownsRow_same hown fun g hg => hb.block g (hown.lt g hg).2, hne⟩

theorem bld_below4 {T e : TypeId} {B b : Nat} {bs : List Value} {W W' : World} (h : Lib.IsBuilder T e B b bs W) (hb : Below W.heap.size W W') : Lib.IsBuilder T e B b bs W' :=
 h.elim (fun x => .inl (bat_below4 x hb)) (fun x => .inr (bat_below4 x hb))

theorem bld_lt4 {T e : TypeId} {B b : Nat} {bs : List Value} {W : World} (h : Lib.IsBuilder T e B b bs W) : B ≤ b ∧ b < W.heap.size := h.elim (fun x => ⟨x.1, x.lt⟩) (fun x => ⟨x.1, x.lt⟩)

def BytM (w : World) (g : Nat) (s : ByteArray) : Prop := ∃ cap M, s.size ≤ cap ∧ w.heap[g]? = some (.cells (bytesRow s cap) 5 (M, M + 1))

theorem BytM.kept {w w' : World} {g b : Nat} {s : ByteArray} (h : BytM w g s) (hm : MarksKept b w w') (hb : g ≠ b) : BytM w' g s := by
 obtain ⟨cap, M, h1, h2⟩ := h
 refine ⟨cap, M, h1, hm g _ h2 hb fun c e => ?_⟩
 simp at e

theorem BytM.cell {w : World} {g : Nat} {s : ByteArray} (h : BytM w g s) (k : Nat) (hk : k < s.size) : w.cell? ⟨g, k, none⟩ = some (.int .u8 (s[k].toNat : Int)) := by
 obtain ⟨cap, M, h1, h2⟩ := h
 rw [Lib.cell_of_heap h2, bytesRow_at s cap k hk]
 rfl

def WrI (B b g : Nat) (l : List UInt8) (s : ByteArray) (w W1 wr : World) (k : Nat) : Prop :=
 Lib.IsBuilder 115 5 B b (Lib.byteCells (l ++ wrtV (s.data.toList.take k))) wr ∧ Below B w wr ∧ MarksKept b W1 wr ∧ BytM wr g s

set_option maxHeartbeats 4000000 in
set_option maxRecDepth 100000 in
theorem write4_any (B b : Nat) (l : List UInt8) (s : ByteArray) (w : World) (h : Lib.IsBuilder 115 5 B b (Lib.byteCells l) w) (hlen : l.length + 3 * s.size ≤ 1000000000) :
  Calls Tryz.prog 82 #[.pointer (some ⟨b, 0, none⟩), .string s] w fun e w' => e = .returned (.tuple #[]) ∧ (Lib.IsBuilder 115 5 B b (Lib.byteCells (l ++ wrtV s.data.toList)) w' ∧ Below B w w' ∧ MarksKept b w w') := by
 obtain ⟨hBb, hbl⟩ := bld_lt4 h
 have hcv := run_bytes_of_string (P := Tryz.prog) w 9 113 5 s Tryz.underlying9 Tryz.underlying113 Tryz.underlying5
 have hcap := grownCap_ge w s.size 0 5
 have hm0 : BytM (w.drew.alloc (.cells (bytesRow s (grownCap w s.size 0 5)) 5 ((bytesRow s (grownCap w s.size 0 5)).size, (bytesRow s (grownCap w s.size 0 5)).size + 1))) w.heap.size s := ⟨_, _, hcap, heap_alloc_new w.drew _⟩
 have hb0 : Below w.heap.size w (w.drew.alloc (.cells (bytesRow s (grownCap w s.size 0 5)) 5 ((bytesRow s (grownCap w s.size 0 5)).size, (bytesRow s (grownCap w s.size 0 5)).size + 1))) := (Below.refl _ w).drew.alloc (Nat.le_refl _) _
 generalize (w.drew.alloc (.cells (bytesRow s (grownCap w s.size 0 5)) 5 ((bytesRow s (grownCap w s.size 0 5)).size, (bytesRow s (grownCap w s.size 0 5)).size + 1))) = W1 at hcv hm0 hb0
 generalize grownCap w s.size 0 5 = cap at hcv hcap
 have hbB : Below B w W1 := hb0.mono (by omega)
 have H0 := hid (show WrI B b w.heap.size l s w W1 W1 0 from ⟨by rw [List.take_zero]; simpa [wrtV] using bld_below4 h hb0, hbB, MarksKept.refl _ _, hm0⟩)
 have HK0 := hid (show MarksKept b w W1 from fun k o hk _ _ => by
  have hkl : k < w.heap.size := by
   rcases Nat.lt_or_ge k w.heap.size with h' | h'
   ·exact h'
   ·simp [Array.getElem?_eq_none h'] at hk
  rw [hb0.block k hkl]; exact hk)
 clear h hm0 hb0 hbB
 go_enter Tryz.func82, Tryz.ntmps82
 go_wp2
 clear hcv
 go_loopw [9] (fun i wr => ∃ k : Nat, k ≤ s.size ∧ i = .int .i64 k ∧ WrI B b w.heap.size l s w W1 wr k) (fun i _ => s.size - (intOf i).toNat)
 case atStart => exact ⟨0, Nat.zero_le _, rfl, H0.out⟩
 case round =>
  obtain ⟨k, hk, rfl, hI, hbw, hmk, hby⟩ := hrel
  have hle := wrtV_le (s.data.toList.take k)
  have htl : (s.data.toList.take k).length ≤ k := List.length_take_le _ _
  have hBw : B ≤ wr.heap.size := by have := hbw.size; omega
  by_cases hlt : k < s.size
  ·have HT := hid (take_snoc s k hlt)
   have HP := hid (wrtV_snoc (s.data.toList.take k) s[k])
   have hc := hby.cell k hlt
   have hc8 : s[k].toNat < 256 := s[k].toNat_lt
   obtain ⟨acc, hacc⟩ : ∃ acc, l ++ wrtV (s.data.toList.take k) = acc := ⟨_, rfl⟩
   have hal : acc.length ≤ 1000000000 - 3 := by rw [← hacc, List.length_append]; omega
   rw [hacc] at hI
   have HPl := hid (fun w => plain4_any (s[k].toNat : Int) w)
   have HW := hid (show wrtC s[k] = if plI (s[k].toNat : Int) then [s[k]] else if s[k].toNat = 32 then [43] else esc s[k] from rfl)
   obtain ⟨q, hq⟩ : ∃ q, plI (s[k].toNat : Int) = q := ⟨_, rfl⟩
   rw [hq] at HPl HW
   have HAc := hid hacc
   have HMk := hid hmk
   have HBy := hid hby
   clear hq hacc hmk hby hle htl
   cases q with
   | true =>
    go_wp2_with (go_at_call 136; refine (HPl.out _).mono ?_; rintro e w' ⟨rfl, rfl⟩)
    refine (writeByte_n B b _ _ _ hI (by rw [Lib.byteCells_length]; omega) hBw).mono ?_
    rintro e w1 ⟨rfl, h1, b1, k1⟩
    go_wp2
    go_roundw
    case rel =>
     refine ⟨k + 1, by omega, by go_num, ?_, hbw.trans b1, HMk.out.trans k1, HBy.out.kept k1 (by omega)⟩
     rw [HT.out, HP.out, HW.out, ← List.append_assoc, HAc.out, Lib.byteCells_append]
     exact .inr h1
    case measure => simp [intOf]; omega
   | false =>
    by_cases h32 : s[k].toNat = 32
    ·have h32' : ((s[k].toNat : Int) == 32) = true := by rw [h32]; rfl
     have HW2 := hid (show wrtC s[k] = [43] by rw [HW.out, if_neg (by decide), if_pos h32])
     clear h32
     go_wp2_with (go_at_call 136; refine (HPl.out _).mono ?_; rintro e w' ⟨rfl, rfl⟩)
     refine (writeByte_n B b _ _ _ hI (by rw [Lib.byteCells_length]; omega) hBw).mono ?_
     rintro e w1 ⟨rfl, h1, b1, k1⟩
     go_wp2
     go_roundw
     case rel =>
      refine ⟨k + 1, by omega, by go_num, ?_, hbw.trans b1, HMk.out.trans k1, HBy.out.kept k1 (by omega)⟩
      rw [HT.out, HP.out, HW2.out, ← List.append_assoc, HAc.out, Lib.byteCells_append]
      exact .inr h1
     case measure => simp [intOf]; omega
    ·have h32' : ((s[k].toNat : Int) == 32) = false := by rw [beq_eq_false_iff_ne]; omega
     have HW2 := hid (show wrtC s[k] = esc s[k] by rw [HW.out, if_neg (by decide), if_neg h32])
     have ha := and15 s[k].toNat hc8
     clear h32
     go_wp2_with (go_at_call 136; refine (HPl.out _).mono ?_; rintro e w' ⟨rfl, rfl⟩)
     refine (writeByte_n B b _ 37 _ hI (by rw [Lib.byteCells_length]; omega) hBw).mono ?_
     rintro e w1 ⟨rfl, h1, b1, k1⟩
     go_wp2_with fail
     rw [hexD_at]
     refine (writeByte_n B b _ _ _ (.inr h1) (by rw [List.length_append, Lib.byteCells_length]; simp; omega) (by have := b1.size; omega)).mono ?_
     rintro e w2 ⟨rfl, h2, b2, k2⟩
     go_wp2_with fail
     rw [hexD_at]
     refine (writeByte_n B b _ _ _ (.inr h2) (by rw [List.length_append, List.length_append, Lib.byteCells_length]; simp; omega) (by have := b1.size; have := b2.size; omega)).mono ?_
     rintro e w3 ⟨rfl, h3, b3, k3⟩
     have k13 := (k1.trans k2).trans k3
     go_wp2
     go_roundw
     case rel =>
      refine ⟨k + 1, by omega, by go_num, ?_, ((hbw.trans b1).trans b2).trans b3, HMk.out.trans k13, HBy.out.kept k13 (by omega)⟩
      rw [HT.out, HP.out, HW2.out, ← List.append_assoc, HAc.out, Lib.byteCells_append]
      refine .inr ?_
      have e3 : Lib.byteCells (esc s[k]) = [.int .u8 37] ++ [.int .u8 (hexD (s[k].toNat / 16)).toNat] ++ [.int .u8 (hexD (s[k].toNat % 16)).toNat] := rfl
      rw [e3]
      simpa using h3
     case measure => simp [intOf]; omega
  ·rw [take_all s k hlt] at hI
   have HF := hid (And.intro hI (And.intro hbw (HK0.out.trans hmk)))
   have hlt' : decide ((k : Int) < (s.size : Int)) = false := by rw [decide_eq_false_iff_not]; omega
   clear hI hbw hmk hby
   go_wp2
   go_end0
   exact ⟨rfl, HF.out⟩

end Go.Proofs.YtgoefeaopegdoaaGreatDoor

namespace Go.Proofs.YtgoefeaopegdoaaGreatDoor
open Go.RowKit

theorem marks_pair {b g : Nat} {w w' : World} {x y : Value} (h : w.heap[g]? = some (.cells #[x, y] 51 (0, 0))) (hm : MarksKept b w w') (hb : g ≠ b) : w'.heap[g]? = some (.cells #[x, y] 51 (0, 0)) :=
 hm g _ h hb fun c e => by simp at e

def WrJ (w : World) (L : List Hd) (wr : World) (k : Nat) : Prop :=
 Lib.IsBuilder 115 5 w.heap.size w.heap.size (Lib.byteCells (wrV (L.take k))) wr ∧ Below w.heap.size w wr

set_option maxHeartbeats 8000000 in
set_option maxRecDepth 100000 in
theorem writeO_any (v : Value) (L : List Hd) (w : World) (h : HdAt w v L) (hbig : bigQ L ≤ 900000000) (hn : L.length ≤ 1000000) :
  Calls Tryz.prog 31 #[v] w fun e w' => e = .returned (.string ⟨(wrV L).toArray⟩) ∧ Below w.heap.size w w' := by
 have H0 := hid (show WrJ w L (w.alloc (.cells #[.pointer none, .slice none 0 0] 115)) 0 from ⟨Lib.fresh_isBuilder 115 5 w, (Below.refl _ w).alloc (Nat.le_refl _) _⟩)
 have HH := hid h
 obtain ⟨a, cap, rfl, h1, h2, -⟩ := h
 have hn' : (L.length : Int) ≤ 1000000 := by omega
 clear h1 h2
 go_enter Tryz.func31, Tryz.ntmps31
 go_wp2
 go_loopw [8, 4, 5] (fun i _ _ wr => ∃ k : Nat, k ≤ L.length ∧ i = .int .i64 k ∧ WrJ w L wr k) (fun i _ _ _ => L.length - (intOf i).toNat)
 case atStart => exact ⟨0, Nat.zero_le _, rfl, H0.out⟩
 case round =>
  obtain ⟨k, hk, rfl, hI, hbw⟩ := hrel
  by_cases hlt : k < L.length
  ·have hlt' : (k : Int) < (L.length : Int) := by omega
   obtain ⟨a', cap', he, -, -, hcells⟩ := HH.out.kept hbw
   obtain ⟨g, off, ha, c0, c1⟩ := hcells k hlt
   cases he
   subst ha
   obtain ⟨X, hX⟩ : ∃ X : ByteArray, (⟨L[k].name.toArray⟩ : ByteArray) = X := ⟨_, rfl⟩
   obtain ⟨Y, hY⟩ : ∃ X : ByteArray, (⟨L[k].value.toArray⟩ : ByteArray) = X := ⟨_, rfl⟩
   have hbt := big_take L k hlt
   have hal := wrA_le true (L.take k)
   have hXs : X.size = L[k].name.length := by rw [← hX, Lib.size_eq]
   have hYs : Y.size = L[k].value.length := by rw [← hY, Lib.size_eq]
   have HT := hid (show wrV (L.take (k + 1)) = wrV (L.take k) ++ ((if k = 0 then [] else [38]) ++ (wrtV X.data.toList ++ 61 :: wrtV Y.data.toList)) by
    unfold wrV
    rw [List.take_succ_eq_append_getElem hlt, wrA_snoc, wrP, ← hX, ← hY]
    congr 2
    cases k with
    | zero => simp
    | succ k => cases hL : L with
     | nil => rw [hL] at hlt; simp at hlt
     | cons x t => simp)
   rw [hX] at c0
   rw [hY] at c1
   obtain ⟨acc, hacc⟩ : ∃ acc, wrV (L.take k) = acc := ⟨_, rfl⟩
   rw [hacc] at hI HT
   have hal' : acc.length + 3 * X.size + 3 * Y.size + 2 ≤ 900000000 := by rw [← hacc, hXs, hYs]; unfold bigH at hbt; unfold wrV; omega
   have hbl := (bld_lt4 hI).2
   obtain ⟨W1, hW1⟩ : ∃ Z, wr.alloc (.cells #[.string X, .string Y] 51) = Z := ⟨_, rfl⟩
   have hb1 : Below wr.heap.size wr W1 := by rw [← hW1]; exact (Below.refl _ wr).alloc (Nat.le_refl _) _
   have hp1 : W1.heap[wr.heap.size]? = some (.cells #[.string X, .string Y] 51 (0, 0)) := by rw [← hW1]; exact heap_alloc_new wr _
   have hI1 := bld_below4 hI hb1
   have hB1 : Below w.heap.size w W1 := below2 hbw hb1
   have d0 : W1.cell? ⟨wr.heap.size, 0, none⟩ = some (.string X) := by rw [Lib.cell_of_heap hp1]; rfl
   clear hX hY hXs hYs hbt hal hacc hI hbw hb1
   by_cases h0 : k = 0
   ·have HT2 := hid (show wrV (L.take (k + 1)) = acc ++ (wrtV X.data.toList ++ 61 :: wrtV Y.data.toList) by rw [HT.out, if_pos h0]; rfl)
    have h0' : ¬ (0 : Int) < (k : Int) := by omega
    clear h0 HT
    go_wp2_with fail
    refine (write4_any w.heap.size w.heap.size acc X _ hI1 (by omega)).mono ?_
    rintro e w2 ⟨rfl, i2, b2, m2⟩
    have hp2 := marks_pair hp1 m2 (by omega)
    have hB2 := hB1.trans b2
    clear d0 hp1
    have d1 : w2.cell? ⟨wr.heap.size, 1, none⟩ = some (.string Y) := by rw [Lib.cell_of_heap hp2]; rfl
    have hw2 := wrtV_le X.data.toList
    rw [← Lib.size_eq] at hw2
    go_wp2_with fail
    refine (writeByte_n w.heap.size w.heap.size _ 61 _ i2 (by rw [Lib.byteCells_length, List.length_append]; omega) hB2.size).mono ?_
    rintro e w3 ⟨rfl, i3, b3, m3⟩
    have hp3 := marks_pair hp2 m3 (by omega)
    have hB3 := hB2.trans b3
    clear d1 hp2
    have d1 : w3.cell? ⟨wr.heap.size, 1, none⟩ = some (.string Y) := by rw [Lib.cell_of_heap hp3]; rfl
    have HI3 := hid (show Lib.IsBuilder 115 5 w.heap.size w.heap.size (Lib.byteCells (acc ++ wrtV X.data.toList ++ [61])) w3 by rw [Lib.byteCells_append (acc ++ wrtV X.data.toList)]; exact .inr i3)
    clear i2 i3
    go_wp2_with fail
    refine (write4_any w.heap.size w.heap.size _ Y _ HI3.out (by rw [List.length_append, List.length_append]; simp; omega)).mono ?_
    rintro e w4 ⟨rfl, i4, b4, m4⟩
    have HR := hid (show WrJ w L w4 (k + 1) from ⟨by rw [HT2.out]; simpa using i4, hB3.trans b4⟩)
    clear i4 hp3 d1
    go_wp2
    go_roundw
    case rel => exact ⟨k + 1, by omega, by go_num, HR.out⟩
    case measure => simp [intOf]; omega
   ·have HT2 := hid (show wrV (L.take (k + 1)) = acc ++ ([38] ++ (wrtV X.data.toList ++ 61 :: wrtV Y.data.toList)) by rw [HT.out, if_neg h0])
    have h0' : (0 : Int) < (k : Int) := by omega
    clear h0 HT d0
    go_wp2_with fail
    refine (writeByte_n w.heap.size w.heap.size _ 38 _ hI1 (by rw [Lib.byteCells_length]; omega) hB1.size).mono ?_
    rintro e w9 ⟨rfl, i9, b9, m9⟩
    have hp9 := marks_pair hp1 m9 (by omega)
    have hB9 := hB1.trans b9
    have HI9 := hid (show Lib.IsBuilder 115 5 w.heap.size w.heap.size (Lib.byteCells (acc ++ [38])) w9 by rw [Lib.byteCells_append]; exact .inr i9)
    clear hp1 i9
    have d0 : w9.cell? ⟨wr.heap.size, 0, none⟩ = some (.string X) := by rw [Lib.cell_of_heap hp9]; rfl
    go_wp2_with fail
    refine (write4_any w.heap.size w.heap.size (acc ++ [38]) X _ HI9.out (by rw [List.length_append]; simp; omega)).mono ?_
    rintro e w2 ⟨rfl, i2, b2, m2⟩
    have hp2 := marks_pair hp9 m2 (by omega)
    have hB2 := hB9.trans b2
    clear d0 hp9
    have d1 : w2.cell? ⟨wr.heap.size, 1, none⟩ = some (.string Y) := by rw [Lib.cell_of_heap hp2]; rfl
    have hw2 := wrtV_le X.data.toList
    rw [← Lib.size_eq] at hw2
    go_wp2_with fail
    refine (writeByte_n w.heap.size w.heap.size _ 61 _ i2 (by rw [Lib.byteCells_length, List.length_append, List.length_append]; simp; omega) hB2.size).mono ?_
    rintro e w3 ⟨rfl, i3, b3, m3⟩
    have hp3 := marks_pair hp2 m3 (by omega)
    have hB3 := hB2.trans b3
    clear d1 hp2
    have d1 : w3.cell? ⟨wr.heap.size, 1, none⟩ = some (.string Y) := by rw [Lib.cell_of_heap hp3]; rfl
    have HI3 := hid (show Lib.IsBuilder 115 5 w.heap.size w.heap.size (Lib.byteCells (acc ++ [38] ++ wrtV X.data.toList ++ [61])) w3 by rw [Lib.byteCells_append (acc ++ [38] ++ wrtV X.data.toList)]; exact .inr i3)
    clear i2 i3
    go_wp2_with fail
    refine (write4_any w.heap.size w.heap.size _ Y _ HI3.out (by rw [List.length_append, List.length_append, List.length_append]; simp; omega)).mono ?_
    rintro e w4 ⟨rfl, i4, b4, m4⟩
    have HR := hid (show WrJ w L w4 (k + 1) from ⟨by rw [HT2.out]; simpa using i4, hB3.trans b4⟩)
    clear i4 hp3 d1
    go_wp2
    go_roundw
    case rel => exact ⟨k + 1, by omega, by go_num, HR.out⟩
    case measure => simp [intOf]; omega
  ·have hlt' : decide ((k : Int) < (L.length : Int)) = false := by rw [decide_eq_false_iff_not]; omega
   rw [List.take_of_length_le (by omega)] at hI
   have HI := hid hI
   have HB := hid hbw
   clear hI hbw
   go_wp2_with fail
   refine (Tryz.Builder_String_any w.heap.size w.heap.size _ _ HI.out HB.out.size).mono ?_
   rintro e w1 ⟨rfl, b1⟩
   go_wp2
   go_ret
   exact ⟨rfl, HB.out.trans b1⟩

end Go.Proofs.YtgoefeaopegdoaaGreatDoor
