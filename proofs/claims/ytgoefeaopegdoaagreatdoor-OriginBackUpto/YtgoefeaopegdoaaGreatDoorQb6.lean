/-
  Walks and plain facts that this claim leans on, put together out of 1 texts: Ebb.
-/
import Derived.Test.YtgoefeaopegdoaaGreatDoorProg
import Derived.Test.YtgoefeaopegdoaaGreatDoorQa1
import Derived.Test.YtgoefeaopegdoaaGreatDoorQa2
import Derived.Test.YtgoefeaopegdoaaGreatDoorQa3
import Derived.Test.YtgoefeaopegdoaaGreatDoorQa4
import Derived.Test.YtgoefeaopegdoaaGreatDoorQa5
import Derived.Test.YtgoefeaopegdoaaGreatDoorQa6
import Derived.Test.YtgoefeaopegdoaaGreatDoorQa7
import Derived.Test.YtgoefeaopegdoaaGreatDoorQa8
import Derived.Test.YtgoefeaopegdoaaGreatDoorQa9
import Derived.Test.YtgoefeaopegdoaaGreatDoorQa10
import Derived.Test.YtgoefeaopegdoaaGreatDoorQa11
import Derived.Test.YtgoefeaopegdoaaGreatDoorQa12
import Derived.Test.YtgoefeaopegdoaaGreatDoorQa13
import Derived.Test.YtgoefeaopegdoaaGreatDoorQa14
import Derived.Test.YtgoefeaopegdoaaGreatDoorQa15
import Derived.Test.YtgoefeaopegdoaaGreatDoorQa16
import Derived.Test.YtgoefeaopegdoaaGreatDoorQa17
import Derived.Test.YtgoefeaopegdoaaGreatDoorQa18
import Derived.Test.YtgoefeaopegdoaaGreatDoorQa19
import Derived.Test.YtgoefeaopegdoaaGreatDoorQa20
import Derived.Test.YtgoefeaopegdoaaGreatDoorQa21
import Derived.Test.YtgoefeaopegdoaaGreatDoorQa22
import Derived.Test.YtgoefeaopegdoaaGreatDoorQa23
import Derived.Test.YtgoefeaopegdoaaGreatDoorQa24
import Derived.Test.YtgoefeaopegdoaaGreatDoorQa25
import Derived.Test.YtgoefeaopegdoaaGreatDoorQa26
import Derived.Test.YtgoefeaopegdoaaGreatDoorQa27
import Derived.Test.YtgoefeaopegdoaaGreatDoorQb1
import Derived.Test.YtgoefeaopegdoaaGreatDoorQb2
import Derived.Test.YtgoefeaopegdoaaGreatDoorQb3
import Derived.Test.YtgoefeaopegdoaaGreatDoorQb4
import Derived.Test.YtgoefeaopegdoaaGreatDoorQb5
import Derived.Lib.SlBytesConst
import Derived.Laws.IdiomStrings
import Derived.Laws.BytesString
import Derived.Deep.QuietTactic
import Derived.BigQuiet
import Derived.Deep.Cut
import Derived.BigRegion
import Derived.Deep.RegionHeld
import Derived.Lib.IndexMore
import Derived.Lib.Join
import Derived.Lib.LastIndexByte
import Derived.WalkKit
import Derived.Lib.Strings
import Derived.Lib.UnsafeStr
import Derived.Laws.AppendOwn
import Derived.Laws.BitsAllLaws
import Derived.Lib.Bytealg
import Derived.Lib.BufferMore
import Derived.Laws.Cover4
import Derived.Lib.BufferRead
import Derived.Lib.RuneBytes
import Derived.Laws.RangeAny
import Derived.LoopN
import Derived.RegionTactic
import Derived.Deep.RegionWith
import Derived.OwnWalk
import Derived.Deep.RegionLaw
import Derived.Laws.OwnMore
import Derived.Deep.LoopGhost
import Derived.Shelf.Strings.Builder1
import Derived.Shelf.Strings.Builder2
import Derived.Shelf.Strings.OnBuilder
import Derived.Shelf.Strings.Trim
import Derived.Shelf.Small.Utf8
import Derived.Shelf.Small.Bits
import Derived.Shelf.Small.Strs
import Derived.Shelf.Small.Wraps
import Derived.Shelf.Strings.BuilderF
import Derived.Shelf.Strings.BuilderK
import Derived.Shelf.Strings.BuilderRune
import Derived.Shelf.Utf8.AppendRune
import Derived.Shelf.Utf8.AppendRunePlain
import Derived.Shelf.Strings.Builder2Cap
import Derived.Shelf.Strconv.Itoa0
import Derived.Shelf.Strconv.Itoa1
import Derived.Shelf.LaysM
import Derived.Shelf.Strconv.Itoa2
import Derived.Shelf.Strconv.Itoa3
import Derived.Shelf.Strings.Search1
import Derived.Shelf.Strings.Search2
import Derived.Shelf.Strings.Search3
import Derived.Shelf.Strings.Cut
import Derived.Shelf.Strings.Count
import Derived.Shelf.Strings.Shaped
import Derived.Shelf.Strings.LastIndex
import Derived.Shelf.Strings.Prefix
import Derived.Shelf.Strings.Split
import Derived.Shelf.Strings.Replace
import Derived.Shelf.Strings.Runes
import Derived.Shelf.Strings.IndexAny
import Derived.Shelf.Strings.AsciiSet
import Derived.Shelf.Strings.IndexAnyAll
import Derived.Shelf.Unicode.DecodeSlow
import Derived.Ground.Names2Prog
import Derived.Shelf.Slices.Clone
import Derived.Shelf.Slices.In.SortNone
import Derived.Ground.SlgnProg
import Derived.Shelf.SlicesE.Clone
import Derived.Laws.AppendOwnNone
import Derived.Scope
import Derived.ScopeJumps
import Derived.WalkMore
import Derived.Lib.IndexAny
import Derived.Lib.Replace
import Derived.Lib.TrimByte
import Derived.Lib.ItoaNum
import Derived.Lib.DecodeN
import Derived.Lib.OthersKept
import Derived.Deep.WholeRow
import Derived.Lib.AppendStr
import Derived.WalkSpells
import Derived.WalkLawsBesides
import Derived.Lib.AppendIntMem
import Derived.Lib.SmallJoins
import Derived.WalkSmall
import Derived.Laws.CopyOwn
import Derived.Laws.ResultCell
import Derived.Deep.MidRow
import Derived.Lib.FrozenHead2
import Derived.Lib.Builder
import Derived.Lib.SlTrimSet
import Derived.Below
import Derived.Shelf.Strings.SlTrimAscii
import Derived.Laws.Runes
set_option linter.unusedSimpArgs false
set_option linter.unusedVariables false

namespace Go.Proofs.YtgoefeaopegdoaaGreatDoor
open Go.RowKit

theorem hd_take5 {w : World} {a : Option Addr} {n cap k : Nat} {L : List Hd} (h : HdAt w (.slice a n cap) L) (hk : k ≤ L.length) : HdAt w (.slice a k cap) (L.take k) := by
 obtain ⟨a', cap', e, h1, h2, h3⟩ := h
 cases e
 have hl : (L.take k).length = k := by simp; omega
 refine ⟨a, cap, by rw [hl], by rw [hl]; omega, h2, fun j hj => ?_⟩
 obtain ⟨b, off, e, c0, c1⟩ := h3 j (by omega)
 refine ⟨b, off, e, ?_, ?_⟩
 ·rw [List.getElem_take]; exact c0
 ·rw [List.getElem_take]; exact c1

theorem big_take5 (L : List Hd) (k : Nat) : bigQ (L.take k) ≤ bigQ L := by
 have h2 := bigQ_app (L.take k) (L.drop k)
 rw [List.take_append_drop] at h2
 omega

theorem org_named5 (o : Org) : ∃ (s h : ByteArray) (p : Int) (q : Bool), orgVal o = .agg #[.string s, .string h, .int .i64 p, .bool q] ∧ orgCells o = [.string s, .string h, .int .i64 p, .bool q] := ⟨_, _, _, _, rfl, rfl⟩

def finT (x : List UInt8) : List UInt8 := recode ⟨(46 :: x).toArray⟩

def finH (h : Hd) : Hd := ⟨finT h.name, finT h.value⟩

theorem finT_le (x : List UInt8) : (finT x).length ≤ 4 * (x.length + 1) := recode_le ⟨(46 :: x).toArray⟩

theorem finT_ok (x : List UInt8) : Fin4 (finT x) := fin_recode ⟨(46 :: x).toArray⟩ (by show 0 < (46 :: x).length; simp) rfl

theorem big_fin : ∀ L : List Hd, bigQ (L.map finH) ≤ 13 * bigQ L
 | [] => by simp [bigQ]
 | h :: L => by
  have ih := big_fin L
  have h1 := finT_le h.name
  have h2 := finT_le h.value
  have e1 : bigQ ((h :: L).map finH) = bigH (finH h) + bigQ (L.map finH) := by simp [bigQ]
  have e2 : bigQ (h :: L) = bigH h + bigQ L := by simp [bigQ]
  have e3 : bigH (finH h) ≤ 13 * bigH h := by
   show 3 * (finT h.name).length + 3 * (finT h.value).length + 2 ≤ 13 * (3 * h.name.length + 3 * h.value.length + 2)
   omega
  rw [e1, e2]
  omega

theorem quer_fin (L : List Hd) : querQ (wrV (L.map finH)) = L.map finH := quer_wr _ fun x hx => by
 obtain ⟨h, _, rfl⟩ := List.mem_map.1 hx
 exact ⟨finT_ok _, finT_ok _⟩

theorem fin_snoc (L : List Hd) (k : Nat) (hk : k < L.length) : cellsH ((L.take (k + 1)).map finH) = cellsH ((L.take k).map finH) ++ [.string ⟨(finT L[k].name).toArray⟩, .string ⟨(finT L[k].value).toArray⟩] := by
 rw [List.take_succ_eq_append_getElem hk, List.map_append, cellsH_app]
 rfl

def FnI (w : World) (L : List Hd) (v : Value) (wr : World) (k : Nat) : Prop := wr.ownsRow w.heap.size 51 2 v k (cellsH ((L.take k).map finH)) ∧ Below w.heap.size w wr

theorem runes_both (w : World) (T : ByteArray) (hT : T.size ≤ 1000000000) : ∃ (rn cap : Nat) (w2 : World) (R : ByteArray),
  (convert 9 58 (.string T)).run Tryz.prog w = .ok (.slice (some ⟨w.heap.size, 0, none⟩) rn cap) w2 ∧
  (convert 58 9 (.slice (some ⟨w.heap.size, 0, none⟩) rn cap)).run Tryz.prog w2 = .ok (.string R) w2 ∧ R = ⟨(recode T).toArray⟩ ∧ Below w.heap.size w w2 := by
 have hrr := runesFrom_le T
 have hc1 := run_runes_of_string (P := Tryz.prog) w 9 58 21 T Tryz.underlying9 Tryz.underlying58 Tryz.underlying21 (by omega)
 have hc2 := runes_back w T (grownCap w (Conv.runesFrom T T.size 0 #[]).size 0 21)
 refine ⟨_, _, _, _, hc1, hc2, ?_, (Below.refl _ w).drew.alloc (Nat.le_refl _) _⟩
 have := runes_list T
 rw [← this]

theorem sameO_comm (a b : Org) : sameO a b = sameO b a := by
 unfold sameO
 by_cases h : a = b
 ·subst h; rfl
 ·rw [decide_eq_false h, decide_eq_false (fun e => h e.symm), Bool.and_false, Bool.and_false]

theorem ssV_comm (a b : Org) : ssV a b = ssV b a := by
 unfold ssV
 have h1 : (a.scheme == b.scheme) = (b.scheme == a.scheme) := by
  rw [Bool.eq_iff_iff, beq_iff_eq, beq_iff_eq]; exact ⟨Eq.symm, Eq.symm⟩
 have h2 : (siteV a == siteV b) = (siteV b == siteV a) := by
  rw [Bool.eq_iff_iff, beq_iff_eq, beq_iff_eq]; exact ⟨Eq.symm, Eq.symm⟩
 rw [h1, h2]
 cases a.opq <;> cases b.opq <;> rfl

theorem same_ss {a b : Org} (h : sameO a b = true) : ssV a b = true := by
 unfold sameO at h
 rw [Bool.and_eq_true, decide_eq_true_eq] at h
 obtain ⟨h1, rfl⟩ := h
 unfold ssV
 rw [h1]
 simp

theorem same_self (a : Org) : sameO a a = !a.opq := by unfold sameO; simp

theorem big_mem : ∀ {L : List Hd} {h : Hd}, h ∈ L → bigH h ≤ bigQ L
 | [], h, hm => by simp at hm
 | x :: L, h, hm => by
  have e2 : bigQ (x :: L) = bigH x + bigQ L := by simp [bigQ]
  rcases List.mem_cons.1 hm with rfl | hm
  ·omega
  ·have := big_mem hm; omega

theorem dot_app (x : List UInt8) : (⟨#[46]⟩ : ByteArray) ++ ⟨x.toArray⟩ = ⟨(46 :: x).toArray⟩ := by
 rw [← Lib.mk_data (_ ++ _)]
 congr 1

set_option maxHeartbeats 32000000 in
set_option maxRecDepth 100000 in
theorem originBack_walk (v : Value) (L : List Hd) (s t : ByteArray) (w : World) (hv : HdAt w v L) (hbig : bigQ L ≤ 4000000) (hs : s.size ≤ 140737488351232) (ht : t.size ≤ 140737488351232) (hg : Gd w) :
  Calls Tryz.prog 7 #[v, .string s, .string t] w fun e w' => e = .returned (.bool true) ∧ Below w.heap.size w w' := by
 obtain ⟨i0, hi, hz0, hz1, hz2⟩ := info3 infoPair
 have HG0 := hid hg
 have HOa := hid (fun (Z : World) (hZ : Gd Z) => of4_any s Z hZ (by omega))
 have HOb := hid (fun (Z : World) (hZ : Gd Z) => of4_any t Z hZ (by omega))
 have hSa : SiteOk (ofT s.data.toList) := by unfold ofT; exact siteU15 (tr_read _)
 have hSb : SiteOk (ofT t.data.toList) := by unfold ofT; exact siteU15 (tr_read _)
 generalize ofT s.data.toList = A at HOa hSa
 generalize ofT t.data.toList = B at HOb hSb
 have HSa := hid hSa
 have HSb := hid hSb
 obtain ⟨aS, aH, aP, aQ, hva, hxa⟩ := org_named5 (A)
 obtain ⟨bS, bH, bP, bQ, hvb, hxb⟩ := org_named5 (B)
 rw [hva] at HOa
 rw [hvb] at HOb
 have HXa := hid hxa
 have HXb := hid hxb
 have HVa := hid hva
 have HVb := hid hvb
 have HQa := hid (show aQ = A.opq by
  unfold orgCells at hxa
  injection hxa with _ hxa
  injection hxa with _ hxa
  injection hxa with _ hxa
  injection hxa with hxa _
  injection hxa with hxa
  exact hxa.symm)
 obtain ⟨a, cap, rfl, hc1, hc2, -⟩ := hv.view
 have HV := hid hv
 have HBg := hid hbig
 clear hg hv hbig hSa hSb hxa hxb hva hvb
 by_cases h20 : 20 < L.length
 ·have h20' : (20 : Int) < (L.length : Int) := by omega
  have hcap20 : (20 : Int) ≤ (cap : Int) := by omega
  obtain ⟨M, hM⟩ : ∃ M, L.take 20 = M := ⟨_, rfl⟩
  have HMl := hid (show M.length = 20 by rw [← hM, List.length_take]; omega)
  have HM := hid (show HdAt w (.slice a 20 cap) M by rw [← hM]; exact hd_take5 HV.out (by omega))
  have HMb := hid (show bigQ M ≤ 4000000 by rw [← hM]; exact Nat.le_trans (big_take5 _ _) HBg.out)
  clear hM
  go_enter Tryz.func7, Tryz.ntmps7
  go_wp2_with fail
  go_loopw [7, 8] (fun mv iv wr => ∃ k : Nat, k ≤ 20 ∧ iv = .int .i64 k ∧ FnI w M mv wr k) (fun _ iv _ => 20 - (intOf iv).toNat)
  case atStart => exact ⟨0, Nat.zero_le _, rfl, World.ownsRow_nil _ _ _ _, Below.refl _ _⟩
  case round =>
   obtain ⟨k, hk, rfl, hown, hbw⟩ := hrel
   have HO := hid hown
   have HBw := hid hbw
   have hwr := hbw.size
   clear hown hbw
   by_cases hlt : k < 20
   ·have hlt' : (k : Int) < (20) := by omega
    have hkM : k < M.length := by rw [HMl.out]; exact hlt
    obtain ⟨a', cap', he, -, -, hcells⟩ := HM.out.kept HBw.out
    obtain ⟨g, off, ha, c0, c1⟩ := hcells k hkM
    have ha2 : a = some ⟨g, off, none⟩ := by injection he with e1; rw [e1]; exact ha
    clear he ha hcells
    subst ha2
    have HTk := hid (fin_snoc M k hkM)
    have hLn : M[k].name.length ≤ 4000000 ∧ M[k].value.length ≤ 4000000 := by
     have h1 := HMb.out
     have h2 : bigH M[k] ≤ bigQ M := by
      have h3 := big_mem (L := M) (h := M[k]) (List.getElem_mem hkM)
      exact h3
     unfold bigH at h2
     omega
    obtain ⟨X, hX⟩ : ∃ X : ByteArray, (⟨M[k].name.toArray⟩ : ByteArray) = X := ⟨_, rfl⟩
    obtain ⟨Y, hY⟩ : ∃ X : ByteArray, (⟨M[k].value.toArray⟩ : ByteArray) = X := ⟨_, rfl⟩
    rw [hX] at c0
    rw [hY] at c1
    have hXs : X.size ≤ 4000000 := by rw [← hX, Lib.size_eq]; exact hLn.1
    have hYs : Y.size ≤ 4000000 := by rw [← hY, Lib.size_eq]; exact hLn.2
    obtain ⟨TX, hTX⟩ : ∃ T : ByteArray, (⟨#[46]⟩ : ByteArray) ++ X = T := ⟨_, rfl⟩
    obtain ⟨TY, hTY⟩ : ∃ T : ByteArray, (⟨#[46]⟩ : ByteArray) ++ Y = T := ⟨_, rfl⟩
    have hTXl : TX = ⟨(46 :: M[k].name).toArray⟩ := by rw [← hTX, ← hX]; exact dot_app _
    have hTYl : TY = ⟨(46 :: M[k].value).toArray⟩ := by rw [← hTY, ← hY]; exact dot_app _
    have hTXs : TX.size ≤ 1000000000 := by rw [hTXl, Lib.size_eq]; show (46 :: M[k].name).length ≤ _; rw [List.length_cons]; omega
    have hTYs : TY.size ≤ 1000000000 := by rw [hTYl, Lib.size_eq]; show (46 :: M[k].value).length ≤ _; rw [List.length_cons]; omega
    obtain ⟨rn1, cp1, W1, R1, e1, e2, hR1, hb1⟩ := runes_both wr TX hTXs
    obtain ⟨rn2, cp2, W2, R2, e3, e4, hR2, hb2⟩ := runes_both W1 TY hTYs
    have c1' := keptC4 c1 hb1
    have hR1f : R1 = ⟨(finT M[k].name).toArray⟩ := by rw [hR1, hTXl]; rfl
    have hR2f : R2 = ⟨(finT M[k].value).toArray⟩ := by rw [hR2, hTYl]; rfl
    rw [← hR1f, ← hR2f] at HTk
    have HO2 := hid (own_same (own_same HO.out hb1) hb2)
    have HB2 := hid (below2 HBw.out (below2 hb1 hb2))
    have hw2 := HB2.out.size
    clear hX hY hTXl hTYl hR1 hR2 hR1f hR2f hb1 hb2 hLn hTXs hTYs c1
    go_wp2_with (at_builtin; go_must (refine wpList_append_own _ rfl _ _ 48 rfl w.heap.size 51 i0 _ 2 32 Tryz.underlying48 hi hz0 hz1 hz2 rfl (by decide) _ _ _ rfl (HO2.out.alloc _) ⟨W2.heap.size, 0, none⟩ 1 1 [.string R1, .string R2] rfl rfl ?c1 ?c2 ?c3 ?c4 ?c5 ?_))
    case c1 =>
     intro q u hq
     match q, hq with
     | 0, hq => simp at hq; subst hq; simp [Addr.add]
     | 1, hq => simp at hq; subst hq; simp [Addr.add]
    case c2 => intro u hu; simp at hu; rcases hu with rfl | rfl <;> rfl
    case c3 => unfold maxLen; omega
    case c4 => omega
    case c5 => simp; omega
    intro v' w5 hown' hgrow hnil
    have HO5 := hid hown'
    have HB5 := hid (show Below w.heap.size w w5 from (HB2.out.alloc hw2 _).grown hgrow (by simp; omega) (fun g hg => (HO2.out.lt g hg).1))
    clear hown' hgrow hnil e1 e2 e3 e4 hTX hTY
    go_wp2
    go_roundw
    case rel => exact ⟨k + 1, by omega, by go_num, by rw [HTk.out, List.map_take]; exact HO5.out, HB5.out⟩
    case measure => simp [intOf]; omega
   ·have hlt' : decide ((k : Int) < (20)) = false := by rw [decide_eq_false_iff_not]; omega
    have hkn : 20 = k := by omega
    subst hkn
    have hMt : M.take (20) = M := List.take_of_length_le (by rw [HMl.out]; exact Nat.le_refl _)
    rw [hMt] at HO
    have HGr := hid (HG0.out.kept HBw.out)
    have HFl := hid (show (M.map finH).length = 20 by rw [List.length_map, HMl.out])
    have HFh := hid (show HdAt wr u7 (M.map finH) from own_hd (by rw [HFl.out]; exact HO.out))
    have HFb := hid (show bigQ (M.map finH) ≤ 52000000 by have := big_fin M; have := HMb.out; omega)
    have HQf := hid (quer_fin M)
    obtain ⟨FF, hFF⟩ : ∃ F, M.map finH = F := ⟨_, rfl⟩
    rw [hFF] at HFl HFh HFb HQf
    obtain ⟨ma, mc, rfl, -, -, -⟩ := HFh.out.view
    have HWa := hid (writeO_any _ FF wr HFh.out (by have := HFb.out; omega) (by rw [HFl.out]; omega))
    obtain ⟨TT, hTT⟩ : ∃ X : ByteArray, (⟨(wrV FF).toArray⟩ : ByteArray) = X := ⟨_, rfl⟩
    rw [hTT] at HWa
    have hTl : TT.data.toList = wrV FF := by rw [← hTT]
    have hTs : TT.size ≤ 100000000 := by
     rw [Lib.size_eq, hTl]
     have h1 : (wrV FF).length ≤ bigQ FF := wrA_le true FF
     have := HFb.out
     omega
    have HQq := hid (fun (Z : World) (hZ : Gd Z) => query4_any TT Z hZ hTs)
    rw [hTl, HQf.out] at HQq
    unfold QPost at HQq
    clear hMt hFF hTT hTl hTs
    go_wp2_with fail
    refine HWa.out.mono ?_
    rintro e w3 ⟨rfl, hb3⟩
    have HB3 := hid (below2 HBw.out hb3)
    have HF3 := hid (HFh.out.kept hb3)
    clear hb3
    go_wp2_with fail
    refine (HQq.out _ (HG0.out.kept HB3.out)).mono ?_
    rintro e w4 ⟨va, rfl, hown, hb4⟩
    have HB4 := hid (below2 HB3.out hb4)
    have HF4 := hid (HF3.out.kept hb4)
    have HA4 := hid (own_hd hown)
    obtain ⟨qa, qc, rfl, -, -, -⟩ := HA4.out.view
    have HSm := hid (sameP_any _ _ FF FF w4 HA4.out HF4.out (by rw [HFl.out]; omega) (by rw [HFl.out]; omega))
    simp only [eq_self, decide_true] at HSm
    clear hown hb4
    go_wp2_with fail
    refine HSm.out.mono ?_
    rintro e w5 ⟨rfl, hb5⟩
    have HB5 := hid (below2 HB4.out hb5)
    clear hb5
    go_wp2_with fail
    refine (HOa.out _ (HG0.out.kept HB5.out)).mono ?_
    rintro e w6 ⟨rfl, hb6⟩
    obtain ⟨W6, hW6⟩ : ∃ X, (w6.alloc (.cells #[.string aS, .string aH, .int .i64 aP, .bool aQ] 28)) = X := ⟨_, rfl⟩
    have hbx : Below w6.heap.size w6 W6 := by rw [← hW6]; exact (Below.refl _ w6).alloc (Nat.le_refl _) _
    have HOa6 := hid (show OrgIn W6 w6.heap.size A by unfold OrgIn; rw [HXa.out, ← hW6]; exact heap_alloc_new w6 _)
    have HB6 := hid (below2 HB5.out (below2 hb6 hbx))
    clear hb6 hbx
    go_wp2_with fail
    refine (HOb.out _ (HG0.out.kept HB6.out)).mono ?_
    rintro e w7 ⟨rfl, hb7⟩
    have HOa7 := hid (HOa6.out.kept hb7)
    have HB7 := hid (below2 HB6.out hb7)
    clear hb7
    obtain ⟨W8, hW8⟩ : ∃ X, (w7.alloc (.cells #[.string bS, .string bH, .int .i64 bP, .bool bQ] 28)) = X := ⟨_, rfl⟩
    have hb8 : Below w7.heap.size w7 W8 := by rw [← hW8]; exact (Below.refl _ w7).alloc (Nat.le_refl _) _
    have HOb8 := hid (show OrgIn W8 w7.heap.size B by unfold OrgIn; rw [HXb.out, ← hW8]; exact heap_alloc_new w7 _)
    have HOa8 := hid (HOa7.out.kept hb8)
    have HB8 := hid (below2 HB7.out hb8)
    have HQ0 := hid ((Below.refl W8.heap.size W8).drew)
    have HRa := hid (show ∀ Z, Below W8.heap.size W8 Z → Z.rangeAt (w6.heap.size) 0 [.string aS, .string aH, .int .i64 aP, .bool aQ] from fun Z hZ => by
     have := range_row (show Z.heap[w6.heap.size]? = some (.cells (orgCells (A)).toArray 28 (0, 0)) from HOa8.out.kept hZ)
     rw [HXa.out] at this
     exact this)
    have HRb := hid (show ∀ Z, Below W8.heap.size W8 Z → Z.rangeAt (w7.heap.size) 0 [.string bS, .string bH, .int .i64 bP, .bool bQ] from fun Z hZ => by
     have := range_row (show Z.heap[w7.heap.size]? = some (.cells (orgCells (B)).toArray 28 (0, 0)) from HOb8.out.kept hZ)
     rw [HXb.out] at this
     exact this)
    have HK3 := hid (show ∀ Z, Below W8.heap.size W8 Z → Nonempty (PLift (Z.cell? ⟨w6.heap.size, 3, none⟩ = some (.bool aQ))) from fun Z hZ => ⟨⟨HRa.out Z hZ 3 _ rfl⟩⟩)
    have HM1 := hid (fun (Z : World) (hZ : Below W8.heap.size W8 Z) => same4_any A B Z)
    have HM2 := hid (fun (Z : World) (hZ : Below W8.heap.size W8 Z) => same4_any B A Z)
    have HM3 := hid (fun (Z : World) (hZ : Below W8.heap.size W8 Z) => same4_any A A Z)
    have HN1 := hid (fun (Z : World) (hZ : Below W8.heap.size W8 Z) => ss_any A B Z (HG0.out.kept (below2 HB8.out hZ)) HSa.out HSb.out)
    have HN2 := hid (fun (Z : World) (hZ : Below W8.heap.size W8 Z) => ss_any B A Z (HG0.out.kept (below2 HB8.out hZ)) HSb.out HSa.out)
    have HKn := hid (fun (Z : World) (hZ : Below W8.heap.size W8 Z) => known4_any Z (HG0.out.kept (below2 HB8.out hZ)))
    rw [sameO_comm B A] at HM2
    rw [ssV_comm B A] at HN2
    rw [same_self, ← HQa.out] at HM3
    rw [HVa.out] at HM1 HM2 HM3 HN1 HN2
    rw [HVb.out] at HM1 HM2 HN1 HN2
    have HSS := hid (fun h => same_ss (a := A) (b := B) h)
    have HSO := hid (show sameO A B = true → A.opq = false from fun h => by
     unfold sameO at h
     rw [Bool.and_eq_true] at h
     simpa using h.1)
    rw [← HQa.out] at HSO
    generalize sameO A B = s1 at HM1 HM2 HSS HSO
    generalize ssV A B = s2 at HN1 HN2 HSS
    clear hb8
    cases s1 with
    | true =>
     obtain rfl : s2 = true := HSS.out (by first | rfl | trivial)
     obtain rfl : aQ = false := HSO.out (by first | rfl | trivial)
     go_upto_region 14 with fail
     refine wp_region_held_drew (S := (fun wx => Below W8.heap.size W8 wx)) (by kernel_rfl) HQ0.out (fun hHeld => ?_)
     refine wpAnyH_to (fuel' := 40) (listed' := #[false, false, false, false, false, false, false, false, false, false, false, false, false, false, false, false, false, false, false, false, false, false, false, false, false, false, false, false, false, false, false, false, false, false, false, false, false, false, false, false]) rfl rfl ?_
     refine wpAnyH_take (i := 0) (oi := ⟨some 56, _, _, _, _, _⟩) rfl (by kernel_rfl) (by kernel_rfl) (by kernel_rfl) (fun _ _ _ h => h) (yieldsIf_load_mid (by kernel_rfl) 28 (.tmp 11) rfl (w6.heap.size) 0 rfl [.string aS, .string aH, .int .i64 aP, .bool false] _ HRa.out Tryz.underlying28 rfl sizeO) (by assumption) ?_
     (try simp only [Act.put, List.setIfInBounds_toArray, List.set_cons_zero, List.set_cons_succ])
     refine wpAnyH_take (i := 1) (oi := ⟨some 57, _, _, _, _, _⟩) rfl (by kernel_rfl) (by kernel_rfl) (by kernel_rfl) (fun _ _ _ h => h) (yieldsIf_load_mid (by kernel_rfl) 28 (.tmp 12) rfl (w7.heap.size) 0 rfl [.string bS, .string bH, .int .i64 bP, .bool bQ] _ HRb.out Tryz.underlying28 rfl sizeO) (by assumption) ?_
     (try simp only [Act.put, List.setIfInBounds_toArray, List.set_cons_zero, List.set_cons_succ])
     refine wpAnyH_take (i := 3) (oi := ⟨some 59, _, _, _, _, _⟩) rfl (by kernel_rfl) (by kernel_rfl) (by kernel_rfl) (fun _ _ _ h => h) (yieldsIf_load_mid (by kernel_rfl) 28 (.tmp 12) rfl (w7.heap.size) 0 rfl [.string bS, .string bH, .int .i64 bP, .bool bQ] _ HRb.out Tryz.underlying28 rfl sizeO) (by assumption) ?_
     (try simp only [Act.put, List.setIfInBounds_toArray, List.set_cons_zero, List.set_cons_succ])
     refine wpAnyH_take (i := 4) (oi := ⟨some 60, _, _, _, _, _⟩) rfl (by kernel_rfl) (by kernel_rfl) (by kernel_rfl) (fun _ _ _ h => h) (yieldsIf_load_mid (by kernel_rfl) 28 (.tmp 11) rfl (w6.heap.size) 0 rfl [.string aS, .string aH, .int .i64 aP, .bool false] _ HRa.out Tryz.underlying28 rfl sizeO) (by assumption) ?_
     (try simp only [Act.put, List.setIfInBounds_toArray, List.set_cons_zero, List.set_cons_succ])
     refine wpAnyH_ready (rs := [2]) (by kernel_rfl) (by simp) ?_
     refine AllReadyH.cons rfl (fun K9 hK => ?_) AllReadyH.nil
     rw [if_pos (by kernel_rfl)]
     go_simp
     go_wp2_with (go_at_call 36; refine (HM1.out _ HQ0.out).mono ?_; rintro e w11 ⟨rfl, hba⟩)
     have HQ11 := hid (below2 HQ0.out hba)
     clear hba
     refine hK.out _ _ HQ11.out (fun hHeld2 => ?_)
     clear hK K9 hHeld
     rename _ => hHeld
     refine wpAnyH_ready (rs := [5]) (by kernel_rfl) (by simp) ?_
     refine AllReadyH.cons rfl (fun K9 hK => ?_) AllReadyH.nil
     rw [if_pos (by kernel_rfl)]
     go_simp
     go_wp2_with (go_at_call 36; refine (HM2.out _ HQ11.out).mono ?_; rintro e w12 ⟨rfl, hba⟩)
     have HQ12 := hid (below2 HQ11.out hba)
     clear hba
     refine hK.out _ _ HQ12.out (fun hHeld2 => ?_)
     clear hK K9 hHeld
     rename _ => hHeld
     refine' wpAnyH_take (i := 6) (oi := ⟨some 62, _, _, _, _, _⟩) (v := _) rfl (by kernel_rfl) (by kernel_rfl) (by kernel_rfl) (fun _ _ _ h => h) (Or.inl ⟨by kernel_rfl, ?hypa1⟩) (by assumption) ?restpa1
     case hypa1 => (intro wx hSw; (try dsimp only at hSw); obtain ⟨⟨k3⟩⟩ := HK3.out _ hSw; go_simp; first | done | with_reducible rfl)
     (try simp only [Act.put, List.setIfInBounds_toArray, List.set_cons_zero, List.set_cons_succ])
     refine' wpAnyH_take (i := 7) (oi := ⟨some 63, _, _, _, _, _⟩) (v := _) rfl (by kernel_rfl) (by kernel_rfl) (by kernel_rfl) (fun _ _ _ h => h) (Or.inl ⟨by kernel_rfl, ?hypa2⟩) (by assumption) ?restpa2
     case hypa2 => (intro wx hSw; (try dsimp only at hSw); obtain ⟨⟨k3⟩⟩ := HK3.out _ hSw; go_simp; first | done | with_reducible rfl)
     (try simp only [Act.put, List.setIfInBounds_toArray, List.set_cons_zero, List.set_cons_succ])
     refine wpAnyH_take (i := 8) (oi := ⟨some 64, _, _, _, _, _⟩) rfl (by kernel_rfl) (by kernel_rfl) (by kernel_rfl) (fun _ _ _ h => h) (yieldsIf_load_mid (by kernel_rfl) 28 (.tmp 11) rfl (w6.heap.size) 0 rfl [.string aS, .string aH, .int .i64 aP, .bool false] _ HRa.out Tryz.underlying28 rfl sizeO) (by assumption) ?_
     (try simp only [Act.put, List.setIfInBounds_toArray, List.set_cons_zero, List.set_cons_succ])
     refine wpAnyH_take (i := 9) (oi := ⟨some 65, _, _, _, _, _⟩) rfl (by kernel_rfl) (by kernel_rfl) (by kernel_rfl) (fun _ _ _ h => h) (yieldsIf_load_mid (by kernel_rfl) 28 (.tmp 12) rfl (w7.heap.size) 0 rfl [.string bS, .string bH, .int .i64 bP, .bool bQ] _ HRb.out Tryz.underlying28 rfl sizeO) (by assumption) ?_
     (try simp only [Act.put, List.setIfInBounds_toArray, List.set_cons_zero, List.set_cons_succ])
     refine wpAnyH_ready (rs := [10]) (by kernel_rfl) (by simp) ?_
     refine AllReadyH.cons rfl (fun K9 hK => ?_) AllReadyH.nil
     rw [if_pos (by kernel_rfl)]
     go_simp
     go_wp2_with (go_at_call 36; refine (HM1.out _ HQ12.out).mono ?_; rintro e w13 ⟨rfl, hba⟩)
     have HQ13 := hid (below2 HQ12.out hba)
     clear hba
     refine hK.out _ _ HQ13.out (fun hHeld2 => ?_)
     clear hK K9 hHeld
     rename _ => hHeld
     refine' wpAnyH_take (i := 11) (oi := ⟨some 67, _, _, _, _, _⟩) (v := _) rfl (by kernel_rfl) (by kernel_rfl) (by kernel_rfl) (fun _ _ _ h => h) (Or.inl ⟨by kernel_rfl, ?hypa3⟩) (by assumption) ?restpa3
     case hypa3 => (intro wx hSw; (try dsimp only at hSw); obtain ⟨⟨k3⟩⟩ := HK3.out _ hSw; go_simp; first | done | with_reducible rfl)
     (try simp only [Act.put, List.setIfInBounds_toArray, List.set_cons_zero, List.set_cons_succ])
     refine' wpAnyH_take (i := 12) (oi := ⟨some 68, _, _, _, _, _⟩) (v := _) rfl (by kernel_rfl) (by kernel_rfl) (by kernel_rfl) (fun _ _ _ h => h) (Or.inl ⟨by kernel_rfl, ?hypa4⟩) (by assumption) ?restpa4
     case hypa4 => (intro wx hSw; (try dsimp only at hSw); obtain ⟨⟨k3⟩⟩ := HK3.out _ hSw; go_simp; first | done | with_reducible rfl)
     (try simp only [Act.put, List.setIfInBounds_toArray, List.set_cons_zero, List.set_cons_succ])
     refine wpAnyH_take (i := 13) (oi := ⟨some 69, _, _, _, _, _⟩) rfl (by kernel_rfl) (by kernel_rfl) (by kernel_rfl) (fun _ _ _ h => h) (yieldsIf_load_mid (by kernel_rfl) 28 (.tmp 11) rfl (w6.heap.size) 0 rfl [.string aS, .string aH, .int .i64 aP, .bool false] _ HRa.out Tryz.underlying28 rfl sizeO) (by assumption) ?_
     (try simp only [Act.put, List.setIfInBounds_toArray, List.set_cons_zero, List.set_cons_succ])
     refine wpAnyH_take (i := 14) (oi := ⟨some 70, _, _, _, _, _⟩) rfl (by kernel_rfl) (by kernel_rfl) (by kernel_rfl) (fun _ _ _ h => h) (yieldsIf_load_mid (by kernel_rfl) 28 (.tmp 12) rfl (w7.heap.size) 0 rfl [.string bS, .string bH, .int .i64 bP, .bool bQ] _ HRb.out Tryz.underlying28 rfl sizeO) (by assumption) ?_
     (try simp only [Act.put, List.setIfInBounds_toArray, List.set_cons_zero, List.set_cons_succ])
     refine wpAnyH_ready (rs := [15]) (by kernel_rfl) (by simp) ?_
     refine AllReadyH.cons rfl (fun K9 hK => ?_) AllReadyH.nil
     rw [if_pos (by kernel_rfl)]
     go_simp
     go_wp2_with (go_at_call 37; refine (HN1.out _ HQ13.out).mono ?_; rintro e w14 ⟨rfl, hba⟩)
     have HQ14 := hid (below2 HQ13.out hba)
     clear hba
     refine hK.out _ _ HQ14.out (fun hHeld2 => ?_)
     clear hK K9 hHeld
     rename _ => hHeld
     refine' wpAnyH_take (i := 16) (oi := ⟨some 72, _, _, _, _, _⟩) (v := _) rfl (by kernel_rfl) (by kernel_rfl) (by kernel_rfl) (fun _ _ _ h => h) (Or.inl ⟨by kernel_rfl, ?hypa5⟩) (by assumption) ?restpa5
     case hypa5 => (intro wx hSw; (try dsimp only at hSw); obtain ⟨⟨k3⟩⟩ := HK3.out _ hSw; go_simp; first | done | with_reducible rfl)
     (try simp only [Act.put, List.setIfInBounds_toArray, List.set_cons_zero, List.set_cons_succ])
     refine' wpAnyH_take (i := 17) (oi := ⟨some 73, _, _, _, _, _⟩) (v := _) rfl (by kernel_rfl) (by kernel_rfl) (by kernel_rfl) (fun _ _ _ h => h) (Or.inl ⟨by kernel_rfl, ?hypa6⟩) (by assumption) ?restpa6
     case hypa6 => (intro wx hSw; (try dsimp only at hSw); obtain ⟨⟨k3⟩⟩ := HK3.out _ hSw; go_simp; first | done | with_reducible rfl)
     (try simp only [Act.put, List.setIfInBounds_toArray, List.set_cons_zero, List.set_cons_succ])
     refine' wpAnyH_take (i := 18) (oi := ⟨some 74, _, _, _, _, _⟩) (v := _) rfl (by kernel_rfl) (by kernel_rfl) (by kernel_rfl) (fun _ _ _ h => h) (Or.inl ⟨by kernel_rfl, ?hypa7⟩) (by assumption) ?restpa7
     case hypa7 => (intro wx hSw; (try dsimp only at hSw); obtain ⟨⟨k3⟩⟩ := HK3.out _ hSw; go_simp; first | done | with_reducible rfl)
     (try simp only [Act.put, List.setIfInBounds_toArray, List.set_cons_zero, List.set_cons_succ])
     refine wpAnyH_take (i := 19) (oi := ⟨some 75, _, _, _, _, _⟩) rfl (by kernel_rfl) (by kernel_rfl) (by kernel_rfl) (fun _ _ _ h => h) (yieldsIf_load_mid (by kernel_rfl) 28 (.tmp 11) rfl (w6.heap.size) 0 rfl [.string aS, .string aH, .int .i64 aP, .bool false] _ HRa.out Tryz.underlying28 rfl sizeO) (by assumption) ?_
     (try simp only [Act.put, List.setIfInBounds_toArray, List.set_cons_zero, List.set_cons_succ])
     refine wpAnyH_take (i := 20) (oi := ⟨some 76, _, _, _, _, _⟩) rfl (by kernel_rfl) (by kernel_rfl) (by kernel_rfl) (fun _ _ _ h => h) (yieldsIf_load_mid (by kernel_rfl) 28 (.tmp 12) rfl (w7.heap.size) 0 rfl [.string bS, .string bH, .int .i64 bP, .bool bQ] _ HRb.out Tryz.underlying28 rfl sizeO) (by assumption) ?_
     (try simp only [Act.put, List.setIfInBounds_toArray, List.set_cons_zero, List.set_cons_succ])
     refine wpAnyH_take (i := 22) (oi := ⟨some 78, _, _, _, _, _⟩) rfl (by kernel_rfl) (by kernel_rfl) (by kernel_rfl) (fun _ _ _ h => h) (yieldsIf_load_mid (by kernel_rfl) 28 (.tmp 12) rfl (w7.heap.size) 0 rfl [.string bS, .string bH, .int .i64 bP, .bool bQ] _ HRb.out Tryz.underlying28 rfl sizeO) (by assumption) ?_
     (try simp only [Act.put, List.setIfInBounds_toArray, List.set_cons_zero, List.set_cons_succ])
     refine wpAnyH_take (i := 23) (oi := ⟨some 79, _, _, _, _, _⟩) rfl (by kernel_rfl) (by kernel_rfl) (by kernel_rfl) (fun _ _ _ h => h) (yieldsIf_load_mid (by kernel_rfl) 28 (.tmp 11) rfl (w6.heap.size) 0 rfl [.string aS, .string aH, .int .i64 aP, .bool false] _ HRa.out Tryz.underlying28 rfl sizeO) (by assumption) ?_
     (try simp only [Act.put, List.setIfInBounds_toArray, List.set_cons_zero, List.set_cons_succ])
     refine wpAnyH_ready (rs := [21]) (by kernel_rfl) (by simp) ?_
     refine AllReadyH.cons rfl (fun K9 hK => ?_) AllReadyH.nil
     rw [if_pos (by kernel_rfl)]
     go_simp
     go_wp2_with (go_at_call 37; refine (HN1.out _ HQ14.out).mono ?_; rintro e w15 ⟨rfl, hba⟩)
     have HQ15 := hid (below2 HQ14.out hba)
     clear hba
     refine hK.out _ _ HQ15.out (fun hHeld2 => ?_)
     clear hK K9 hHeld
     rename _ => hHeld
     refine wpAnyH_ready (rs := [24]) (by kernel_rfl) (by simp) ?_
     refine AllReadyH.cons rfl (fun K9 hK => ?_) AllReadyH.nil
     rw [if_pos (by kernel_rfl)]
     go_simp
     go_wp2_with (go_at_call 37; refine (HN2.out _ HQ15.out).mono ?_; rintro e w16 ⟨rfl, hba⟩)
     have HQ16 := hid (below2 HQ15.out hba)
     clear hba
     refine hK.out _ _ HQ16.out (fun hHeld2 => ?_)
     clear hK K9 hHeld
     rename _ => hHeld
     refine' wpAnyH_take (i := 25) (oi := ⟨some 81, _, _, _, _, _⟩) (v := _) rfl (by kernel_rfl) (by kernel_rfl) (by kernel_rfl) (fun _ _ _ h => h) (Or.inl ⟨by kernel_rfl, ?hypa8⟩) (by assumption) ?restpa8
     case hypa8 => (intro wx hSw; (try dsimp only at hSw); obtain ⟨⟨k3⟩⟩ := HK3.out _ hSw; go_simp; first | done | with_reducible rfl)
     (try simp only [Act.put, List.setIfInBounds_toArray, List.set_cons_zero, List.set_cons_succ])
     refine' wpAnyH_take (i := 26) (oi := ⟨some 82, _, _, _, _, _⟩) (v := _) rfl (by kernel_rfl) (by kernel_rfl) (by kernel_rfl) (fun _ _ _ h => h) (Or.inl ⟨by kernel_rfl, ?hypa9⟩) (by assumption) ?restpa9
     case hypa9 => (intro wx hSw; (try dsimp only at hSw); obtain ⟨⟨k3⟩⟩ := HK3.out _ hSw; go_simp; first | done | with_reducible rfl)
     (try simp only [Act.put, List.setIfInBounds_toArray, List.set_cons_zero, List.set_cons_succ])
     refine' wpAnyH_take (i := 27) (oi := ⟨some 83, _, _, _, _, _⟩) (v := _) rfl (by kernel_rfl) (by kernel_rfl) (by kernel_rfl) (fun _ _ _ h => h) (Or.inl ⟨by kernel_rfl, ?hypa10⟩) (by assumption) ?restpa10
     case hypa10 => (intro wx hSw; (try dsimp only at hSw); obtain ⟨⟨k3⟩⟩ := HK3.out _ hSw; go_simp; first | done | with_reducible rfl)
     (try simp only [Act.put, List.setIfInBounds_toArray, List.set_cons_zero, List.set_cons_succ])
     refine wpAnyH_take (i := 28) (oi := ⟨some 84, _, _, _, _, _⟩) rfl (by kernel_rfl) (by kernel_rfl) (by kernel_rfl) (fun _ _ _ h => h) (yieldsIf_load_mid (by kernel_rfl) 28 (.tmp 11) rfl (w6.heap.size) 0 rfl [.string aS, .string aH, .int .i64 aP, .bool false] _ HRa.out Tryz.underlying28 rfl sizeO) (by assumption) ?_
     (try simp only [Act.put, List.setIfInBounds_toArray, List.set_cons_zero, List.set_cons_succ])
     refine wpAnyH_take (i := 29) (oi := ⟨some 85, _, _, _, _, _⟩) rfl (by kernel_rfl) (by kernel_rfl) (by kernel_rfl) (fun _ _ _ h => h) (yieldsIf_load_mid (by kernel_rfl) 28 (.tmp 11) rfl (w6.heap.size) 0 rfl [.string aS, .string aH, .int .i64 aP, .bool false] _ HRa.out Tryz.underlying28 rfl sizeO) (by assumption) ?_
     (try simp only [Act.put, List.setIfInBounds_toArray, List.set_cons_zero, List.set_cons_succ])
     refine wpAnyH_ready (rs := [30]) (by kernel_rfl) (by simp) ?_
     refine AllReadyH.cons rfl (fun K9 hK => ?_) AllReadyH.nil
     rw [if_pos (by kernel_rfl)]
     go_simp
     go_wp2_with (go_at_call 36; refine (HM3.out _ HQ16.out).mono ?_; rintro e w17 ⟨rfl, hba⟩)
     have HQ17 := hid (below2 HQ16.out hba)
     clear hba
     refine hK.out _ _ HQ17.out (fun hHeld2 => ?_)
     clear hK K9 hHeld
     rename _ => hHeld
     refine' wpAnyH_take (i := 31) (oi := ⟨some 87, _, _, _, _, _⟩) (v := _) rfl (by kernel_rfl) (by kernel_rfl) (by kernel_rfl) (fun _ _ _ h => h) (Or.inl ⟨by kernel_rfl, ?hypa11⟩) (by assumption) ?restpa11
     case hypa11 => (intro wx hSw; (try dsimp only at hSw); obtain ⟨⟨k3⟩⟩ := HK3.out _ hSw; go_simp; first | done | with_reducible rfl)
     (try simp only [Act.put, List.setIfInBounds_toArray, List.set_cons_zero, List.set_cons_succ])
     refine wpAnyH_take (i := 32) (oi := ⟨some 88, _, _, _, _, _⟩) (v := undef) rfl (by kernel_rfl) (by kernel_rfl) (by kernel_rfl) (fun _ _ _ h => h) (Or.inr ⟨by kernel_rfl, by kernel_rfl⟩) (by assumption) ?_
     (try simp only [Act.put, List.setIfInBounds_toArray, List.set_cons_zero, List.set_cons_succ])
     refine wpAnyH_take (i := 33) (oi := ⟨some 89, _, _, _, _, _⟩) (v := undef) rfl (by kernel_rfl) (by kernel_rfl) (by kernel_rfl) (fun _ _ _ h => h) (Or.inr ⟨by kernel_rfl, by kernel_rfl⟩) (by assumption) ?_
     (try simp only [Act.put, List.setIfInBounds_toArray, List.set_cons_zero, List.set_cons_succ])
     refine' wpAnyH_take (i := 34) (oi := ⟨some 90, _, _, _, _, _⟩) (v := _) rfl (by kernel_rfl) (by kernel_rfl) (by kernel_rfl) (fun _ _ _ h => h) (Or.inl ⟨by kernel_rfl, ?hypa12⟩) (by assumption) ?restpa12
     case hypa12 => (intro wx hSw; (try dsimp only at hSw); obtain ⟨⟨k3⟩⟩ := HK3.out _ hSw; go_simp; first | done | with_reducible rfl)
     (try simp only [Act.put, List.setIfInBounds_toArray, List.set_cons_zero, List.set_cons_succ])
     refine' wpAnyH_take (i := 35) (oi := ⟨some 91, _, _, _, _, _⟩) (v := _) rfl (by kernel_rfl) (by kernel_rfl) (by kernel_rfl) (fun _ _ _ h => h) (Or.inl ⟨by kernel_rfl, ?hypa13⟩) (by assumption) ?restpa13
     case hypa13 => (intro wx hSw; (try dsimp only at hSw); obtain ⟨⟨k3⟩⟩ := HK3.out _ hSw; go_simp; first | done | with_reducible rfl)
     (try simp only [Act.put, List.setIfInBounds_toArray, List.set_cons_zero, List.set_cons_succ])
     refine' wpAnyH_take (i := 36) (oi := ⟨some 92, _, _, _, _, _⟩) (v := _) rfl (by kernel_rfl) (by kernel_rfl) (by kernel_rfl) (fun _ _ _ h => h) (Or.inl ⟨by kernel_rfl, ?hypa14⟩) (by assumption) ?restpa14
     case hypa14 => (intro wx hSw; (try dsimp only at hSw); obtain ⟨⟨k3⟩⟩ := HK3.out _ hSw; go_simp; first | done | with_reducible rfl)
     (try simp only [Act.put, List.setIfInBounds_toArray, List.set_cons_zero, List.set_cons_succ])
     refine wpAnyH_ready (rs := [37]) (by kernel_rfl) (by simp) ?_
     refine AllReadyH.cons rfl (fun K9 hK => ?_) AllReadyH.nil
     rw [if_pos (by kernel_rfl)]
     go_simp
     go_wp2_with (go_at_call 33; refine (HKn.out _ HQ17.out).mono ?_; rintro e w18 ⟨rfl, hba⟩)
     have HQ18 := hid (below2 HQ17.out hba)
     clear hba
     refine hK.out _ _ HQ18.out (fun hHeld2 => ?_)
     clear hK K9 hHeld
     rename _ => hHeld
     refine' wpAnyH_take (i := 38) (oi := ⟨some 94, _, _, _, _, _⟩) (v := _) rfl (by kernel_rfl) (by kernel_rfl) (by kernel_rfl) (fun _ _ _ h => h) (Or.inl ⟨by kernel_rfl, ?hypa15⟩) (by assumption) ?restpa15
     case hypa15 => (intro wx hSw; (try dsimp only at hSw); obtain ⟨⟨k3⟩⟩ := HK3.out _ hSw; go_simp; first | done | with_reducible rfl)
     (try simp only [Act.put, List.setIfInBounds_toArray, List.set_cons_zero, List.set_cons_succ])
     refine' wpAnyH_take (i := 39) (oi := ⟨some 6, _, _, _, _, _⟩) (v := _) rfl (by kernel_rfl) (by kernel_rfl) (by kernel_rfl) (fun _ _ _ h => h) (Or.inl ⟨by kernel_rfl, ?hypa16⟩) (by assumption) ?restpa16
     case hypa16 => (intro wx hSw; (try dsimp only at hSw); obtain ⟨⟨k3⟩⟩ := HK3.out _ hSw; go_simp; first | done | with_reducible rfl)
     (try simp only [Act.put, List.setIfInBounds_toArray, List.set_cons_zero, List.set_cons_succ])
     refine wpAnyH_done (by kernel_rfl) ?_ _
     go_wp2
     go_ret
     exact ⟨rfl, below2 HB8.out HQ18.out⟩
    | false =>
     cases aQ with
     | true =>
      go_upto_region 14 with fail
      refine wp_region_held_drew (S := (fun wx => Below W8.heap.size W8 wx)) (by kernel_rfl) HQ0.out (fun hHeld => ?_)
      refine wpAnyH_to (fuel' := 40) (listed' := #[false, false, false, false, false, false, false, false, false, false, false, false, false, false, false, false, false, false, false, false, false, false, false, false, false, false, false, false, false, false, false, false, false, false, false, false, false, false, false, false]) rfl rfl ?_
      refine wpAnyH_take (i := 0) (oi := ⟨some 56, _, _, _, _, _⟩) rfl (by kernel_rfl) (by kernel_rfl) (by kernel_rfl) (fun _ _ _ h => h) (yieldsIf_load_mid (by kernel_rfl) 28 (.tmp 11) rfl (w6.heap.size) 0 rfl [.string aS, .string aH, .int .i64 aP, .bool true] _ HRa.out Tryz.underlying28 rfl sizeO) (by assumption) ?_
      (try simp only [Act.put, List.setIfInBounds_toArray, List.set_cons_zero, List.set_cons_succ])
      refine wpAnyH_take (i := 1) (oi := ⟨some 57, _, _, _, _, _⟩) rfl (by kernel_rfl) (by kernel_rfl) (by kernel_rfl) (fun _ _ _ h => h) (yieldsIf_load_mid (by kernel_rfl) 28 (.tmp 12) rfl (w7.heap.size) 0 rfl [.string bS, .string bH, .int .i64 bP, .bool bQ] _ HRb.out Tryz.underlying28 rfl sizeO) (by assumption) ?_
      (try simp only [Act.put, List.setIfInBounds_toArray, List.set_cons_zero, List.set_cons_succ])
      refine wpAnyH_take (i := 3) (oi := ⟨some 59, _, _, _, _, _⟩) rfl (by kernel_rfl) (by kernel_rfl) (by kernel_rfl) (fun _ _ _ h => h) (yieldsIf_load_mid (by kernel_rfl) 28 (.tmp 12) rfl (w7.heap.size) 0 rfl [.string bS, .string bH, .int .i64 bP, .bool bQ] _ HRb.out Tryz.underlying28 rfl sizeO) (by assumption) ?_
      (try simp only [Act.put, List.setIfInBounds_toArray, List.set_cons_zero, List.set_cons_succ])
      refine wpAnyH_take (i := 4) (oi := ⟨some 60, _, _, _, _, _⟩) rfl (by kernel_rfl) (by kernel_rfl) (by kernel_rfl) (fun _ _ _ h => h) (yieldsIf_load_mid (by kernel_rfl) 28 (.tmp 11) rfl (w6.heap.size) 0 rfl [.string aS, .string aH, .int .i64 aP, .bool true] _ HRa.out Tryz.underlying28 rfl sizeO) (by assumption) ?_
      (try simp only [Act.put, List.setIfInBounds_toArray, List.set_cons_zero, List.set_cons_succ])
      refine wpAnyH_ready (rs := [2]) (by kernel_rfl) (by simp) ?_
      refine AllReadyH.cons rfl (fun K9 hK => ?_) AllReadyH.nil
      rw [if_pos (by kernel_rfl)]
      go_simp
      go_wp2_with (go_at_call 36; refine (HM1.out _ HQ0.out).mono ?_; rintro e w11 ⟨rfl, hba⟩)
      have HQ11 := hid (below2 HQ0.out hba)
      clear hba
      refine hK.out _ _ HQ11.out (fun hHeld2 => ?_)
      clear hK K9 hHeld
      rename _ => hHeld
      refine wpAnyH_ready (rs := [5]) (by kernel_rfl) (by simp) ?_
      refine AllReadyH.cons rfl (fun K9 hK => ?_) AllReadyH.nil
      rw [if_pos (by kernel_rfl)]
      go_simp
      go_wp2_with (go_at_call 36; refine (HM2.out _ HQ11.out).mono ?_; rintro e w12 ⟨rfl, hba⟩)
      have HQ12 := hid (below2 HQ11.out hba)
      clear hba
      refine hK.out _ _ HQ12.out (fun hHeld2 => ?_)
      clear hK K9 hHeld
      rename _ => hHeld
      refine' wpAnyH_take (i := 6) (oi := ⟨some 62, _, _, _, _, _⟩) (v := _) rfl (by kernel_rfl) (by kernel_rfl) (by kernel_rfl) (fun _ _ _ h => h) (Or.inl ⟨by kernel_rfl, ?hypb1⟩) (by assumption) ?restpb1
      case hypb1 => (intro wx hSw; (try dsimp only at hSw); obtain ⟨⟨k3⟩⟩ := HK3.out _ hSw; go_simp; first | done | with_reducible rfl)
      (try simp only [Act.put, List.setIfInBounds_toArray, List.set_cons_zero, List.set_cons_succ])
      refine' wpAnyH_take (i := 7) (oi := ⟨some 63, _, _, _, _, _⟩) (v := _) rfl (by kernel_rfl) (by kernel_rfl) (by kernel_rfl) (fun _ _ _ h => h) (Or.inl ⟨by kernel_rfl, ?hypb2⟩) (by assumption) ?restpb2
      case hypb2 => (intro wx hSw; (try dsimp only at hSw); obtain ⟨⟨k3⟩⟩ := HK3.out _ hSw; go_simp; first | done | with_reducible rfl)
      (try simp only [Act.put, List.setIfInBounds_toArray, List.set_cons_zero, List.set_cons_succ])
      refine wpAnyH_take (i := 8) (oi := ⟨some 64, _, _, _, _, _⟩) rfl (by kernel_rfl) (by kernel_rfl) (by kernel_rfl) (fun _ _ _ h => h) (yieldsIf_load_mid (by kernel_rfl) 28 (.tmp 11) rfl (w6.heap.size) 0 rfl [.string aS, .string aH, .int .i64 aP, .bool true] _ HRa.out Tryz.underlying28 rfl sizeO) (by assumption) ?_
      (try simp only [Act.put, List.setIfInBounds_toArray, List.set_cons_zero, List.set_cons_succ])
      refine wpAnyH_take (i := 9) (oi := ⟨some 65, _, _, _, _, _⟩) rfl (by kernel_rfl) (by kernel_rfl) (by kernel_rfl) (fun _ _ _ h => h) (yieldsIf_load_mid (by kernel_rfl) 28 (.tmp 12) rfl (w7.heap.size) 0 rfl [.string bS, .string bH, .int .i64 bP, .bool bQ] _ HRb.out Tryz.underlying28 rfl sizeO) (by assumption) ?_
      (try simp only [Act.put, List.setIfInBounds_toArray, List.set_cons_zero, List.set_cons_succ])
      refine wpAnyH_ready (rs := [10]) (by kernel_rfl) (by simp) ?_
      refine AllReadyH.cons rfl (fun K9 hK => ?_) AllReadyH.nil
      rw [if_pos (by kernel_rfl)]
      go_simp
      go_wp2_with (go_at_call 36; refine (HM1.out _ HQ12.out).mono ?_; rintro e w13 ⟨rfl, hba⟩)
      have HQ13 := hid (below2 HQ12.out hba)
      clear hba
      refine hK.out _ _ HQ13.out (fun hHeld2 => ?_)
      clear hK K9 hHeld
      rename _ => hHeld
      refine' wpAnyH_take (i := 11) (oi := ⟨some 67, _, _, _, _, _⟩) (v := _) rfl (by kernel_rfl) (by kernel_rfl) (by kernel_rfl) (fun _ _ _ h => h) (Or.inl ⟨by kernel_rfl, ?hypb3⟩) (by assumption) ?restpb3
      case hypb3 => (intro wx hSw; (try dsimp only at hSw); obtain ⟨⟨k3⟩⟩ := HK3.out _ hSw; go_simp; first | done | with_reducible rfl)
      (try simp only [Act.put, List.setIfInBounds_toArray, List.set_cons_zero, List.set_cons_succ])
      refine' wpAnyH_take (i := 12) (oi := ⟨some 68, _, _, _, _, _⟩) (v := _) rfl (by kernel_rfl) (by kernel_rfl) (by kernel_rfl) (fun _ _ _ h => h) (Or.inl ⟨by kernel_rfl, ?hypb4⟩) (by assumption) ?restpb4
      case hypb4 => (intro wx hSw; (try dsimp only at hSw); obtain ⟨⟨k3⟩⟩ := HK3.out _ hSw; go_simp; first | done | with_reducible rfl)
      (try simp only [Act.put, List.setIfInBounds_toArray, List.set_cons_zero, List.set_cons_succ])
      refine wpAnyH_take (i := 13) (oi := ⟨some 69, _, _, _, _, _⟩) (v := undef) rfl (by kernel_rfl) (by kernel_rfl) (by kernel_rfl) (fun _ _ _ h => h) (Or.inr ⟨by kernel_rfl, by kernel_rfl⟩) (by assumption) ?_
      (try simp only [Act.put, List.setIfInBounds_toArray, List.set_cons_zero, List.set_cons_succ])
      refine wpAnyH_take (i := 14) (oi := ⟨some 70, _, _, _, _, _⟩) (v := undef) rfl (by kernel_rfl) (by kernel_rfl) (by kernel_rfl) (fun _ _ _ h => h) (Or.inr ⟨by kernel_rfl, by kernel_rfl⟩) (by assumption) ?_
      (try simp only [Act.put, List.setIfInBounds_toArray, List.set_cons_zero, List.set_cons_succ])
      refine wpAnyH_take (i := 15) (oi := ⟨some 71, _, _, _, _, _⟩) (v := undef) rfl (by kernel_rfl) (by kernel_rfl) (by kernel_rfl) (fun _ _ _ h => h) (Or.inr ⟨by kernel_rfl, by kernel_rfl⟩) (by assumption) ?_
      (try simp only [Act.put, List.setIfInBounds_toArray, List.set_cons_zero, List.set_cons_succ])
      refine' wpAnyH_take (i := 16) (oi := ⟨some 72, _, _, _, _, _⟩) (v := _) rfl (by kernel_rfl) (by kernel_rfl) (by kernel_rfl) (fun _ _ _ h => h) (Or.inl ⟨by kernel_rfl, ?hypb5⟩) (by assumption) ?restpb5
      case hypb5 => (intro wx hSw; (try dsimp only at hSw); obtain ⟨⟨k3⟩⟩ := HK3.out _ hSw; go_simp; first | done | with_reducible rfl)
      (try simp only [Act.put, List.setIfInBounds_toArray, List.set_cons_zero, List.set_cons_succ])
      refine' wpAnyH_take (i := 17) (oi := ⟨some 73, _, _, _, _, _⟩) (v := _) rfl (by kernel_rfl) (by kernel_rfl) (by kernel_rfl) (fun _ _ _ h => h) (Or.inl ⟨by kernel_rfl, ?hypb6⟩) (by assumption) ?restpb6
      case hypb6 => (intro wx hSw; (try dsimp only at hSw); obtain ⟨⟨k3⟩⟩ := HK3.out _ hSw; go_simp; first | done | with_reducible rfl)
      (try simp only [Act.put, List.setIfInBounds_toArray, List.set_cons_zero, List.set_cons_succ])
      refine' wpAnyH_take (i := 18) (oi := ⟨some 74, _, _, _, _, _⟩) (v := _) rfl (by kernel_rfl) (by kernel_rfl) (by kernel_rfl) (fun _ _ _ h => h) (Or.inl ⟨by kernel_rfl, ?hypb7⟩) (by assumption) ?restpb7
      case hypb7 => (intro wx hSw; (try dsimp only at hSw); obtain ⟨⟨k3⟩⟩ := HK3.out _ hSw; go_simp; first | done | with_reducible rfl)
      (try simp only [Act.put, List.setIfInBounds_toArray, List.set_cons_zero, List.set_cons_succ])
      refine wpAnyH_take (i := 19) (oi := ⟨some 75, _, _, _, _, _⟩) rfl (by kernel_rfl) (by kernel_rfl) (by kernel_rfl) (fun _ _ _ h => h) (yieldsIf_load_mid (by kernel_rfl) 28 (.tmp 11) rfl (w6.heap.size) 0 rfl [.string aS, .string aH, .int .i64 aP, .bool true] _ HRa.out Tryz.underlying28 rfl sizeO) (by assumption) ?_
      (try simp only [Act.put, List.setIfInBounds_toArray, List.set_cons_zero, List.set_cons_succ])
      refine wpAnyH_take (i := 20) (oi := ⟨some 76, _, _, _, _, _⟩) rfl (by kernel_rfl) (by kernel_rfl) (by kernel_rfl) (fun _ _ _ h => h) (yieldsIf_load_mid (by kernel_rfl) 28 (.tmp 12) rfl (w7.heap.size) 0 rfl [.string bS, .string bH, .int .i64 bP, .bool bQ] _ HRb.out Tryz.underlying28 rfl sizeO) (by assumption) ?_
      (try simp only [Act.put, List.setIfInBounds_toArray, List.set_cons_zero, List.set_cons_succ])
      refine wpAnyH_take (i := 22) (oi := ⟨some 78, _, _, _, _, _⟩) rfl (by kernel_rfl) (by kernel_rfl) (by kernel_rfl) (fun _ _ _ h => h) (yieldsIf_load_mid (by kernel_rfl) 28 (.tmp 12) rfl (w7.heap.size) 0 rfl [.string bS, .string bH, .int .i64 bP, .bool bQ] _ HRb.out Tryz.underlying28 rfl sizeO) (by assumption) ?_
      (try simp only [Act.put, List.setIfInBounds_toArray, List.set_cons_zero, List.set_cons_succ])
      refine wpAnyH_take (i := 23) (oi := ⟨some 79, _, _, _, _, _⟩) rfl (by kernel_rfl) (by kernel_rfl) (by kernel_rfl) (fun _ _ _ h => h) (yieldsIf_load_mid (by kernel_rfl) 28 (.tmp 11) rfl (w6.heap.size) 0 rfl [.string aS, .string aH, .int .i64 aP, .bool true] _ HRa.out Tryz.underlying28 rfl sizeO) (by assumption) ?_
      (try simp only [Act.put, List.setIfInBounds_toArray, List.set_cons_zero, List.set_cons_succ])
      refine wpAnyH_ready (rs := [21]) (by kernel_rfl) (by simp) ?_
      refine AllReadyH.cons rfl (fun K9 hK => ?_) AllReadyH.nil
      rw [if_pos (by kernel_rfl)]
      go_simp
      go_wp2_with (go_at_call 37; refine (HN1.out _ HQ13.out).mono ?_; rintro e w15 ⟨rfl, hba⟩)
      have HQ15 := hid (below2 HQ13.out hba)
      clear hba
      refine hK.out _ _ HQ15.out (fun hHeld2 => ?_)
      clear hK K9 hHeld
      rename _ => hHeld
      refine wpAnyH_ready (rs := [24]) (by kernel_rfl) (by simp) ?_
      refine AllReadyH.cons rfl (fun K9 hK => ?_) AllReadyH.nil
      rw [if_pos (by kernel_rfl)]
      go_simp
      go_wp2_with (go_at_call 37; refine (HN2.out _ HQ15.out).mono ?_; rintro e w16 ⟨rfl, hba⟩)
      have HQ16 := hid (below2 HQ15.out hba)
      clear hba
      refine hK.out _ _ HQ16.out (fun hHeld2 => ?_)
      clear hK K9 hHeld
      rename _ => hHeld
      refine' wpAnyH_take (i := 25) (oi := ⟨some 81, _, _, _, _, _⟩) (v := _) rfl (by kernel_rfl) (by kernel_rfl) (by kernel_rfl) (fun _ _ _ h => h) (Or.inl ⟨by kernel_rfl, ?hypb8⟩) (by assumption) ?restpb8
      case hypb8 => (intro wx hSw; (try dsimp only at hSw); obtain ⟨⟨k3⟩⟩ := HK3.out _ hSw; go_simp; first | done | with_reducible rfl)
      (try simp only [Act.put, List.setIfInBounds_toArray, List.set_cons_zero, List.set_cons_succ])
      refine' wpAnyH_take (i := 26) (oi := ⟨some 82, _, _, _, _, _⟩) (v := _) rfl (by kernel_rfl) (by kernel_rfl) (by kernel_rfl) (fun _ _ _ h => h) (Or.inl ⟨by kernel_rfl, ?hypb9⟩) (by assumption) ?restpb9
      case hypb9 => (intro wx hSw; (try dsimp only at hSw); obtain ⟨⟨k3⟩⟩ := HK3.out _ hSw; go_simp; first | done | with_reducible rfl)
      (try simp only [Act.put, List.setIfInBounds_toArray, List.set_cons_zero, List.set_cons_succ])
      refine' wpAnyH_take (i := 27) (oi := ⟨some 83, _, _, _, _, _⟩) (v := _) rfl (by kernel_rfl) (by kernel_rfl) (by kernel_rfl) (fun _ _ _ h => h) (Or.inl ⟨by kernel_rfl, ?hypb10⟩) (by assumption) ?restpb10
      case hypb10 => (intro wx hSw; (try dsimp only at hSw); obtain ⟨⟨k3⟩⟩ := HK3.out _ hSw; go_simp; first | done | with_reducible rfl)
      (try simp only [Act.put, List.setIfInBounds_toArray, List.set_cons_zero, List.set_cons_succ])
      refine wpAnyH_take (i := 28) (oi := ⟨some 84, _, _, _, _, _⟩) rfl (by kernel_rfl) (by kernel_rfl) (by kernel_rfl) (fun _ _ _ h => h) (yieldsIf_load_mid (by kernel_rfl) 28 (.tmp 11) rfl (w6.heap.size) 0 rfl [.string aS, .string aH, .int .i64 aP, .bool true] _ HRa.out Tryz.underlying28 rfl sizeO) (by assumption) ?_
      (try simp only [Act.put, List.setIfInBounds_toArray, List.set_cons_zero, List.set_cons_succ])
      refine wpAnyH_take (i := 29) (oi := ⟨some 85, _, _, _, _, _⟩) rfl (by kernel_rfl) (by kernel_rfl) (by kernel_rfl) (fun _ _ _ h => h) (yieldsIf_load_mid (by kernel_rfl) 28 (.tmp 11) rfl (w6.heap.size) 0 rfl [.string aS, .string aH, .int .i64 aP, .bool true] _ HRa.out Tryz.underlying28 rfl sizeO) (by assumption) ?_
      (try simp only [Act.put, List.setIfInBounds_toArray, List.set_cons_zero, List.set_cons_succ])
      refine wpAnyH_ready (rs := [30]) (by kernel_rfl) (by simp) ?_
      refine AllReadyH.cons rfl (fun K9 hK => ?_) AllReadyH.nil
      rw [if_pos (by kernel_rfl)]
      go_simp
      go_wp2_with (go_at_call 36; refine (HM3.out _ HQ16.out).mono ?_; rintro e w17 ⟨rfl, hba⟩)
      have HQ17 := hid (below2 HQ16.out hba)
      clear hba
      refine hK.out _ _ HQ17.out (fun hHeld2 => ?_)
      clear hK K9 hHeld
      rename _ => hHeld
      refine' wpAnyH_take (i := 31) (oi := ⟨some 87, _, _, _, _, _⟩) (v := _) rfl (by kernel_rfl) (by kernel_rfl) (by kernel_rfl) (fun _ _ _ h => h) (Or.inl ⟨by kernel_rfl, ?hypb11⟩) (by assumption) ?restpb11
      case hypb11 => (intro wx hSw; (try dsimp only at hSw); obtain ⟨⟨k3⟩⟩ := HK3.out _ hSw; go_simp; first | done | with_reducible rfl)
      (try simp only [Act.put, List.setIfInBounds_toArray, List.set_cons_zero, List.set_cons_succ])
      refine' wpAnyH_take (i := 32) (oi := ⟨some 88, _, _, _, _, _⟩) (v := _) rfl (by kernel_rfl) (by kernel_rfl) (by kernel_rfl) (fun _ _ _ h => h) (Or.inl ⟨by kernel_rfl, ?hypb12⟩) (by assumption) ?restpb12
      case hypb12 => (intro wx hSw; (try dsimp only at hSw); obtain ⟨⟨k3⟩⟩ := HK3.out _ hSw; go_simp; first | done | with_reducible rfl)
      (try simp only [Act.put, List.setIfInBounds_toArray, List.set_cons_zero, List.set_cons_succ])
      refine' wpAnyH_take (i := 33) (oi := ⟨some 89, _, _, _, _, _⟩) (v := _) rfl (by kernel_rfl) (by kernel_rfl) (by kernel_rfl) (fun _ _ _ h => h) (Or.inl ⟨by kernel_rfl, ?hypb13⟩) (by assumption) ?restpb13
      case hypb13 => (intro wx hSw; (try dsimp only at hSw); obtain ⟨⟨k3⟩⟩ := HK3.out _ hSw; go_simp; first | done | with_reducible rfl)
      (try simp only [Act.put, List.setIfInBounds_toArray, List.set_cons_zero, List.set_cons_succ])
      refine' wpAnyH_take (i := 34) (oi := ⟨some 90, _, _, _, _, _⟩) (v := _) rfl (by kernel_rfl) (by kernel_rfl) (by kernel_rfl) (fun _ _ _ h => h) (Or.inl ⟨by kernel_rfl, ?hypb14⟩) (by assumption) ?restpb14
      case hypb14 => (intro wx hSw; (try dsimp only at hSw); obtain ⟨⟨k3⟩⟩ := HK3.out _ hSw; go_simp; first | done | with_reducible rfl)
      (try simp only [Act.put, List.setIfInBounds_toArray, List.set_cons_zero, List.set_cons_succ])
      refine' wpAnyH_take (i := 35) (oi := ⟨some 91, _, _, _, _, _⟩) (v := _) rfl (by kernel_rfl) (by kernel_rfl) (by kernel_rfl) (fun _ _ _ h => h) (Or.inl ⟨by kernel_rfl, ?hypb15⟩) (by assumption) ?restpb15
      case hypb15 => (intro wx hSw; (try dsimp only at hSw); obtain ⟨⟨k3⟩⟩ := HK3.out _ hSw; go_simp; first | done | with_reducible rfl)
      (try simp only [Act.put, List.setIfInBounds_toArray, List.set_cons_zero, List.set_cons_succ])
      refine' wpAnyH_take (i := 36) (oi := ⟨some 92, _, _, _, _, _⟩) (v := _) rfl (by kernel_rfl) (by kernel_rfl) (by kernel_rfl) (fun _ _ _ h => h) (Or.inl ⟨by kernel_rfl, ?hypb16⟩) (by assumption) ?restpb16
      case hypb16 => (intro wx hSw; (try dsimp only at hSw); obtain ⟨⟨k3⟩⟩ := HK3.out _ hSw; go_simp; first | done | with_reducible rfl)
      (try simp only [Act.put, List.setIfInBounds_toArray, List.set_cons_zero, List.set_cons_succ])
      refine wpAnyH_ready (rs := [37]) (by kernel_rfl) (by simp) ?_
      refine AllReadyH.cons rfl (fun K9 hK => ?_) AllReadyH.nil
      rw [if_pos (by kernel_rfl)]
      go_simp
      go_wp2_with (go_at_call 33; refine (HKn.out _ HQ17.out).mono ?_; rintro e w18 ⟨rfl, hba⟩)
      have HQ18 := hid (below2 HQ17.out hba)
      clear hba
      refine hK.out _ _ HQ18.out (fun hHeld2 => ?_)
      clear hK K9 hHeld
      rename _ => hHeld
      refine' wpAnyH_take (i := 38) (oi := ⟨some 94, _, _, _, _, _⟩) (v := _) rfl (by kernel_rfl) (by kernel_rfl) (by kernel_rfl) (fun _ _ _ h => h) (Or.inl ⟨by kernel_rfl, ?hypb17⟩) (by assumption) ?restpb17
      case hypb17 => (intro wx hSw; (try dsimp only at hSw); obtain ⟨⟨k3⟩⟩ := HK3.out _ hSw; go_simp; first | done | with_reducible rfl)
      (try simp only [Act.put, List.setIfInBounds_toArray, List.set_cons_zero, List.set_cons_succ])
      refine' wpAnyH_take (i := 39) (oi := ⟨some 6, _, _, _, _, _⟩) (v := _) rfl (by kernel_rfl) (by kernel_rfl) (by kernel_rfl) (fun _ _ _ h => h) (Or.inl ⟨by kernel_rfl, ?hypb18⟩) (by assumption) ?restpb18
      case hypb18 => (intro wx hSw; (try dsimp only at hSw); obtain ⟨⟨k3⟩⟩ := HK3.out _ hSw; go_simp; first | done | with_reducible rfl)
      (try simp only [Act.put, List.setIfInBounds_toArray, List.set_cons_zero, List.set_cons_succ])
      refine wpAnyH_done (by kernel_rfl) ?_ _
      go_wp2
      go_ret
      exact ⟨rfl, below2 HB8.out HQ18.out⟩
     | false =>
      go_upto_region 14 with fail
      refine wp_region_held_drew (S := (fun wx => Below W8.heap.size W8 wx)) (by kernel_rfl) HQ0.out (fun hHeld => ?_)
      refine wpAnyH_to (fuel' := 40) (listed' := #[false, false, false, false, false, false, false, false, false, false, false, false, false, false, false, false, false, false, false, false, false, false, false, false, false, false, false, false, false, false, false, false, false, false, false, false, false, false, false, false]) rfl rfl ?_
      refine wpAnyH_take (i := 0) (oi := ⟨some 56, _, _, _, _, _⟩) rfl (by kernel_rfl) (by kernel_rfl) (by kernel_rfl) (fun _ _ _ h => h) (yieldsIf_load_mid (by kernel_rfl) 28 (.tmp 11) rfl (w6.heap.size) 0 rfl [.string aS, .string aH, .int .i64 aP, .bool false] _ HRa.out Tryz.underlying28 rfl sizeO) (by assumption) ?_
      (try simp only [Act.put, List.setIfInBounds_toArray, List.set_cons_zero, List.set_cons_succ])
      refine wpAnyH_take (i := 1) (oi := ⟨some 57, _, _, _, _, _⟩) rfl (by kernel_rfl) (by kernel_rfl) (by kernel_rfl) (fun _ _ _ h => h) (yieldsIf_load_mid (by kernel_rfl) 28 (.tmp 12) rfl (w7.heap.size) 0 rfl [.string bS, .string bH, .int .i64 bP, .bool bQ] _ HRb.out Tryz.underlying28 rfl sizeO) (by assumption) ?_
      (try simp only [Act.put, List.setIfInBounds_toArray, List.set_cons_zero, List.set_cons_succ])
      refine wpAnyH_take (i := 3) (oi := ⟨some 59, _, _, _, _, _⟩) rfl (by kernel_rfl) (by kernel_rfl) (by kernel_rfl) (fun _ _ _ h => h) (yieldsIf_load_mid (by kernel_rfl) 28 (.tmp 12) rfl (w7.heap.size) 0 rfl [.string bS, .string bH, .int .i64 bP, .bool bQ] _ HRb.out Tryz.underlying28 rfl sizeO) (by assumption) ?_
      (try simp only [Act.put, List.setIfInBounds_toArray, List.set_cons_zero, List.set_cons_succ])
      refine wpAnyH_take (i := 4) (oi := ⟨some 60, _, _, _, _, _⟩) rfl (by kernel_rfl) (by kernel_rfl) (by kernel_rfl) (fun _ _ _ h => h) (yieldsIf_load_mid (by kernel_rfl) 28 (.tmp 11) rfl (w6.heap.size) 0 rfl [.string aS, .string aH, .int .i64 aP, .bool false] _ HRa.out Tryz.underlying28 rfl sizeO) (by assumption) ?_
      (try simp only [Act.put, List.setIfInBounds_toArray, List.set_cons_zero, List.set_cons_succ])
      refine wpAnyH_ready (rs := [2]) (by kernel_rfl) (by simp) ?_
      refine AllReadyH.cons rfl (fun K9 hK => ?_) AllReadyH.nil
      rw [if_pos (by kernel_rfl)]
      go_simp
      go_wp2_with (go_at_call 36; refine (HM1.out _ HQ0.out).mono ?_; rintro e w11 ⟨rfl, hba⟩)
      have HQ11 := hid (below2 HQ0.out hba)
      clear hba
      refine hK.out _ _ HQ11.out (fun hHeld2 => ?_)
      clear hK K9 hHeld
      rename _ => hHeld
      refine wpAnyH_ready (rs := [5]) (by kernel_rfl) (by simp) ?_
      refine AllReadyH.cons rfl (fun K9 hK => ?_) AllReadyH.nil
      rw [if_pos (by kernel_rfl)]
      go_simp
      go_wp2_with (go_at_call 36; refine (HM2.out _ HQ11.out).mono ?_; rintro e w12 ⟨rfl, hba⟩)
      have HQ12 := hid (below2 HQ11.out hba)
      clear hba
      refine hK.out _ _ HQ12.out (fun hHeld2 => ?_)
      clear hK K9 hHeld
      rename _ => hHeld
      refine' wpAnyH_take (i := 6) (oi := ⟨some 62, _, _, _, _, _⟩) (v := _) rfl (by kernel_rfl) (by kernel_rfl) (by kernel_rfl) (fun _ _ _ h => h) (Or.inl ⟨by kernel_rfl, ?hypc1⟩) (by assumption) ?restpc1
      case hypc1 => (intro wx hSw; (try dsimp only at hSw); obtain ⟨⟨k3⟩⟩ := HK3.out _ hSw; go_simp; first | done | with_reducible rfl)
      (try simp only [Act.put, List.setIfInBounds_toArray, List.set_cons_zero, List.set_cons_succ])
      refine' wpAnyH_take (i := 7) (oi := ⟨some 63, _, _, _, _, _⟩) (v := _) rfl (by kernel_rfl) (by kernel_rfl) (by kernel_rfl) (fun _ _ _ h => h) (Or.inl ⟨by kernel_rfl, ?hypc2⟩) (by assumption) ?restpc2
      case hypc2 => (intro wx hSw; (try dsimp only at hSw); obtain ⟨⟨k3⟩⟩ := HK3.out _ hSw; go_simp; first | done | with_reducible rfl)
      (try simp only [Act.put, List.setIfInBounds_toArray, List.set_cons_zero, List.set_cons_succ])
      refine wpAnyH_take (i := 8) (oi := ⟨some 64, _, _, _, _, _⟩) rfl (by kernel_rfl) (by kernel_rfl) (by kernel_rfl) (fun _ _ _ h => h) (yieldsIf_load_mid (by kernel_rfl) 28 (.tmp 11) rfl (w6.heap.size) 0 rfl [.string aS, .string aH, .int .i64 aP, .bool false] _ HRa.out Tryz.underlying28 rfl sizeO) (by assumption) ?_
      (try simp only [Act.put, List.setIfInBounds_toArray, List.set_cons_zero, List.set_cons_succ])
      refine wpAnyH_take (i := 9) (oi := ⟨some 65, _, _, _, _, _⟩) rfl (by kernel_rfl) (by kernel_rfl) (by kernel_rfl) (fun _ _ _ h => h) (yieldsIf_load_mid (by kernel_rfl) 28 (.tmp 12) rfl (w7.heap.size) 0 rfl [.string bS, .string bH, .int .i64 bP, .bool bQ] _ HRb.out Tryz.underlying28 rfl sizeO) (by assumption) ?_
      (try simp only [Act.put, List.setIfInBounds_toArray, List.set_cons_zero, List.set_cons_succ])
      refine wpAnyH_ready (rs := [10]) (by kernel_rfl) (by simp) ?_
      refine AllReadyH.cons rfl (fun K9 hK => ?_) AllReadyH.nil
      rw [if_pos (by kernel_rfl)]
      go_simp
      go_wp2_with (go_at_call 36; refine (HM1.out _ HQ12.out).mono ?_; rintro e w13 ⟨rfl, hba⟩)
      have HQ13 := hid (below2 HQ12.out hba)
      clear hba
      refine hK.out _ _ HQ13.out (fun hHeld2 => ?_)
      clear hK K9 hHeld
      rename _ => hHeld
      refine' wpAnyH_take (i := 11) (oi := ⟨some 67, _, _, _, _, _⟩) (v := _) rfl (by kernel_rfl) (by kernel_rfl) (by kernel_rfl) (fun _ _ _ h => h) (Or.inl ⟨by kernel_rfl, ?hypc3⟩) (by assumption) ?restpc3
      case hypc3 => (intro wx hSw; (try dsimp only at hSw); obtain ⟨⟨k3⟩⟩ := HK3.out _ hSw; go_simp; first | done | with_reducible rfl)
      (try simp only [Act.put, List.setIfInBounds_toArray, List.set_cons_zero, List.set_cons_succ])
      refine' wpAnyH_take (i := 12) (oi := ⟨some 68, _, _, _, _, _⟩) (v := _) rfl (by kernel_rfl) (by kernel_rfl) (by kernel_rfl) (fun _ _ _ h => h) (Or.inl ⟨by kernel_rfl, ?hypc4⟩) (by assumption) ?restpc4
      case hypc4 => (intro wx hSw; (try dsimp only at hSw); obtain ⟨⟨k3⟩⟩ := HK3.out _ hSw; go_simp; first | done | with_reducible rfl)
      (try simp only [Act.put, List.setIfInBounds_toArray, List.set_cons_zero, List.set_cons_succ])
      refine wpAnyH_take (i := 13) (oi := ⟨some 69, _, _, _, _, _⟩) (v := undef) rfl (by kernel_rfl) (by kernel_rfl) (by kernel_rfl) (fun _ _ _ h => h) (Or.inr ⟨by kernel_rfl, by kernel_rfl⟩) (by assumption) ?_
      (try simp only [Act.put, List.setIfInBounds_toArray, List.set_cons_zero, List.set_cons_succ])
      refine wpAnyH_take (i := 14) (oi := ⟨some 70, _, _, _, _, _⟩) (v := undef) rfl (by kernel_rfl) (by kernel_rfl) (by kernel_rfl) (fun _ _ _ h => h) (Or.inr ⟨by kernel_rfl, by kernel_rfl⟩) (by assumption) ?_
      (try simp only [Act.put, List.setIfInBounds_toArray, List.set_cons_zero, List.set_cons_succ])
      refine wpAnyH_take (i := 15) (oi := ⟨some 71, _, _, _, _, _⟩) (v := undef) rfl (by kernel_rfl) (by kernel_rfl) (by kernel_rfl) (fun _ _ _ h => h) (Or.inr ⟨by kernel_rfl, by kernel_rfl⟩) (by assumption) ?_
      (try simp only [Act.put, List.setIfInBounds_toArray, List.set_cons_zero, List.set_cons_succ])
      refine' wpAnyH_take (i := 16) (oi := ⟨some 72, _, _, _, _, _⟩) (v := _) rfl (by kernel_rfl) (by kernel_rfl) (by kernel_rfl) (fun _ _ _ h => h) (Or.inl ⟨by kernel_rfl, ?hypc5⟩) (by assumption) ?restpc5
      case hypc5 => (intro wx hSw; (try dsimp only at hSw); obtain ⟨⟨k3⟩⟩ := HK3.out _ hSw; go_simp; first | done | with_reducible rfl)
      (try simp only [Act.put, List.setIfInBounds_toArray, List.set_cons_zero, List.set_cons_succ])
      refine' wpAnyH_take (i := 17) (oi := ⟨some 73, _, _, _, _, _⟩) (v := _) rfl (by kernel_rfl) (by kernel_rfl) (by kernel_rfl) (fun _ _ _ h => h) (Or.inl ⟨by kernel_rfl, ?hypc6⟩) (by assumption) ?restpc6
      case hypc6 => (intro wx hSw; (try dsimp only at hSw); obtain ⟨⟨k3⟩⟩ := HK3.out _ hSw; go_simp; first | done | with_reducible rfl)
      (try simp only [Act.put, List.setIfInBounds_toArray, List.set_cons_zero, List.set_cons_succ])
      refine' wpAnyH_take (i := 18) (oi := ⟨some 74, _, _, _, _, _⟩) (v := _) rfl (by kernel_rfl) (by kernel_rfl) (by kernel_rfl) (fun _ _ _ h => h) (Or.inl ⟨by kernel_rfl, ?hypc7⟩) (by assumption) ?restpc7
      case hypc7 => (intro wx hSw; (try dsimp only at hSw); obtain ⟨⟨k3⟩⟩ := HK3.out _ hSw; go_simp; first | done | with_reducible rfl)
      (try simp only [Act.put, List.setIfInBounds_toArray, List.set_cons_zero, List.set_cons_succ])
      refine wpAnyH_take (i := 19) (oi := ⟨some 75, _, _, _, _, _⟩) rfl (by kernel_rfl) (by kernel_rfl) (by kernel_rfl) (fun _ _ _ h => h) (yieldsIf_load_mid (by kernel_rfl) 28 (.tmp 11) rfl (w6.heap.size) 0 rfl [.string aS, .string aH, .int .i64 aP, .bool false] _ HRa.out Tryz.underlying28 rfl sizeO) (by assumption) ?_
      (try simp only [Act.put, List.setIfInBounds_toArray, List.set_cons_zero, List.set_cons_succ])
      refine wpAnyH_take (i := 20) (oi := ⟨some 76, _, _, _, _, _⟩) rfl (by kernel_rfl) (by kernel_rfl) (by kernel_rfl) (fun _ _ _ h => h) (yieldsIf_load_mid (by kernel_rfl) 28 (.tmp 12) rfl (w7.heap.size) 0 rfl [.string bS, .string bH, .int .i64 bP, .bool bQ] _ HRb.out Tryz.underlying28 rfl sizeO) (by assumption) ?_
      (try simp only [Act.put, List.setIfInBounds_toArray, List.set_cons_zero, List.set_cons_succ])
      refine wpAnyH_take (i := 22) (oi := ⟨some 78, _, _, _, _, _⟩) rfl (by kernel_rfl) (by kernel_rfl) (by kernel_rfl) (fun _ _ _ h => h) (yieldsIf_load_mid (by kernel_rfl) 28 (.tmp 12) rfl (w7.heap.size) 0 rfl [.string bS, .string bH, .int .i64 bP, .bool bQ] _ HRb.out Tryz.underlying28 rfl sizeO) (by assumption) ?_
      (try simp only [Act.put, List.setIfInBounds_toArray, List.set_cons_zero, List.set_cons_succ])
      refine wpAnyH_take (i := 23) (oi := ⟨some 79, _, _, _, _, _⟩) rfl (by kernel_rfl) (by kernel_rfl) (by kernel_rfl) (fun _ _ _ h => h) (yieldsIf_load_mid (by kernel_rfl) 28 (.tmp 11) rfl (w6.heap.size) 0 rfl [.string aS, .string aH, .int .i64 aP, .bool false] _ HRa.out Tryz.underlying28 rfl sizeO) (by assumption) ?_
      (try simp only [Act.put, List.setIfInBounds_toArray, List.set_cons_zero, List.set_cons_succ])
      refine wpAnyH_ready (rs := [21]) (by kernel_rfl) (by simp) ?_
      refine AllReadyH.cons rfl (fun K9 hK => ?_) AllReadyH.nil
      rw [if_pos (by kernel_rfl)]
      go_simp
      go_wp2_with (go_at_call 37; refine (HN1.out _ HQ13.out).mono ?_; rintro e w15 ⟨rfl, hba⟩)
      have HQ15 := hid (below2 HQ13.out hba)
      clear hba
      refine hK.out _ _ HQ15.out (fun hHeld2 => ?_)
      clear hK K9 hHeld
      rename _ => hHeld
      refine wpAnyH_ready (rs := [24]) (by kernel_rfl) (by simp) ?_
      refine AllReadyH.cons rfl (fun K9 hK => ?_) AllReadyH.nil
      rw [if_pos (by kernel_rfl)]
      go_simp
      go_wp2_with (go_at_call 37; refine (HN2.out _ HQ15.out).mono ?_; rintro e w16 ⟨rfl, hba⟩)
      have HQ16 := hid (below2 HQ15.out hba)
      clear hba
      refine hK.out _ _ HQ16.out (fun hHeld2 => ?_)
      clear hK K9 hHeld
      rename _ => hHeld
      refine' wpAnyH_take (i := 25) (oi := ⟨some 81, _, _, _, _, _⟩) (v := _) rfl (by kernel_rfl) (by kernel_rfl) (by kernel_rfl) (fun _ _ _ h => h) (Or.inl ⟨by kernel_rfl, ?hypc8⟩) (by assumption) ?restpc8
      case hypc8 => (intro wx hSw; (try dsimp only at hSw); obtain ⟨⟨k3⟩⟩ := HK3.out _ hSw; go_simp; first | done | with_reducible rfl)
      (try simp only [Act.put, List.setIfInBounds_toArray, List.set_cons_zero, List.set_cons_succ])
      refine' wpAnyH_take (i := 26) (oi := ⟨some 82, _, _, _, _, _⟩) (v := _) rfl (by kernel_rfl) (by kernel_rfl) (by kernel_rfl) (fun _ _ _ h => h) (Or.inl ⟨by kernel_rfl, ?hypc9⟩) (by assumption) ?restpc9
      case hypc9 => (intro wx hSw; (try dsimp only at hSw); obtain ⟨⟨k3⟩⟩ := HK3.out _ hSw; go_simp; first | done | with_reducible rfl)
      (try simp only [Act.put, List.setIfInBounds_toArray, List.set_cons_zero, List.set_cons_succ])
      refine' wpAnyH_take (i := 27) (oi := ⟨some 83, _, _, _, _, _⟩) (v := _) rfl (by kernel_rfl) (by kernel_rfl) (by kernel_rfl) (fun _ _ _ h => h) (Or.inl ⟨by kernel_rfl, ?hypc10⟩) (by assumption) ?restpc10
      case hypc10 => (intro wx hSw; (try dsimp only at hSw); obtain ⟨⟨k3⟩⟩ := HK3.out _ hSw; go_simp; first | done | with_reducible rfl)
      (try simp only [Act.put, List.setIfInBounds_toArray, List.set_cons_zero, List.set_cons_succ])
      refine wpAnyH_take (i := 28) (oi := ⟨some 84, _, _, _, _, _⟩) rfl (by kernel_rfl) (by kernel_rfl) (by kernel_rfl) (fun _ _ _ h => h) (yieldsIf_load_mid (by kernel_rfl) 28 (.tmp 11) rfl (w6.heap.size) 0 rfl [.string aS, .string aH, .int .i64 aP, .bool false] _ HRa.out Tryz.underlying28 rfl sizeO) (by assumption) ?_
      (try simp only [Act.put, List.setIfInBounds_toArray, List.set_cons_zero, List.set_cons_succ])
      refine wpAnyH_take (i := 29) (oi := ⟨some 85, _, _, _, _, _⟩) rfl (by kernel_rfl) (by kernel_rfl) (by kernel_rfl) (fun _ _ _ h => h) (yieldsIf_load_mid (by kernel_rfl) 28 (.tmp 11) rfl (w6.heap.size) 0 rfl [.string aS, .string aH, .int .i64 aP, .bool false] _ HRa.out Tryz.underlying28 rfl sizeO) (by assumption) ?_
      (try simp only [Act.put, List.setIfInBounds_toArray, List.set_cons_zero, List.set_cons_succ])
      refine wpAnyH_ready (rs := [30]) (by kernel_rfl) (by simp) ?_
      refine AllReadyH.cons rfl (fun K9 hK => ?_) AllReadyH.nil
      rw [if_pos (by kernel_rfl)]
      go_simp
      go_wp2_with (go_at_call 36; refine (HM3.out _ HQ16.out).mono ?_; rintro e w17 ⟨rfl, hba⟩)
      have HQ17 := hid (below2 HQ16.out hba)
      clear hba
      refine hK.out _ _ HQ17.out (fun hHeld2 => ?_)
      clear hK K9 hHeld
      rename _ => hHeld
      refine' wpAnyH_take (i := 31) (oi := ⟨some 87, _, _, _, _, _⟩) (v := _) rfl (by kernel_rfl) (by kernel_rfl) (by kernel_rfl) (fun _ _ _ h => h) (Or.inl ⟨by kernel_rfl, ?hypc11⟩) (by assumption) ?restpc11
      case hypc11 => (intro wx hSw; (try dsimp only at hSw); obtain ⟨⟨k3⟩⟩ := HK3.out _ hSw; go_simp; first | done | with_reducible rfl)
      (try simp only [Act.put, List.setIfInBounds_toArray, List.set_cons_zero, List.set_cons_succ])
      refine wpAnyH_take (i := 32) (oi := ⟨some 88, _, _, _, _, _⟩) (v := undef) rfl (by kernel_rfl) (by kernel_rfl) (by kernel_rfl) (fun _ _ _ h => h) (Or.inr ⟨by kernel_rfl, by kernel_rfl⟩) (by assumption) ?_
      (try simp only [Act.put, List.setIfInBounds_toArray, List.set_cons_zero, List.set_cons_succ])
      refine wpAnyH_take (i := 33) (oi := ⟨some 89, _, _, _, _, _⟩) (v := undef) rfl (by kernel_rfl) (by kernel_rfl) (by kernel_rfl) (fun _ _ _ h => h) (Or.inr ⟨by kernel_rfl, by kernel_rfl⟩) (by assumption) ?_
      (try simp only [Act.put, List.setIfInBounds_toArray, List.set_cons_zero, List.set_cons_succ])
      refine' wpAnyH_take (i := 34) (oi := ⟨some 90, _, _, _, _, _⟩) (v := _) rfl (by kernel_rfl) (by kernel_rfl) (by kernel_rfl) (fun _ _ _ h => h) (Or.inl ⟨by kernel_rfl, ?hypc12⟩) (by assumption) ?restpc12
      case hypc12 => (intro wx hSw; (try dsimp only at hSw); obtain ⟨⟨k3⟩⟩ := HK3.out _ hSw; go_simp; first | done | with_reducible rfl)
      (try simp only [Act.put, List.setIfInBounds_toArray, List.set_cons_zero, List.set_cons_succ])
      refine' wpAnyH_take (i := 35) (oi := ⟨some 91, _, _, _, _, _⟩) (v := _) rfl (by kernel_rfl) (by kernel_rfl) (by kernel_rfl) (fun _ _ _ h => h) (Or.inl ⟨by kernel_rfl, ?hypc13⟩) (by assumption) ?restpc13
      case hypc13 => (intro wx hSw; (try dsimp only at hSw); obtain ⟨⟨k3⟩⟩ := HK3.out _ hSw; go_simp; first | done | with_reducible rfl)
      (try simp only [Act.put, List.setIfInBounds_toArray, List.set_cons_zero, List.set_cons_succ])
      refine' wpAnyH_take (i := 36) (oi := ⟨some 92, _, _, _, _, _⟩) (v := _) rfl (by kernel_rfl) (by kernel_rfl) (by kernel_rfl) (fun _ _ _ h => h) (Or.inl ⟨by kernel_rfl, ?hypc14⟩) (by assumption) ?restpc14
      case hypc14 => (intro wx hSw; (try dsimp only at hSw); obtain ⟨⟨k3⟩⟩ := HK3.out _ hSw; go_simp; first | done | with_reducible rfl)
      (try simp only [Act.put, List.setIfInBounds_toArray, List.set_cons_zero, List.set_cons_succ])
      refine wpAnyH_ready (rs := [37]) (by kernel_rfl) (by simp) ?_
      refine AllReadyH.cons rfl (fun K9 hK => ?_) AllReadyH.nil
      rw [if_pos (by kernel_rfl)]
      go_simp
      go_wp2_with (go_at_call 33; refine (HKn.out _ HQ17.out).mono ?_; rintro e w18 ⟨rfl, hba⟩)
      have HQ18 := hid (below2 HQ17.out hba)
      clear hba
      refine hK.out _ _ HQ18.out (fun hHeld2 => ?_)
      clear hK K9 hHeld
      rename _ => hHeld
      refine' wpAnyH_take (i := 38) (oi := ⟨some 94, _, _, _, _, _⟩) (v := _) rfl (by kernel_rfl) (by kernel_rfl) (by kernel_rfl) (fun _ _ _ h => h) (Or.inl ⟨by kernel_rfl, ?hypc15⟩) (by assumption) ?restpc15
      case hypc15 => (intro wx hSw; (try dsimp only at hSw); obtain ⟨⟨k3⟩⟩ := HK3.out _ hSw; go_simp; first | done | with_reducible rfl)
      (try simp only [Act.put, List.setIfInBounds_toArray, List.set_cons_zero, List.set_cons_succ])
      refine' wpAnyH_take (i := 39) (oi := ⟨some 6, _, _, _, _, _⟩) (v := _) rfl (by kernel_rfl) (by kernel_rfl) (by kernel_rfl) (fun _ _ _ h => h) (Or.inl ⟨by kernel_rfl, ?hypc16⟩) (by assumption) ?restpc16
      case hypc16 => (intro wx hSw; (try dsimp only at hSw); obtain ⟨⟨k3⟩⟩ := HK3.out _ hSw; go_simp; first | done | with_reducible rfl)
      (try simp only [Act.put, List.setIfInBounds_toArray, List.set_cons_zero, List.set_cons_succ])
      refine wpAnyH_done (by kernel_rfl) ?_ _
      go_wp2
      go_ret
      exact ⟨rfl, below2 HB8.out HQ18.out⟩
 ·have h20' : decide ((20 : Int) < (L.length : Int)) = false := by rw [decide_eq_false_iff_not]; omega
  obtain ⟨M, hM⟩ : ∃ M, L = M := ⟨_, rfl⟩
  subst hM
  obtain ⟨n, hn⟩ : ∃ n, L.length = n := ⟨_, rfl⟩
  have HMl := hid hn
  have HM := hid HV.out
  have HMb := hid HBg.out
  have hn20 : n ≤ 20 := by omega
  rw [hn] at h20' ⊢ HM
  clear h20 hn
  go_enter Tryz.func7, Tryz.ntmps7
  go_wp2_with fail
  go_loopw [7, 8] (fun mv iv wr => ∃ k : Nat, k ≤ n ∧ iv = .int .i64 k ∧ FnI w L mv wr k) (fun _ iv _ => n - (intOf iv).toNat)
  case atStart => exact ⟨0, Nat.zero_le _, rfl, World.ownsRow_nil _ _ _ _, Below.refl _ _⟩
  case round =>
   obtain ⟨k, hk, rfl, hown, hbw⟩ := hrel
   have HO := hid hown
   have HBw := hid hbw
   have hwr := hbw.size
   clear hown hbw
   by_cases hlt : k < n
   ·have hlt' : (k : Int) < (n : Int) := by omega
    have hkM : k < L.length := by rw [HMl.out]; exact hlt
    obtain ⟨a', cap', he, -, -, hcells⟩ := HM.out.kept HBw.out
    obtain ⟨g, off, ha, c0, c1⟩ := hcells k hkM
    have ha2 : a = some ⟨g, off, none⟩ := by injection he with e1; rw [e1]; exact ha
    clear he ha hcells
    subst ha2
    have HTk := hid (fin_snoc L k hkM)
    have hLn : L[k].name.length ≤ 4000000 ∧ L[k].value.length ≤ 4000000 := by
     have h1 := HMb.out
     have h2 : bigH L[k] ≤ bigQ L := by
      have h3 := big_mem (L := L) (h := L[k]) (List.getElem_mem hkM)
      exact h3
     unfold bigH at h2
     omega
    obtain ⟨X, hX⟩ : ∃ X : ByteArray, (⟨L[k].name.toArray⟩ : ByteArray) = X := ⟨_, rfl⟩
    obtain ⟨Y, hY⟩ : ∃ X : ByteArray, (⟨L[k].value.toArray⟩ : ByteArray) = X := ⟨_, rfl⟩
    rw [hX] at c0
    rw [hY] at c1
    have hXs : X.size ≤ 4000000 := by rw [← hX, Lib.size_eq]; exact hLn.1
    have hYs : Y.size ≤ 4000000 := by rw [← hY, Lib.size_eq]; exact hLn.2
    obtain ⟨TX, hTX⟩ : ∃ T : ByteArray, (⟨#[46]⟩ : ByteArray) ++ X = T := ⟨_, rfl⟩
    obtain ⟨TY, hTY⟩ : ∃ T : ByteArray, (⟨#[46]⟩ : ByteArray) ++ Y = T := ⟨_, rfl⟩
    have hTXl : TX = ⟨(46 :: L[k].name).toArray⟩ := by rw [← hTX, ← hX]; exact dot_app _
    have hTYl : TY = ⟨(46 :: L[k].value).toArray⟩ := by rw [← hTY, ← hY]; exact dot_app _
    have hTXs : TX.size ≤ 1000000000 := by rw [hTXl, Lib.size_eq]; show (46 :: L[k].name).length ≤ _; rw [List.length_cons]; omega
    have hTYs : TY.size ≤ 1000000000 := by rw [hTYl, Lib.size_eq]; show (46 :: L[k].value).length ≤ _; rw [List.length_cons]; omega
    obtain ⟨rn1, cp1, W1, R1, e1, e2, hR1, hb1⟩ := runes_both wr TX hTXs
    obtain ⟨rn2, cp2, W2, R2, e3, e4, hR2, hb2⟩ := runes_both W1 TY hTYs
    have c1' := keptC4 c1 hb1
    have hR1f : R1 = ⟨(finT L[k].name).toArray⟩ := by rw [hR1, hTXl]; rfl
    have hR2f : R2 = ⟨(finT L[k].value).toArray⟩ := by rw [hR2, hTYl]; rfl
    rw [← hR1f, ← hR2f] at HTk
    have HO2 := hid (own_same (own_same HO.out hb1) hb2)
    have HB2 := hid (below2 HBw.out (below2 hb1 hb2))
    have hw2 := HB2.out.size
    clear hX hY hTXl hTYl hR1 hR2 hR1f hR2f hb1 hb2 hLn hTXs hTYs c1
    go_wp2_with (at_builtin; go_must (refine wpList_append_own _ rfl _ _ 48 rfl w.heap.size 51 i0 _ 2 32 Tryz.underlying48 hi hz0 hz1 hz2 rfl (by decide) _ _ _ rfl (HO2.out.alloc _) ⟨W2.heap.size, 0, none⟩ 1 1 [.string R1, .string R2] rfl rfl ?c1 ?c2 ?c3 ?c4 ?c5 ?_))
    case c1 =>
     intro q u hq
     match q, hq with
     | 0, hq => simp at hq; subst hq; simp [Addr.add]
     | 1, hq => simp at hq; subst hq; simp [Addr.add]
    case c2 => intro u hu; simp at hu; rcases hu with rfl | rfl <;> rfl
    case c3 => unfold maxLen; omega
    case c4 => omega
    case c5 => simp; omega
    intro v' w5 hown' hgrow hnil
    have HO5 := hid hown'
    have HB5 := hid (show Below w.heap.size w w5 from (HB2.out.alloc hw2 _).grown hgrow (by simp; omega) (fun g hg => (HO2.out.lt g hg).1))
    clear hown' hgrow hnil e1 e2 e3 e4 hTX hTY
    go_wp2
    go_roundw
    case rel => exact ⟨k + 1, by omega, by go_num, by rw [HTk.out, List.map_take]; exact HO5.out, HB5.out⟩
    case measure => simp [intOf]; omega
   ·have hlt' : decide ((k : Int) < (n : Int)) = false := by rw [decide_eq_false_iff_not]; omega
    have hkn : n = k := by omega
    subst hkn
    have hMt : L.take (n) = L := List.take_of_length_le (by rw [HMl.out]; exact Nat.le_refl _)
    rw [hMt] at HO
    have HGr := hid (HG0.out.kept HBw.out)
    have HFl := hid (show (L.map finH).length = n by rw [List.length_map, HMl.out])
    have HFh := hid (show HdAt wr u7 (L.map finH) from own_hd (by rw [HFl.out]; exact HO.out))
    have HFb := hid (show bigQ (L.map finH) ≤ 52000000 by have := big_fin L; have := HMb.out; omega)
    have HQf := hid (quer_fin L)
    obtain ⟨FF, hFF⟩ : ∃ F, L.map finH = F := ⟨_, rfl⟩
    rw [hFF] at HFl HFh HFb HQf
    obtain ⟨ma, mc, rfl, -, -, -⟩ := HFh.out.view
    have HWa := hid (writeO_any _ FF wr HFh.out (by have := HFb.out; omega) (by rw [HFl.out]; omega))
    obtain ⟨TT, hTT⟩ : ∃ X : ByteArray, (⟨(wrV FF).toArray⟩ : ByteArray) = X := ⟨_, rfl⟩
    rw [hTT] at HWa
    have hTl : TT.data.toList = wrV FF := by rw [← hTT]
    have hTs : TT.size ≤ 100000000 := by
     rw [Lib.size_eq, hTl]
     have h1 : (wrV FF).length ≤ bigQ FF := wrA_le true FF
     have := HFb.out
     omega
    have HQq := hid (fun (Z : World) (hZ : Gd Z) => query4_any TT Z hZ hTs)
    rw [hTl, HQf.out] at HQq
    unfold QPost at HQq
    clear hMt hFF hTT hTl hTs
    go_wp2_with fail
    refine HWa.out.mono ?_
    rintro e w3 ⟨rfl, hb3⟩
    have HB3 := hid (below2 HBw.out hb3)
    have HF3 := hid (HFh.out.kept hb3)
    clear hb3
    go_wp2_with fail
    refine (HQq.out _ (HG0.out.kept HB3.out)).mono ?_
    rintro e w4 ⟨va, rfl, hown, hb4⟩
    have HB4 := hid (below2 HB3.out hb4)
    have HF4 := hid (HF3.out.kept hb4)
    have HA4 := hid (own_hd hown)
    obtain ⟨qa, qc, rfl, -, -, -⟩ := HA4.out.view
    have HSm := hid (sameP_any _ _ FF FF w4 HA4.out HF4.out (by rw [HFl.out]; omega) (by rw [HFl.out]; omega))
    simp only [eq_self, decide_true] at HSm
    clear hown hb4
    go_wp2_with fail
    refine HSm.out.mono ?_
    rintro e w5 ⟨rfl, hb5⟩
    have HB5 := hid (below2 HB4.out hb5)
    clear hb5
    go_wp2_with fail
    refine (HOa.out _ (HG0.out.kept HB5.out)).mono ?_
    rintro e w6 ⟨rfl, hb6⟩
    obtain ⟨W6, hW6⟩ : ∃ X, (w6.alloc (.cells #[.string aS, .string aH, .int .i64 aP, .bool aQ] 28)) = X := ⟨_, rfl⟩
    have hbx : Below w6.heap.size w6 W6 := by rw [← hW6]; exact (Below.refl _ w6).alloc (Nat.le_refl _) _
    have HOa6 := hid (show OrgIn W6 w6.heap.size A by unfold OrgIn; rw [HXa.out, ← hW6]; exact heap_alloc_new w6 _)
    have HB6 := hid (below2 HB5.out (below2 hb6 hbx))
    clear hb6 hbx
    go_wp2_with fail
    refine (HOb.out _ (HG0.out.kept HB6.out)).mono ?_
    rintro e w7 ⟨rfl, hb7⟩
    have HOa7 := hid (HOa6.out.kept hb7)
    have HB7 := hid (below2 HB6.out hb7)
    clear hb7
    obtain ⟨W8, hW8⟩ : ∃ X, (w7.alloc (.cells #[.string bS, .string bH, .int .i64 bP, .bool bQ] 28)) = X := ⟨_, rfl⟩
    have hb8 : Below w7.heap.size w7 W8 := by rw [← hW8]; exact (Below.refl _ w7).alloc (Nat.le_refl _) _
    have HOb8 := hid (show OrgIn W8 w7.heap.size B by unfold OrgIn; rw [HXb.out, ← hW8]; exact heap_alloc_new w7 _)
    have HOa8 := hid (HOa7.out.kept hb8)
    have HB8 := hid (below2 HB7.out hb8)
    have HQ0 := hid ((Below.refl W8.heap.size W8).drew)
    have HRa := hid (show ∀ Z, Below W8.heap.size W8 Z → Z.rangeAt (w6.heap.size) 0 [.string aS, .string aH, .int .i64 aP, .bool aQ] from fun Z hZ => by
     have := range_row (show Z.heap[w6.heap.size]? = some (.cells (orgCells (A)).toArray 28 (0, 0)) from HOa8.out.kept hZ)
     rw [HXa.out] at this
     exact this)
    have HRb := hid (show ∀ Z, Below W8.heap.size W8 Z → Z.rangeAt (w7.heap.size) 0 [.string bS, .string bH, .int .i64 bP, .bool bQ] from fun Z hZ => by
     have := range_row (show Z.heap[w7.heap.size]? = some (.cells (orgCells (B)).toArray 28 (0, 0)) from HOb8.out.kept hZ)
     rw [HXb.out] at this
     exact this)
    have HK3 := hid (show ∀ Z, Below W8.heap.size W8 Z → Nonempty (PLift (Z.cell? ⟨w6.heap.size, 3, none⟩ = some (.bool aQ))) from fun Z hZ => ⟨⟨HRa.out Z hZ 3 _ rfl⟩⟩)
    have HM1 := hid (fun (Z : World) (hZ : Below W8.heap.size W8 Z) => same4_any A B Z)
    have HM2 := hid (fun (Z : World) (hZ : Below W8.heap.size W8 Z) => same4_any B A Z)
    have HM3 := hid (fun (Z : World) (hZ : Below W8.heap.size W8 Z) => same4_any A A Z)
    have HN1 := hid (fun (Z : World) (hZ : Below W8.heap.size W8 Z) => ss_any A B Z (HG0.out.kept (below2 HB8.out hZ)) HSa.out HSb.out)
    have HN2 := hid (fun (Z : World) (hZ : Below W8.heap.size W8 Z) => ss_any B A Z (HG0.out.kept (below2 HB8.out hZ)) HSb.out HSa.out)
    have HKn := hid (fun (Z : World) (hZ : Below W8.heap.size W8 Z) => known4_any Z (HG0.out.kept (below2 HB8.out hZ)))
    rw [sameO_comm B A] at HM2
    rw [ssV_comm B A] at HN2
    rw [same_self, ← HQa.out] at HM3
    rw [HVa.out] at HM1 HM2 HM3 HN1 HN2
    rw [HVb.out] at HM1 HM2 HN1 HN2
    have HSS := hid (fun h => same_ss (a := A) (b := B) h)
    have HSO := hid (show sameO A B = true → A.opq = false from fun h => by
     unfold sameO at h
     rw [Bool.and_eq_true] at h
     simpa using h.1)
    rw [← HQa.out] at HSO
    generalize sameO A B = s1 at HM1 HM2 HSS HSO
    generalize ssV A B = s2 at HN1 HN2 HSS
    clear hb8
    cases s1 with
    | true =>
     obtain rfl : s2 = true := HSS.out (by first | rfl | trivial)
     obtain rfl : aQ = false := HSO.out (by first | rfl | trivial)
     go_upto_region 14 with fail
     refine wp_region_held_drew (S := (fun wx => Below W8.heap.size W8 wx)) (by kernel_rfl) HQ0.out (fun hHeld => ?_)
     refine wpAnyH_to (fuel' := 40) (listed' := #[false, false, false, false, false, false, false, false, false, false, false, false, false, false, false, false, false, false, false, false, false, false, false, false, false, false, false, false, false, false, false, false, false, false, false, false, false, false, false, false]) rfl rfl ?_
     refine wpAnyH_take (i := 0) (oi := ⟨some 56, _, _, _, _, _⟩) rfl (by kernel_rfl) (by kernel_rfl) (by kernel_rfl) (fun _ _ _ h => h) (yieldsIf_load_mid (by kernel_rfl) 28 (.tmp 11) rfl (w6.heap.size) 0 rfl [.string aS, .string aH, .int .i64 aP, .bool false] _ HRa.out Tryz.underlying28 rfl sizeO) (by assumption) ?_
     (try simp only [Act.put, List.setIfInBounds_toArray, List.set_cons_zero, List.set_cons_succ])
     refine wpAnyH_take (i := 1) (oi := ⟨some 57, _, _, _, _, _⟩) rfl (by kernel_rfl) (by kernel_rfl) (by kernel_rfl) (fun _ _ _ h => h) (yieldsIf_load_mid (by kernel_rfl) 28 (.tmp 12) rfl (w7.heap.size) 0 rfl [.string bS, .string bH, .int .i64 bP, .bool bQ] _ HRb.out Tryz.underlying28 rfl sizeO) (by assumption) ?_
     (try simp only [Act.put, List.setIfInBounds_toArray, List.set_cons_zero, List.set_cons_succ])
     refine wpAnyH_take (i := 3) (oi := ⟨some 59, _, _, _, _, _⟩) rfl (by kernel_rfl) (by kernel_rfl) (by kernel_rfl) (fun _ _ _ h => h) (yieldsIf_load_mid (by kernel_rfl) 28 (.tmp 12) rfl (w7.heap.size) 0 rfl [.string bS, .string bH, .int .i64 bP, .bool bQ] _ HRb.out Tryz.underlying28 rfl sizeO) (by assumption) ?_
     (try simp only [Act.put, List.setIfInBounds_toArray, List.set_cons_zero, List.set_cons_succ])
     refine wpAnyH_take (i := 4) (oi := ⟨some 60, _, _, _, _, _⟩) rfl (by kernel_rfl) (by kernel_rfl) (by kernel_rfl) (fun _ _ _ h => h) (yieldsIf_load_mid (by kernel_rfl) 28 (.tmp 11) rfl (w6.heap.size) 0 rfl [.string aS, .string aH, .int .i64 aP, .bool false] _ HRa.out Tryz.underlying28 rfl sizeO) (by assumption) ?_
     (try simp only [Act.put, List.setIfInBounds_toArray, List.set_cons_zero, List.set_cons_succ])
     refine wpAnyH_ready (rs := [2]) (by kernel_rfl) (by simp) ?_
     refine AllReadyH.cons rfl (fun K9 hK => ?_) AllReadyH.nil
     rw [if_pos (by kernel_rfl)]
     go_simp
     go_wp2_with (go_at_call 36; refine (HM1.out _ HQ0.out).mono ?_; rintro e w11 ⟨rfl, hba⟩)
     have HQ11 := hid (below2 HQ0.out hba)
     clear hba
     refine hK.out _ _ HQ11.out (fun hHeld2 => ?_)
     clear hK K9 hHeld
     rename _ => hHeld
     refine wpAnyH_ready (rs := [5]) (by kernel_rfl) (by simp) ?_
     refine AllReadyH.cons rfl (fun K9 hK => ?_) AllReadyH.nil
     rw [if_pos (by kernel_rfl)]
     go_simp
     go_wp2_with (go_at_call 36; refine (HM2.out _ HQ11.out).mono ?_; rintro e w12 ⟨rfl, hba⟩)
     have HQ12 := hid (below2 HQ11.out hba)
     clear hba
     refine hK.out _ _ HQ12.out (fun hHeld2 => ?_)
     clear hK K9 hHeld
     rename _ => hHeld
     refine' wpAnyH_take (i := 6) (oi := ⟨some 62, _, _, _, _, _⟩) (v := _) rfl (by kernel_rfl) (by kernel_rfl) (by kernel_rfl) (fun _ _ _ h => h) (Or.inl ⟨by kernel_rfl, ?hyqa1⟩) (by assumption) ?restqa1
     case hyqa1 => (intro wx hSw; (try dsimp only at hSw); obtain ⟨⟨k3⟩⟩ := HK3.out _ hSw; go_simp; first | done | with_reducible rfl)
     (try simp only [Act.put, List.setIfInBounds_toArray, List.set_cons_zero, List.set_cons_succ])
     refine' wpAnyH_take (i := 7) (oi := ⟨some 63, _, _, _, _, _⟩) (v := _) rfl (by kernel_rfl) (by kernel_rfl) (by kernel_rfl) (fun _ _ _ h => h) (Or.inl ⟨by kernel_rfl, ?hyqa2⟩) (by assumption) ?restqa2
     case hyqa2 => (intro wx hSw; (try dsimp only at hSw); obtain ⟨⟨k3⟩⟩ := HK3.out _ hSw; go_simp; first | done | with_reducible rfl)
     (try simp only [Act.put, List.setIfInBounds_toArray, List.set_cons_zero, List.set_cons_succ])
     refine wpAnyH_take (i := 8) (oi := ⟨some 64, _, _, _, _, _⟩) rfl (by kernel_rfl) (by kernel_rfl) (by kernel_rfl) (fun _ _ _ h => h) (yieldsIf_load_mid (by kernel_rfl) 28 (.tmp 11) rfl (w6.heap.size) 0 rfl [.string aS, .string aH, .int .i64 aP, .bool false] _ HRa.out Tryz.underlying28 rfl sizeO) (by assumption) ?_
     (try simp only [Act.put, List.setIfInBounds_toArray, List.set_cons_zero, List.set_cons_succ])
     refine wpAnyH_take (i := 9) (oi := ⟨some 65, _, _, _, _, _⟩) rfl (by kernel_rfl) (by kernel_rfl) (by kernel_rfl) (fun _ _ _ h => h) (yieldsIf_load_mid (by kernel_rfl) 28 (.tmp 12) rfl (w7.heap.size) 0 rfl [.string bS, .string bH, .int .i64 bP, .bool bQ] _ HRb.out Tryz.underlying28 rfl sizeO) (by assumption) ?_
     (try simp only [Act.put, List.setIfInBounds_toArray, List.set_cons_zero, List.set_cons_succ])
     refine wpAnyH_ready (rs := [10]) (by kernel_rfl) (by simp) ?_
     refine AllReadyH.cons rfl (fun K9 hK => ?_) AllReadyH.nil
     rw [if_pos (by kernel_rfl)]
     go_simp
     go_wp2_with (go_at_call 36; refine (HM1.out _ HQ12.out).mono ?_; rintro e w13 ⟨rfl, hba⟩)
     have HQ13 := hid (below2 HQ12.out hba)
     clear hba
     refine hK.out _ _ HQ13.out (fun hHeld2 => ?_)
     clear hK K9 hHeld
     rename _ => hHeld
     refine' wpAnyH_take (i := 11) (oi := ⟨some 67, _, _, _, _, _⟩) (v := _) rfl (by kernel_rfl) (by kernel_rfl) (by kernel_rfl) (fun _ _ _ h => h) (Or.inl ⟨by kernel_rfl, ?hyqa3⟩) (by assumption) ?restqa3
     case hyqa3 => (intro wx hSw; (try dsimp only at hSw); obtain ⟨⟨k3⟩⟩ := HK3.out _ hSw; go_simp; first | done | with_reducible rfl)
     (try simp only [Act.put, List.setIfInBounds_toArray, List.set_cons_zero, List.set_cons_succ])
     refine' wpAnyH_take (i := 12) (oi := ⟨some 68, _, _, _, _, _⟩) (v := _) rfl (by kernel_rfl) (by kernel_rfl) (by kernel_rfl) (fun _ _ _ h => h) (Or.inl ⟨by kernel_rfl, ?hyqa4⟩) (by assumption) ?restqa4
     case hyqa4 => (intro wx hSw; (try dsimp only at hSw); obtain ⟨⟨k3⟩⟩ := HK3.out _ hSw; go_simp; first | done | with_reducible rfl)
     (try simp only [Act.put, List.setIfInBounds_toArray, List.set_cons_zero, List.set_cons_succ])
     refine wpAnyH_take (i := 13) (oi := ⟨some 69, _, _, _, _, _⟩) rfl (by kernel_rfl) (by kernel_rfl) (by kernel_rfl) (fun _ _ _ h => h) (yieldsIf_load_mid (by kernel_rfl) 28 (.tmp 11) rfl (w6.heap.size) 0 rfl [.string aS, .string aH, .int .i64 aP, .bool false] _ HRa.out Tryz.underlying28 rfl sizeO) (by assumption) ?_
     (try simp only [Act.put, List.setIfInBounds_toArray, List.set_cons_zero, List.set_cons_succ])
     refine wpAnyH_take (i := 14) (oi := ⟨some 70, _, _, _, _, _⟩) rfl (by kernel_rfl) (by kernel_rfl) (by kernel_rfl) (fun _ _ _ h => h) (yieldsIf_load_mid (by kernel_rfl) 28 (.tmp 12) rfl (w7.heap.size) 0 rfl [.string bS, .string bH, .int .i64 bP, .bool bQ] _ HRb.out Tryz.underlying28 rfl sizeO) (by assumption) ?_
     (try simp only [Act.put, List.setIfInBounds_toArray, List.set_cons_zero, List.set_cons_succ])
     refine wpAnyH_ready (rs := [15]) (by kernel_rfl) (by simp) ?_
     refine AllReadyH.cons rfl (fun K9 hK => ?_) AllReadyH.nil
     rw [if_pos (by kernel_rfl)]
     go_simp
     go_wp2_with (go_at_call 37; refine (HN1.out _ HQ13.out).mono ?_; rintro e w14 ⟨rfl, hba⟩)
     have HQ14 := hid (below2 HQ13.out hba)
     clear hba
     refine hK.out _ _ HQ14.out (fun hHeld2 => ?_)
     clear hK K9 hHeld
     rename _ => hHeld
     refine' wpAnyH_take (i := 16) (oi := ⟨some 72, _, _, _, _, _⟩) (v := _) rfl (by kernel_rfl) (by kernel_rfl) (by kernel_rfl) (fun _ _ _ h => h) (Or.inl ⟨by kernel_rfl, ?hyqa5⟩) (by assumption) ?restqa5
     case hyqa5 => (intro wx hSw; (try dsimp only at hSw); obtain ⟨⟨k3⟩⟩ := HK3.out _ hSw; go_simp; first | done | with_reducible rfl)
     (try simp only [Act.put, List.setIfInBounds_toArray, List.set_cons_zero, List.set_cons_succ])
     refine' wpAnyH_take (i := 17) (oi := ⟨some 73, _, _, _, _, _⟩) (v := _) rfl (by kernel_rfl) (by kernel_rfl) (by kernel_rfl) (fun _ _ _ h => h) (Or.inl ⟨by kernel_rfl, ?hyqa6⟩) (by assumption) ?restqa6
     case hyqa6 => (intro wx hSw; (try dsimp only at hSw); obtain ⟨⟨k3⟩⟩ := HK3.out _ hSw; go_simp; first | done | with_reducible rfl)
     (try simp only [Act.put, List.setIfInBounds_toArray, List.set_cons_zero, List.set_cons_succ])
     refine' wpAnyH_take (i := 18) (oi := ⟨some 74, _, _, _, _, _⟩) (v := _) rfl (by kernel_rfl) (by kernel_rfl) (by kernel_rfl) (fun _ _ _ h => h) (Or.inl ⟨by kernel_rfl, ?hyqa7⟩) (by assumption) ?restqa7
     case hyqa7 => (intro wx hSw; (try dsimp only at hSw); obtain ⟨⟨k3⟩⟩ := HK3.out _ hSw; go_simp; first | done | with_reducible rfl)
     (try simp only [Act.put, List.setIfInBounds_toArray, List.set_cons_zero, List.set_cons_succ])
     refine wpAnyH_take (i := 19) (oi := ⟨some 75, _, _, _, _, _⟩) rfl (by kernel_rfl) (by kernel_rfl) (by kernel_rfl) (fun _ _ _ h => h) (yieldsIf_load_mid (by kernel_rfl) 28 (.tmp 11) rfl (w6.heap.size) 0 rfl [.string aS, .string aH, .int .i64 aP, .bool false] _ HRa.out Tryz.underlying28 rfl sizeO) (by assumption) ?_
     (try simp only [Act.put, List.setIfInBounds_toArray, List.set_cons_zero, List.set_cons_succ])
     refine wpAnyH_take (i := 20) (oi := ⟨some 76, _, _, _, _, _⟩) rfl (by kernel_rfl) (by kernel_rfl) (by kernel_rfl) (fun _ _ _ h => h) (yieldsIf_load_mid (by kernel_rfl) 28 (.tmp 12) rfl (w7.heap.size) 0 rfl [.string bS, .string bH, .int .i64 bP, .bool bQ] _ HRb.out Tryz.underlying28 rfl sizeO) (by assumption) ?_
     (try simp only [Act.put, List.setIfInBounds_toArray, List.set_cons_zero, List.set_cons_succ])
     refine wpAnyH_take (i := 22) (oi := ⟨some 78, _, _, _, _, _⟩) rfl (by kernel_rfl) (by kernel_rfl) (by kernel_rfl) (fun _ _ _ h => h) (yieldsIf_load_mid (by kernel_rfl) 28 (.tmp 12) rfl (w7.heap.size) 0 rfl [.string bS, .string bH, .int .i64 bP, .bool bQ] _ HRb.out Tryz.underlying28 rfl sizeO) (by assumption) ?_
     (try simp only [Act.put, List.setIfInBounds_toArray, List.set_cons_zero, List.set_cons_succ])
     refine wpAnyH_take (i := 23) (oi := ⟨some 79, _, _, _, _, _⟩) rfl (by kernel_rfl) (by kernel_rfl) (by kernel_rfl) (fun _ _ _ h => h) (yieldsIf_load_mid (by kernel_rfl) 28 (.tmp 11) rfl (w6.heap.size) 0 rfl [.string aS, .string aH, .int .i64 aP, .bool false] _ HRa.out Tryz.underlying28 rfl sizeO) (by assumption) ?_
     (try simp only [Act.put, List.setIfInBounds_toArray, List.set_cons_zero, List.set_cons_succ])
     refine wpAnyH_ready (rs := [21]) (by kernel_rfl) (by simp) ?_
     refine AllReadyH.cons rfl (fun K9 hK => ?_) AllReadyH.nil
     rw [if_pos (by kernel_rfl)]
     go_simp
     go_wp2_with (go_at_call 37; refine (HN1.out _ HQ14.out).mono ?_; rintro e w15 ⟨rfl, hba⟩)
     have HQ15 := hid (below2 HQ14.out hba)
     clear hba
     refine hK.out _ _ HQ15.out (fun hHeld2 => ?_)
     clear hK K9 hHeld
     rename _ => hHeld
     refine wpAnyH_ready (rs := [24]) (by kernel_rfl) (by simp) ?_
     refine AllReadyH.cons rfl (fun K9 hK => ?_) AllReadyH.nil
     rw [if_pos (by kernel_rfl)]
     go_simp
     go_wp2_with (go_at_call 37; refine (HN2.out _ HQ15.out).mono ?_; rintro e w16 ⟨rfl, hba⟩)
     have HQ16 := hid (below2 HQ15.out hba)
     clear hba
     refine hK.out _ _ HQ16.out (fun hHeld2 => ?_)
     clear hK K9 hHeld
     rename _ => hHeld
     refine' wpAnyH_take (i := 25) (oi := ⟨some 81, _, _, _, _, _⟩) (v := _) rfl (by kernel_rfl) (by kernel_rfl) (by kernel_rfl) (fun _ _ _ h => h) (Or.inl ⟨by kernel_rfl, ?hyqa8⟩) (by assumption) ?restqa8
     case hyqa8 => (intro wx hSw; (try dsimp only at hSw); obtain ⟨⟨k3⟩⟩ := HK3.out _ hSw; go_simp; first | done | with_reducible rfl)
     (try simp only [Act.put, List.setIfInBounds_toArray, List.set_cons_zero, List.set_cons_succ])
     refine' wpAnyH_take (i := 26) (oi := ⟨some 82, _, _, _, _, _⟩) (v := _) rfl (by kernel_rfl) (by kernel_rfl) (by kernel_rfl) (fun _ _ _ h => h) (Or.inl ⟨by kernel_rfl, ?hyqa9⟩) (by assumption) ?restqa9
     case hyqa9 => (intro wx hSw; (try dsimp only at hSw); obtain ⟨⟨k3⟩⟩ := HK3.out _ hSw; go_simp; first | done | with_reducible rfl)
     (try simp only [Act.put, List.setIfInBounds_toArray, List.set_cons_zero, List.set_cons_succ])
     refine' wpAnyH_take (i := 27) (oi := ⟨some 83, _, _, _, _, _⟩) (v := _) rfl (by kernel_rfl) (by kernel_rfl) (by kernel_rfl) (fun _ _ _ h => h) (Or.inl ⟨by kernel_rfl, ?hyqa10⟩) (by assumption) ?restqa10
     case hyqa10 => (intro wx hSw; (try dsimp only at hSw); obtain ⟨⟨k3⟩⟩ := HK3.out _ hSw; go_simp; first | done | with_reducible rfl)
     (try simp only [Act.put, List.setIfInBounds_toArray, List.set_cons_zero, List.set_cons_succ])
     refine wpAnyH_take (i := 28) (oi := ⟨some 84, _, _, _, _, _⟩) rfl (by kernel_rfl) (by kernel_rfl) (by kernel_rfl) (fun _ _ _ h => h) (yieldsIf_load_mid (by kernel_rfl) 28 (.tmp 11) rfl (w6.heap.size) 0 rfl [.string aS, .string aH, .int .i64 aP, .bool false] _ HRa.out Tryz.underlying28 rfl sizeO) (by assumption) ?_
     (try simp only [Act.put, List.setIfInBounds_toArray, List.set_cons_zero, List.set_cons_succ])
     refine wpAnyH_take (i := 29) (oi := ⟨some 85, _, _, _, _, _⟩) rfl (by kernel_rfl) (by kernel_rfl) (by kernel_rfl) (fun _ _ _ h => h) (yieldsIf_load_mid (by kernel_rfl) 28 (.tmp 11) rfl (w6.heap.size) 0 rfl [.string aS, .string aH, .int .i64 aP, .bool false] _ HRa.out Tryz.underlying28 rfl sizeO) (by assumption) ?_
     (try simp only [Act.put, List.setIfInBounds_toArray, List.set_cons_zero, List.set_cons_succ])
     refine wpAnyH_ready (rs := [30]) (by kernel_rfl) (by simp) ?_
     refine AllReadyH.cons rfl (fun K9 hK => ?_) AllReadyH.nil
     rw [if_pos (by kernel_rfl)]
     go_simp
     go_wp2_with (go_at_call 36; refine (HM3.out _ HQ16.out).mono ?_; rintro e w17 ⟨rfl, hba⟩)
     have HQ17 := hid (below2 HQ16.out hba)
     clear hba
     refine hK.out _ _ HQ17.out (fun hHeld2 => ?_)
     clear hK K9 hHeld
     rename _ => hHeld
     refine' wpAnyH_take (i := 31) (oi := ⟨some 87, _, _, _, _, _⟩) (v := _) rfl (by kernel_rfl) (by kernel_rfl) (by kernel_rfl) (fun _ _ _ h => h) (Or.inl ⟨by kernel_rfl, ?hyqa11⟩) (by assumption) ?restqa11
     case hyqa11 => (intro wx hSw; (try dsimp only at hSw); obtain ⟨⟨k3⟩⟩ := HK3.out _ hSw; go_simp; first | done | with_reducible rfl)
     (try simp only [Act.put, List.setIfInBounds_toArray, List.set_cons_zero, List.set_cons_succ])
     refine wpAnyH_take (i := 32) (oi := ⟨some 88, _, _, _, _, _⟩) (v := undef) rfl (by kernel_rfl) (by kernel_rfl) (by kernel_rfl) (fun _ _ _ h => h) (Or.inr ⟨by kernel_rfl, by kernel_rfl⟩) (by assumption) ?_
     (try simp only [Act.put, List.setIfInBounds_toArray, List.set_cons_zero, List.set_cons_succ])
     refine wpAnyH_take (i := 33) (oi := ⟨some 89, _, _, _, _, _⟩) (v := undef) rfl (by kernel_rfl) (by kernel_rfl) (by kernel_rfl) (fun _ _ _ h => h) (Or.inr ⟨by kernel_rfl, by kernel_rfl⟩) (by assumption) ?_
     (try simp only [Act.put, List.setIfInBounds_toArray, List.set_cons_zero, List.set_cons_succ])
     refine' wpAnyH_take (i := 34) (oi := ⟨some 90, _, _, _, _, _⟩) (v := _) rfl (by kernel_rfl) (by kernel_rfl) (by kernel_rfl) (fun _ _ _ h => h) (Or.inl ⟨by kernel_rfl, ?hyqa12⟩) (by assumption) ?restqa12
     case hyqa12 => (intro wx hSw; (try dsimp only at hSw); obtain ⟨⟨k3⟩⟩ := HK3.out _ hSw; go_simp; first | done | with_reducible rfl)
     (try simp only [Act.put, List.setIfInBounds_toArray, List.set_cons_zero, List.set_cons_succ])
     refine' wpAnyH_take (i := 35) (oi := ⟨some 91, _, _, _, _, _⟩) (v := _) rfl (by kernel_rfl) (by kernel_rfl) (by kernel_rfl) (fun _ _ _ h => h) (Or.inl ⟨by kernel_rfl, ?hyqa13⟩) (by assumption) ?restqa13
     case hyqa13 => (intro wx hSw; (try dsimp only at hSw); obtain ⟨⟨k3⟩⟩ := HK3.out _ hSw; go_simp; first | done | with_reducible rfl)
     (try simp only [Act.put, List.setIfInBounds_toArray, List.set_cons_zero, List.set_cons_succ])
     refine' wpAnyH_take (i := 36) (oi := ⟨some 92, _, _, _, _, _⟩) (v := _) rfl (by kernel_rfl) (by kernel_rfl) (by kernel_rfl) (fun _ _ _ h => h) (Or.inl ⟨by kernel_rfl, ?hyqa14⟩) (by assumption) ?restqa14
     case hyqa14 => (intro wx hSw; (try dsimp only at hSw); obtain ⟨⟨k3⟩⟩ := HK3.out _ hSw; go_simp; first | done | with_reducible rfl)
     (try simp only [Act.put, List.setIfInBounds_toArray, List.set_cons_zero, List.set_cons_succ])
     refine wpAnyH_ready (rs := [37]) (by kernel_rfl) (by simp) ?_
     refine AllReadyH.cons rfl (fun K9 hK => ?_) AllReadyH.nil
     rw [if_pos (by kernel_rfl)]
     go_simp
     go_wp2_with (go_at_call 33; refine (HKn.out _ HQ17.out).mono ?_; rintro e w18 ⟨rfl, hba⟩)
     have HQ18 := hid (below2 HQ17.out hba)
     clear hba
     refine hK.out _ _ HQ18.out (fun hHeld2 => ?_)
     clear hK K9 hHeld
     rename _ => hHeld
     refine' wpAnyH_take (i := 38) (oi := ⟨some 94, _, _, _, _, _⟩) (v := _) rfl (by kernel_rfl) (by kernel_rfl) (by kernel_rfl) (fun _ _ _ h => h) (Or.inl ⟨by kernel_rfl, ?hyqa15⟩) (by assumption) ?restqa15
     case hyqa15 => (intro wx hSw; (try dsimp only at hSw); obtain ⟨⟨k3⟩⟩ := HK3.out _ hSw; go_simp; first | done | with_reducible rfl)
     (try simp only [Act.put, List.setIfInBounds_toArray, List.set_cons_zero, List.set_cons_succ])
     refine' wpAnyH_take (i := 39) (oi := ⟨some 6, _, _, _, _, _⟩) (v := _) rfl (by kernel_rfl) (by kernel_rfl) (by kernel_rfl) (fun _ _ _ h => h) (Or.inl ⟨by kernel_rfl, ?hyqa16⟩) (by assumption) ?restqa16
     case hyqa16 => (intro wx hSw; (try dsimp only at hSw); obtain ⟨⟨k3⟩⟩ := HK3.out _ hSw; go_simp; first | done | with_reducible rfl)
     (try simp only [Act.put, List.setIfInBounds_toArray, List.set_cons_zero, List.set_cons_succ])
     refine wpAnyH_done (by kernel_rfl) ?_ _
     go_wp2
     go_ret
     exact ⟨rfl, below2 HB8.out HQ18.out⟩
    | false =>
     cases aQ with
     | true =>
      go_upto_region 14 with fail
      refine wp_region_held_drew (S := (fun wx => Below W8.heap.size W8 wx)) (by kernel_rfl) HQ0.out (fun hHeld => ?_)
      refine wpAnyH_to (fuel' := 40) (listed' := #[false, false, false, false, false, false, false, false, false, false, false, false, false, false, false, false, false, false, false, false, false, false, false, false, false, false, false, false, false, false, false, false, false, false, false, false, false, false, false, false]) rfl rfl ?_
      refine wpAnyH_take (i := 0) (oi := ⟨some 56, _, _, _, _, _⟩) rfl (by kernel_rfl) (by kernel_rfl) (by kernel_rfl) (fun _ _ _ h => h) (yieldsIf_load_mid (by kernel_rfl) 28 (.tmp 11) rfl (w6.heap.size) 0 rfl [.string aS, .string aH, .int .i64 aP, .bool true] _ HRa.out Tryz.underlying28 rfl sizeO) (by assumption) ?_
      (try simp only [Act.put, List.setIfInBounds_toArray, List.set_cons_zero, List.set_cons_succ])
      refine wpAnyH_take (i := 1) (oi := ⟨some 57, _, _, _, _, _⟩) rfl (by kernel_rfl) (by kernel_rfl) (by kernel_rfl) (fun _ _ _ h => h) (yieldsIf_load_mid (by kernel_rfl) 28 (.tmp 12) rfl (w7.heap.size) 0 rfl [.string bS, .string bH, .int .i64 bP, .bool bQ] _ HRb.out Tryz.underlying28 rfl sizeO) (by assumption) ?_
      (try simp only [Act.put, List.setIfInBounds_toArray, List.set_cons_zero, List.set_cons_succ])
      refine wpAnyH_take (i := 3) (oi := ⟨some 59, _, _, _, _, _⟩) rfl (by kernel_rfl) (by kernel_rfl) (by kernel_rfl) (fun _ _ _ h => h) (yieldsIf_load_mid (by kernel_rfl) 28 (.tmp 12) rfl (w7.heap.size) 0 rfl [.string bS, .string bH, .int .i64 bP, .bool bQ] _ HRb.out Tryz.underlying28 rfl sizeO) (by assumption) ?_
      (try simp only [Act.put, List.setIfInBounds_toArray, List.set_cons_zero, List.set_cons_succ])
      refine wpAnyH_take (i := 4) (oi := ⟨some 60, _, _, _, _, _⟩) rfl (by kernel_rfl) (by kernel_rfl) (by kernel_rfl) (fun _ _ _ h => h) (yieldsIf_load_mid (by kernel_rfl) 28 (.tmp 11) rfl (w6.heap.size) 0 rfl [.string aS, .string aH, .int .i64 aP, .bool true] _ HRa.out Tryz.underlying28 rfl sizeO) (by assumption) ?_
      (try simp only [Act.put, List.setIfInBounds_toArray, List.set_cons_zero, List.set_cons_succ])
      refine wpAnyH_ready (rs := [2]) (by kernel_rfl) (by simp) ?_
      refine AllReadyH.cons rfl (fun K9 hK => ?_) AllReadyH.nil
      rw [if_pos (by kernel_rfl)]
      go_simp
      go_wp2_with (go_at_call 36; refine (HM1.out _ HQ0.out).mono ?_; rintro e w11 ⟨rfl, hba⟩)
      have HQ11 := hid (below2 HQ0.out hba)
      clear hba
      refine hK.out _ _ HQ11.out (fun hHeld2 => ?_)
      clear hK K9 hHeld
      rename _ => hHeld
      refine wpAnyH_ready (rs := [5]) (by kernel_rfl) (by simp) ?_
      refine AllReadyH.cons rfl (fun K9 hK => ?_) AllReadyH.nil
      rw [if_pos (by kernel_rfl)]
      go_simp
      go_wp2_with (go_at_call 36; refine (HM2.out _ HQ11.out).mono ?_; rintro e w12 ⟨rfl, hba⟩)
      have HQ12 := hid (below2 HQ11.out hba)
      clear hba
      refine hK.out _ _ HQ12.out (fun hHeld2 => ?_)
      clear hK K9 hHeld
      rename _ => hHeld
      refine' wpAnyH_take (i := 6) (oi := ⟨some 62, _, _, _, _, _⟩) (v := _) rfl (by kernel_rfl) (by kernel_rfl) (by kernel_rfl) (fun _ _ _ h => h) (Or.inl ⟨by kernel_rfl, ?hyqb1⟩) (by assumption) ?restqb1
      case hyqb1 => (intro wx hSw; (try dsimp only at hSw); obtain ⟨⟨k3⟩⟩ := HK3.out _ hSw; go_simp; first | done | with_reducible rfl)
      (try simp only [Act.put, List.setIfInBounds_toArray, List.set_cons_zero, List.set_cons_succ])
      refine' wpAnyH_take (i := 7) (oi := ⟨some 63, _, _, _, _, _⟩) (v := _) rfl (by kernel_rfl) (by kernel_rfl) (by kernel_rfl) (fun _ _ _ h => h) (Or.inl ⟨by kernel_rfl, ?hyqb2⟩) (by assumption) ?restqb2
      case hyqb2 => (intro wx hSw; (try dsimp only at hSw); obtain ⟨⟨k3⟩⟩ := HK3.out _ hSw; go_simp; first | done | with_reducible rfl)
      (try simp only [Act.put, List.setIfInBounds_toArray, List.set_cons_zero, List.set_cons_succ])
      refine wpAnyH_take (i := 8) (oi := ⟨some 64, _, _, _, _, _⟩) rfl (by kernel_rfl) (by kernel_rfl) (by kernel_rfl) (fun _ _ _ h => h) (yieldsIf_load_mid (by kernel_rfl) 28 (.tmp 11) rfl (w6.heap.size) 0 rfl [.string aS, .string aH, .int .i64 aP, .bool true] _ HRa.out Tryz.underlying28 rfl sizeO) (by assumption) ?_
      (try simp only [Act.put, List.setIfInBounds_toArray, List.set_cons_zero, List.set_cons_succ])
      refine wpAnyH_take (i := 9) (oi := ⟨some 65, _, _, _, _, _⟩) rfl (by kernel_rfl) (by kernel_rfl) (by kernel_rfl) (fun _ _ _ h => h) (yieldsIf_load_mid (by kernel_rfl) 28 (.tmp 12) rfl (w7.heap.size) 0 rfl [.string bS, .string bH, .int .i64 bP, .bool bQ] _ HRb.out Tryz.underlying28 rfl sizeO) (by assumption) ?_
      (try simp only [Act.put, List.setIfInBounds_toArray, List.set_cons_zero, List.set_cons_succ])
      refine wpAnyH_ready (rs := [10]) (by kernel_rfl) (by simp) ?_
      refine AllReadyH.cons rfl (fun K9 hK => ?_) AllReadyH.nil
      rw [if_pos (by kernel_rfl)]
      go_simp
      go_wp2_with (go_at_call 36; refine (HM1.out _ HQ12.out).mono ?_; rintro e w13 ⟨rfl, hba⟩)
      have HQ13 := hid (below2 HQ12.out hba)
      clear hba
      refine hK.out _ _ HQ13.out (fun hHeld2 => ?_)
      clear hK K9 hHeld
      rename _ => hHeld
      refine' wpAnyH_take (i := 11) (oi := ⟨some 67, _, _, _, _, _⟩) (v := _) rfl (by kernel_rfl) (by kernel_rfl) (by kernel_rfl) (fun _ _ _ h => h) (Or.inl ⟨by kernel_rfl, ?hyqb3⟩) (by assumption) ?restqb3
      case hyqb3 => (intro wx hSw; (try dsimp only at hSw); obtain ⟨⟨k3⟩⟩ := HK3.out _ hSw; go_simp; first | done | with_reducible rfl)
      (try simp only [Act.put, List.setIfInBounds_toArray, List.set_cons_zero, List.set_cons_succ])
      refine' wpAnyH_take (i := 12) (oi := ⟨some 68, _, _, _, _, _⟩) (v := _) rfl (by kernel_rfl) (by kernel_rfl) (by kernel_rfl) (fun _ _ _ h => h) (Or.inl ⟨by kernel_rfl, ?hyqb4⟩) (by assumption) ?restqb4
      case hyqb4 => (intro wx hSw; (try dsimp only at hSw); obtain ⟨⟨k3⟩⟩ := HK3.out _ hSw; go_simp; first | done | with_reducible rfl)
      (try simp only [Act.put, List.setIfInBounds_toArray, List.set_cons_zero, List.set_cons_succ])
      refine wpAnyH_take (i := 13) (oi := ⟨some 69, _, _, _, _, _⟩) (v := undef) rfl (by kernel_rfl) (by kernel_rfl) (by kernel_rfl) (fun _ _ _ h => h) (Or.inr ⟨by kernel_rfl, by kernel_rfl⟩) (by assumption) ?_
      (try simp only [Act.put, List.setIfInBounds_toArray, List.set_cons_zero, List.set_cons_succ])
      refine wpAnyH_take (i := 14) (oi := ⟨some 70, _, _, _, _, _⟩) (v := undef) rfl (by kernel_rfl) (by kernel_rfl) (by kernel_rfl) (fun _ _ _ h => h) (Or.inr ⟨by kernel_rfl, by kernel_rfl⟩) (by assumption) ?_
      (try simp only [Act.put, List.setIfInBounds_toArray, List.set_cons_zero, List.set_cons_succ])
      refine wpAnyH_take (i := 15) (oi := ⟨some 71, _, _, _, _, _⟩) (v := undef) rfl (by kernel_rfl) (by kernel_rfl) (by kernel_rfl) (fun _ _ _ h => h) (Or.inr ⟨by kernel_rfl, by kernel_rfl⟩) (by assumption) ?_
      (try simp only [Act.put, List.setIfInBounds_toArray, List.set_cons_zero, List.set_cons_succ])
      refine' wpAnyH_take (i := 16) (oi := ⟨some 72, _, _, _, _, _⟩) (v := _) rfl (by kernel_rfl) (by kernel_rfl) (by kernel_rfl) (fun _ _ _ h => h) (Or.inl ⟨by kernel_rfl, ?hyqb5⟩) (by assumption) ?restqb5
      case hyqb5 => (intro wx hSw; (try dsimp only at hSw); obtain ⟨⟨k3⟩⟩ := HK3.out _ hSw; go_simp; first | done | with_reducible rfl)
      (try simp only [Act.put, List.setIfInBounds_toArray, List.set_cons_zero, List.set_cons_succ])
      refine' wpAnyH_take (i := 17) (oi := ⟨some 73, _, _, _, _, _⟩) (v := _) rfl (by kernel_rfl) (by kernel_rfl) (by kernel_rfl) (fun _ _ _ h => h) (Or.inl ⟨by kernel_rfl, ?hyqb6⟩) (by assumption) ?restqb6
      case hyqb6 => (intro wx hSw; (try dsimp only at hSw); obtain ⟨⟨k3⟩⟩ := HK3.out _ hSw; go_simp; first | done | with_reducible rfl)
      (try simp only [Act.put, List.setIfInBounds_toArray, List.set_cons_zero, List.set_cons_succ])
      refine' wpAnyH_take (i := 18) (oi := ⟨some 74, _, _, _, _, _⟩) (v := _) rfl (by kernel_rfl) (by kernel_rfl) (by kernel_rfl) (fun _ _ _ h => h) (Or.inl ⟨by kernel_rfl, ?hyqb7⟩) (by assumption) ?restqb7
      case hyqb7 => (intro wx hSw; (try dsimp only at hSw); obtain ⟨⟨k3⟩⟩ := HK3.out _ hSw; go_simp; first | done | with_reducible rfl)
      (try simp only [Act.put, List.setIfInBounds_toArray, List.set_cons_zero, List.set_cons_succ])
      refine wpAnyH_take (i := 19) (oi := ⟨some 75, _, _, _, _, _⟩) rfl (by kernel_rfl) (by kernel_rfl) (by kernel_rfl) (fun _ _ _ h => h) (yieldsIf_load_mid (by kernel_rfl) 28 (.tmp 11) rfl (w6.heap.size) 0 rfl [.string aS, .string aH, .int .i64 aP, .bool true] _ HRa.out Tryz.underlying28 rfl sizeO) (by assumption) ?_
      (try simp only [Act.put, List.setIfInBounds_toArray, List.set_cons_zero, List.set_cons_succ])
      refine wpAnyH_take (i := 20) (oi := ⟨some 76, _, _, _, _, _⟩) rfl (by kernel_rfl) (by kernel_rfl) (by kernel_rfl) (fun _ _ _ h => h) (yieldsIf_load_mid (by kernel_rfl) 28 (.tmp 12) rfl (w7.heap.size) 0 rfl [.string bS, .string bH, .int .i64 bP, .bool bQ] _ HRb.out Tryz.underlying28 rfl sizeO) (by assumption) ?_
      (try simp only [Act.put, List.setIfInBounds_toArray, List.set_cons_zero, List.set_cons_succ])
      refine wpAnyH_take (i := 22) (oi := ⟨some 78, _, _, _, _, _⟩) rfl (by kernel_rfl) (by kernel_rfl) (by kernel_rfl) (fun _ _ _ h => h) (yieldsIf_load_mid (by kernel_rfl) 28 (.tmp 12) rfl (w7.heap.size) 0 rfl [.string bS, .string bH, .int .i64 bP, .bool bQ] _ HRb.out Tryz.underlying28 rfl sizeO) (by assumption) ?_
      (try simp only [Act.put, List.setIfInBounds_toArray, List.set_cons_zero, List.set_cons_succ])
      refine wpAnyH_take (i := 23) (oi := ⟨some 79, _, _, _, _, _⟩) rfl (by kernel_rfl) (by kernel_rfl) (by kernel_rfl) (fun _ _ _ h => h) (yieldsIf_load_mid (by kernel_rfl) 28 (.tmp 11) rfl (w6.heap.size) 0 rfl [.string aS, .string aH, .int .i64 aP, .bool true] _ HRa.out Tryz.underlying28 rfl sizeO) (by assumption) ?_
      (try simp only [Act.put, List.setIfInBounds_toArray, List.set_cons_zero, List.set_cons_succ])
      refine wpAnyH_ready (rs := [21]) (by kernel_rfl) (by simp) ?_
      refine AllReadyH.cons rfl (fun K9 hK => ?_) AllReadyH.nil
      rw [if_pos (by kernel_rfl)]
      go_simp
      go_wp2_with (go_at_call 37; refine (HN1.out _ HQ13.out).mono ?_; rintro e w15 ⟨rfl, hba⟩)
      have HQ15 := hid (below2 HQ13.out hba)
      clear hba
      refine hK.out _ _ HQ15.out (fun hHeld2 => ?_)
      clear hK K9 hHeld
      rename _ => hHeld
      refine wpAnyH_ready (rs := [24]) (by kernel_rfl) (by simp) ?_
      refine AllReadyH.cons rfl (fun K9 hK => ?_) AllReadyH.nil
      rw [if_pos (by kernel_rfl)]
      go_simp
      go_wp2_with (go_at_call 37; refine (HN2.out _ HQ15.out).mono ?_; rintro e w16 ⟨rfl, hba⟩)
      have HQ16 := hid (below2 HQ15.out hba)
      clear hba
      refine hK.out _ _ HQ16.out (fun hHeld2 => ?_)
      clear hK K9 hHeld
      rename _ => hHeld
      refine' wpAnyH_take (i := 25) (oi := ⟨some 81, _, _, _, _, _⟩) (v := _) rfl (by kernel_rfl) (by kernel_rfl) (by kernel_rfl) (fun _ _ _ h => h) (Or.inl ⟨by kernel_rfl, ?hyqb8⟩) (by assumption) ?restqb8
      case hyqb8 => (intro wx hSw; (try dsimp only at hSw); obtain ⟨⟨k3⟩⟩ := HK3.out _ hSw; go_simp; first | done | with_reducible rfl)
      (try simp only [Act.put, List.setIfInBounds_toArray, List.set_cons_zero, List.set_cons_succ])
      refine' wpAnyH_take (i := 26) (oi := ⟨some 82, _, _, _, _, _⟩) (v := _) rfl (by kernel_rfl) (by kernel_rfl) (by kernel_rfl) (fun _ _ _ h => h) (Or.inl ⟨by kernel_rfl, ?hyqb9⟩) (by assumption) ?restqb9
      case hyqb9 => (intro wx hSw; (try dsimp only at hSw); obtain ⟨⟨k3⟩⟩ := HK3.out _ hSw; go_simp; first | done | with_reducible rfl)
      (try simp only [Act.put, List.setIfInBounds_toArray, List.set_cons_zero, List.set_cons_succ])
      refine' wpAnyH_take (i := 27) (oi := ⟨some 83, _, _, _, _, _⟩) (v := _) rfl (by kernel_rfl) (by kernel_rfl) (by kernel_rfl) (fun _ _ _ h => h) (Or.inl ⟨by kernel_rfl, ?hyqb10⟩) (by assumption) ?restqb10
      case hyqb10 => (intro wx hSw; (try dsimp only at hSw); obtain ⟨⟨k3⟩⟩ := HK3.out _ hSw; go_simp; first | done | with_reducible rfl)
      (try simp only [Act.put, List.setIfInBounds_toArray, List.set_cons_zero, List.set_cons_succ])
      refine wpAnyH_take (i := 28) (oi := ⟨some 84, _, _, _, _, _⟩) rfl (by kernel_rfl) (by kernel_rfl) (by kernel_rfl) (fun _ _ _ h => h) (yieldsIf_load_mid (by kernel_rfl) 28 (.tmp 11) rfl (w6.heap.size) 0 rfl [.string aS, .string aH, .int .i64 aP, .bool true] _ HRa.out Tryz.underlying28 rfl sizeO) (by assumption) ?_
      (try simp only [Act.put, List.setIfInBounds_toArray, List.set_cons_zero, List.set_cons_succ])
      refine wpAnyH_take (i := 29) (oi := ⟨some 85, _, _, _, _, _⟩) rfl (by kernel_rfl) (by kernel_rfl) (by kernel_rfl) (fun _ _ _ h => h) (yieldsIf_load_mid (by kernel_rfl) 28 (.tmp 11) rfl (w6.heap.size) 0 rfl [.string aS, .string aH, .int .i64 aP, .bool true] _ HRa.out Tryz.underlying28 rfl sizeO) (by assumption) ?_
      (try simp only [Act.put, List.setIfInBounds_toArray, List.set_cons_zero, List.set_cons_succ])
      refine wpAnyH_ready (rs := [30]) (by kernel_rfl) (by simp) ?_
      refine AllReadyH.cons rfl (fun K9 hK => ?_) AllReadyH.nil
      rw [if_pos (by kernel_rfl)]
      go_simp
      go_wp2_with (go_at_call 36; refine (HM3.out _ HQ16.out).mono ?_; rintro e w17 ⟨rfl, hba⟩)
      have HQ17 := hid (below2 HQ16.out hba)
      clear hba
      refine hK.out _ _ HQ17.out (fun hHeld2 => ?_)
      clear hK K9 hHeld
      rename _ => hHeld
      refine' wpAnyH_take (i := 31) (oi := ⟨some 87, _, _, _, _, _⟩) (v := _) rfl (by kernel_rfl) (by kernel_rfl) (by kernel_rfl) (fun _ _ _ h => h) (Or.inl ⟨by kernel_rfl, ?hyqb11⟩) (by assumption) ?restqb11
      case hyqb11 => (intro wx hSw; (try dsimp only at hSw); obtain ⟨⟨k3⟩⟩ := HK3.out _ hSw; go_simp; first | done | with_reducible rfl)
      (try simp only [Act.put, List.setIfInBounds_toArray, List.set_cons_zero, List.set_cons_succ])
      refine' wpAnyH_take (i := 32) (oi := ⟨some 88, _, _, _, _, _⟩) (v := _) rfl (by kernel_rfl) (by kernel_rfl) (by kernel_rfl) (fun _ _ _ h => h) (Or.inl ⟨by kernel_rfl, ?hyqb12⟩) (by assumption) ?restqb12
      case hyqb12 => (intro wx hSw; (try dsimp only at hSw); obtain ⟨⟨k3⟩⟩ := HK3.out _ hSw; go_simp; first | done | with_reducible rfl)
      (try simp only [Act.put, List.setIfInBounds_toArray, List.set_cons_zero, List.set_cons_succ])
      refine' wpAnyH_take (i := 33) (oi := ⟨some 89, _, _, _, _, _⟩) (v := _) rfl (by kernel_rfl) (by kernel_rfl) (by kernel_rfl) (fun _ _ _ h => h) (Or.inl ⟨by kernel_rfl, ?hyqb13⟩) (by assumption) ?restqb13
      case hyqb13 => (intro wx hSw; (try dsimp only at hSw); obtain ⟨⟨k3⟩⟩ := HK3.out _ hSw; go_simp; first | done | with_reducible rfl)
      (try simp only [Act.put, List.setIfInBounds_toArray, List.set_cons_zero, List.set_cons_succ])
      refine' wpAnyH_take (i := 34) (oi := ⟨some 90, _, _, _, _, _⟩) (v := _) rfl (by kernel_rfl) (by kernel_rfl) (by kernel_rfl) (fun _ _ _ h => h) (Or.inl ⟨by kernel_rfl, ?hyqb14⟩) (by assumption) ?restqb14
      case hyqb14 => (intro wx hSw; (try dsimp only at hSw); obtain ⟨⟨k3⟩⟩ := HK3.out _ hSw; go_simp; first | done | with_reducible rfl)
      (try simp only [Act.put, List.setIfInBounds_toArray, List.set_cons_zero, List.set_cons_succ])
      refine' wpAnyH_take (i := 35) (oi := ⟨some 91, _, _, _, _, _⟩) (v := _) rfl (by kernel_rfl) (by kernel_rfl) (by kernel_rfl) (fun _ _ _ h => h) (Or.inl ⟨by kernel_rfl, ?hyqb15⟩) (by assumption) ?restqb15
      case hyqb15 => (intro wx hSw; (try dsimp only at hSw); obtain ⟨⟨k3⟩⟩ := HK3.out _ hSw; go_simp; first | done | with_reducible rfl)
      (try simp only [Act.put, List.setIfInBounds_toArray, List.set_cons_zero, List.set_cons_succ])
      refine' wpAnyH_take (i := 36) (oi := ⟨some 92, _, _, _, _, _⟩) (v := _) rfl (by kernel_rfl) (by kernel_rfl) (by kernel_rfl) (fun _ _ _ h => h) (Or.inl ⟨by kernel_rfl, ?hyqb16⟩) (by assumption) ?restqb16
      case hyqb16 => (intro wx hSw; (try dsimp only at hSw); obtain ⟨⟨k3⟩⟩ := HK3.out _ hSw; go_simp; first | done | with_reducible rfl)
      (try simp only [Act.put, List.setIfInBounds_toArray, List.set_cons_zero, List.set_cons_succ])
      refine wpAnyH_ready (rs := [37]) (by kernel_rfl) (by simp) ?_
      refine AllReadyH.cons rfl (fun K9 hK => ?_) AllReadyH.nil
      rw [if_pos (by kernel_rfl)]
      go_simp
      go_wp2_with (go_at_call 33; refine (HKn.out _ HQ17.out).mono ?_; rintro e w18 ⟨rfl, hba⟩)
      have HQ18 := hid (below2 HQ17.out hba)
      clear hba
      refine hK.out _ _ HQ18.out (fun hHeld2 => ?_)
      clear hK K9 hHeld
      rename _ => hHeld
      refine' wpAnyH_take (i := 38) (oi := ⟨some 94, _, _, _, _, _⟩) (v := _) rfl (by kernel_rfl) (by kernel_rfl) (by kernel_rfl) (fun _ _ _ h => h) (Or.inl ⟨by kernel_rfl, ?hyqb17⟩) (by assumption) ?restqb17
      case hyqb17 => (intro wx hSw; (try dsimp only at hSw); obtain ⟨⟨k3⟩⟩ := HK3.out _ hSw; go_simp; first | done | with_reducible rfl)
      (try simp only [Act.put, List.setIfInBounds_toArray, List.set_cons_zero, List.set_cons_succ])
      refine' wpAnyH_take (i := 39) (oi := ⟨some 6, _, _, _, _, _⟩) (v := _) rfl (by kernel_rfl) (by kernel_rfl) (by kernel_rfl) (fun _ _ _ h => h) (Or.inl ⟨by kernel_rfl, ?hyqb18⟩) (by assumption) ?restqb18
      case hyqb18 => (intro wx hSw; (try dsimp only at hSw); obtain ⟨⟨k3⟩⟩ := HK3.out _ hSw; go_simp; first | done | with_reducible rfl)
      (try simp only [Act.put, List.setIfInBounds_toArray, List.set_cons_zero, List.set_cons_succ])
      refine wpAnyH_done (by kernel_rfl) ?_ _
      go_wp2
      go_ret
      exact ⟨rfl, below2 HB8.out HQ18.out⟩
     | false =>
      go_upto_region 14 with fail
      refine wp_region_held_drew (S := (fun wx => Below W8.heap.size W8 wx)) (by kernel_rfl) HQ0.out (fun hHeld => ?_)
      refine wpAnyH_to (fuel' := 40) (listed' := #[false, false, false, false, false, false, false, false, false, false, false, false, false, false, false, false, false, false, false, false, false, false, false, false, false, false, false, false, false, false, false, false, false, false, false, false, false, false, false, false]) rfl rfl ?_
      refine wpAnyH_take (i := 0) (oi := ⟨some 56, _, _, _, _, _⟩) rfl (by kernel_rfl) (by kernel_rfl) (by kernel_rfl) (fun _ _ _ h => h) (yieldsIf_load_mid (by kernel_rfl) 28 (.tmp 11) rfl (w6.heap.size) 0 rfl [.string aS, .string aH, .int .i64 aP, .bool false] _ HRa.out Tryz.underlying28 rfl sizeO) (by assumption) ?_
      (try simp only [Act.put, List.setIfInBounds_toArray, List.set_cons_zero, List.set_cons_succ])
      refine wpAnyH_take (i := 1) (oi := ⟨some 57, _, _, _, _, _⟩) rfl (by kernel_rfl) (by kernel_rfl) (by kernel_rfl) (fun _ _ _ h => h) (yieldsIf_load_mid (by kernel_rfl) 28 (.tmp 12) rfl (w7.heap.size) 0 rfl [.string bS, .string bH, .int .i64 bP, .bool bQ] _ HRb.out Tryz.underlying28 rfl sizeO) (by assumption) ?_
      (try simp only [Act.put, List.setIfInBounds_toArray, List.set_cons_zero, List.set_cons_succ])
      refine wpAnyH_take (i := 3) (oi := ⟨some 59, _, _, _, _, _⟩) rfl (by kernel_rfl) (by kernel_rfl) (by kernel_rfl) (fun _ _ _ h => h) (yieldsIf_load_mid (by kernel_rfl) 28 (.tmp 12) rfl (w7.heap.size) 0 rfl [.string bS, .string bH, .int .i64 bP, .bool bQ] _ HRb.out Tryz.underlying28 rfl sizeO) (by assumption) ?_
      (try simp only [Act.put, List.setIfInBounds_toArray, List.set_cons_zero, List.set_cons_succ])
      refine wpAnyH_take (i := 4) (oi := ⟨some 60, _, _, _, _, _⟩) rfl (by kernel_rfl) (by kernel_rfl) (by kernel_rfl) (fun _ _ _ h => h) (yieldsIf_load_mid (by kernel_rfl) 28 (.tmp 11) rfl (w6.heap.size) 0 rfl [.string aS, .string aH, .int .i64 aP, .bool false] _ HRa.out Tryz.underlying28 rfl sizeO) (by assumption) ?_
      (try simp only [Act.put, List.setIfInBounds_toArray, List.set_cons_zero, List.set_cons_succ])
      refine wpAnyH_ready (rs := [2]) (by kernel_rfl) (by simp) ?_
      refine AllReadyH.cons rfl (fun K9 hK => ?_) AllReadyH.nil
      rw [if_pos (by kernel_rfl)]
      go_simp
      go_wp2_with (go_at_call 36; refine (HM1.out _ HQ0.out).mono ?_; rintro e w11 ⟨rfl, hba⟩)
      have HQ11 := hid (below2 HQ0.out hba)
      clear hba
      refine hK.out _ _ HQ11.out (fun hHeld2 => ?_)
      clear hK K9 hHeld
      rename _ => hHeld
      refine wpAnyH_ready (rs := [5]) (by kernel_rfl) (by simp) ?_
      refine AllReadyH.cons rfl (fun K9 hK => ?_) AllReadyH.nil
      rw [if_pos (by kernel_rfl)]
      go_simp
      go_wp2_with (go_at_call 36; refine (HM2.out _ HQ11.out).mono ?_; rintro e w12 ⟨rfl, hba⟩)
      have HQ12 := hid (below2 HQ11.out hba)
      clear hba
      refine hK.out _ _ HQ12.out (fun hHeld2 => ?_)
      clear hK K9 hHeld
      rename _ => hHeld
      refine' wpAnyH_take (i := 6) (oi := ⟨some 62, _, _, _, _, _⟩) (v := _) rfl (by kernel_rfl) (by kernel_rfl) (by kernel_rfl) (fun _ _ _ h => h) (Or.inl ⟨by kernel_rfl, ?hyqc1⟩) (by assumption) ?restqc1
      case hyqc1 => (intro wx hSw; (try dsimp only at hSw); obtain ⟨⟨k3⟩⟩ := HK3.out _ hSw; go_simp; first | done | with_reducible rfl)
      (try simp only [Act.put, List.setIfInBounds_toArray, List.set_cons_zero, List.set_cons_succ])
      refine' wpAnyH_take (i := 7) (oi := ⟨some 63, _, _, _, _, _⟩) (v := _) rfl (by kernel_rfl) (by kernel_rfl) (by kernel_rfl) (fun _ _ _ h => h) (Or.inl ⟨by kernel_rfl, ?hyqc2⟩) (by assumption) ?restqc2
      case hyqc2 => (intro wx hSw; (try dsimp only at hSw); obtain ⟨⟨k3⟩⟩ := HK3.out _ hSw; go_simp; first | done | with_reducible rfl)
      (try simp only [Act.put, List.setIfInBounds_toArray, List.set_cons_zero, List.set_cons_succ])
      refine wpAnyH_take (i := 8) (oi := ⟨some 64, _, _, _, _, _⟩) rfl (by kernel_rfl) (by kernel_rfl) (by kernel_rfl) (fun _ _ _ h => h) (yieldsIf_load_mid (by kernel_rfl) 28 (.tmp 11) rfl (w6.heap.size) 0 rfl [.string aS, .string aH, .int .i64 aP, .bool false] _ HRa.out Tryz.underlying28 rfl sizeO) (by assumption) ?_
      (try simp only [Act.put, List.setIfInBounds_toArray, List.set_cons_zero, List.set_cons_succ])
      refine wpAnyH_take (i := 9) (oi := ⟨some 65, _, _, _, _, _⟩) rfl (by kernel_rfl) (by kernel_rfl) (by kernel_rfl) (fun _ _ _ h => h) (yieldsIf_load_mid (by kernel_rfl) 28 (.tmp 12) rfl (w7.heap.size) 0 rfl [.string bS, .string bH, .int .i64 bP, .bool bQ] _ HRb.out Tryz.underlying28 rfl sizeO) (by assumption) ?_
      (try simp only [Act.put, List.setIfInBounds_toArray, List.set_cons_zero, List.set_cons_succ])
      refine wpAnyH_ready (rs := [10]) (by kernel_rfl) (by simp) ?_
      refine AllReadyH.cons rfl (fun K9 hK => ?_) AllReadyH.nil
      rw [if_pos (by kernel_rfl)]
      go_simp
      go_wp2_with (go_at_call 36; refine (HM1.out _ HQ12.out).mono ?_; rintro e w13 ⟨rfl, hba⟩)
      have HQ13 := hid (below2 HQ12.out hba)
      clear hba
      refine hK.out _ _ HQ13.out (fun hHeld2 => ?_)
      clear hK K9 hHeld
      rename _ => hHeld
      refine' wpAnyH_take (i := 11) (oi := ⟨some 67, _, _, _, _, _⟩) (v := _) rfl (by kernel_rfl) (by kernel_rfl) (by kernel_rfl) (fun _ _ _ h => h) (Or.inl ⟨by kernel_rfl, ?hyqc3⟩) (by assumption) ?restqc3
      case hyqc3 => (intro wx hSw; (try dsimp only at hSw); obtain ⟨⟨k3⟩⟩ := HK3.out _ hSw; go_simp; first | done | with_reducible rfl)
      (try simp only [Act.put, List.setIfInBounds_toArray, List.set_cons_zero, List.set_cons_succ])
      refine' wpAnyH_take (i := 12) (oi := ⟨some 68, _, _, _, _, _⟩) (v := _) rfl (by kernel_rfl) (by kernel_rfl) (by kernel_rfl) (fun _ _ _ h => h) (Or.inl ⟨by kernel_rfl, ?hyqc4⟩) (by assumption) ?restqc4
      case hyqc4 => (intro wx hSw; (try dsimp only at hSw); obtain ⟨⟨k3⟩⟩ := HK3.out _ hSw; go_simp; first | done | with_reducible rfl)
      (try simp only [Act.put, List.setIfInBounds_toArray, List.set_cons_zero, List.set_cons_succ])
      refine wpAnyH_take (i := 13) (oi := ⟨some 69, _, _, _, _, _⟩) (v := undef) rfl (by kernel_rfl) (by kernel_rfl) (by kernel_rfl) (fun _ _ _ h => h) (Or.inr ⟨by kernel_rfl, by kernel_rfl⟩) (by assumption) ?_
      (try simp only [Act.put, List.setIfInBounds_toArray, List.set_cons_zero, List.set_cons_succ])
      refine wpAnyH_take (i := 14) (oi := ⟨some 70, _, _, _, _, _⟩) (v := undef) rfl (by kernel_rfl) (by kernel_rfl) (by kernel_rfl) (fun _ _ _ h => h) (Or.inr ⟨by kernel_rfl, by kernel_rfl⟩) (by assumption) ?_
      (try simp only [Act.put, List.setIfInBounds_toArray, List.set_cons_zero, List.set_cons_succ])
      refine wpAnyH_take (i := 15) (oi := ⟨some 71, _, _, _, _, _⟩) (v := undef) rfl (by kernel_rfl) (by kernel_rfl) (by kernel_rfl) (fun _ _ _ h => h) (Or.inr ⟨by kernel_rfl, by kernel_rfl⟩) (by assumption) ?_
      (try simp only [Act.put, List.setIfInBounds_toArray, List.set_cons_zero, List.set_cons_succ])
      refine' wpAnyH_take (i := 16) (oi := ⟨some 72, _, _, _, _, _⟩) (v := _) rfl (by kernel_rfl) (by kernel_rfl) (by kernel_rfl) (fun _ _ _ h => h) (Or.inl ⟨by kernel_rfl, ?hyqc5⟩) (by assumption) ?restqc5
      case hyqc5 => (intro wx hSw; (try dsimp only at hSw); obtain ⟨⟨k3⟩⟩ := HK3.out _ hSw; go_simp; first | done | with_reducible rfl)
      (try simp only [Act.put, List.setIfInBounds_toArray, List.set_cons_zero, List.set_cons_succ])
      refine' wpAnyH_take (i := 17) (oi := ⟨some 73, _, _, _, _, _⟩) (v := _) rfl (by kernel_rfl) (by kernel_rfl) (by kernel_rfl) (fun _ _ _ h => h) (Or.inl ⟨by kernel_rfl, ?hyqc6⟩) (by assumption) ?restqc6
      case hyqc6 => (intro wx hSw; (try dsimp only at hSw); obtain ⟨⟨k3⟩⟩ := HK3.out _ hSw; go_simp; first | done | with_reducible rfl)
      (try simp only [Act.put, List.setIfInBounds_toArray, List.set_cons_zero, List.set_cons_succ])
      refine' wpAnyH_take (i := 18) (oi := ⟨some 74, _, _, _, _, _⟩) (v := _) rfl (by kernel_rfl) (by kernel_rfl) (by kernel_rfl) (fun _ _ _ h => h) (Or.inl ⟨by kernel_rfl, ?hyqc7⟩) (by assumption) ?restqc7
      case hyqc7 => (intro wx hSw; (try dsimp only at hSw); obtain ⟨⟨k3⟩⟩ := HK3.out _ hSw; go_simp; first | done | with_reducible rfl)
      (try simp only [Act.put, List.setIfInBounds_toArray, List.set_cons_zero, List.set_cons_succ])
      refine wpAnyH_take (i := 19) (oi := ⟨some 75, _, _, _, _, _⟩) rfl (by kernel_rfl) (by kernel_rfl) (by kernel_rfl) (fun _ _ _ h => h) (yieldsIf_load_mid (by kernel_rfl) 28 (.tmp 11) rfl (w6.heap.size) 0 rfl [.string aS, .string aH, .int .i64 aP, .bool false] _ HRa.out Tryz.underlying28 rfl sizeO) (by assumption) ?_
      (try simp only [Act.put, List.setIfInBounds_toArray, List.set_cons_zero, List.set_cons_succ])
      refine wpAnyH_take (i := 20) (oi := ⟨some 76, _, _, _, _, _⟩) rfl (by kernel_rfl) (by kernel_rfl) (by kernel_rfl) (fun _ _ _ h => h) (yieldsIf_load_mid (by kernel_rfl) 28 (.tmp 12) rfl (w7.heap.size) 0 rfl [.string bS, .string bH, .int .i64 bP, .bool bQ] _ HRb.out Tryz.underlying28 rfl sizeO) (by assumption) ?_
      (try simp only [Act.put, List.setIfInBounds_toArray, List.set_cons_zero, List.set_cons_succ])
      refine wpAnyH_take (i := 22) (oi := ⟨some 78, _, _, _, _, _⟩) rfl (by kernel_rfl) (by kernel_rfl) (by kernel_rfl) (fun _ _ _ h => h) (yieldsIf_load_mid (by kernel_rfl) 28 (.tmp 12) rfl (w7.heap.size) 0 rfl [.string bS, .string bH, .int .i64 bP, .bool bQ] _ HRb.out Tryz.underlying28 rfl sizeO) (by assumption) ?_
      (try simp only [Act.put, List.setIfInBounds_toArray, List.set_cons_zero, List.set_cons_succ])
      refine wpAnyH_take (i := 23) (oi := ⟨some 79, _, _, _, _, _⟩) rfl (by kernel_rfl) (by kernel_rfl) (by kernel_rfl) (fun _ _ _ h => h) (yieldsIf_load_mid (by kernel_rfl) 28 (.tmp 11) rfl (w6.heap.size) 0 rfl [.string aS, .string aH, .int .i64 aP, .bool false] _ HRa.out Tryz.underlying28 rfl sizeO) (by assumption) ?_
      (try simp only [Act.put, List.setIfInBounds_toArray, List.set_cons_zero, List.set_cons_succ])
      refine wpAnyH_ready (rs := [21]) (by kernel_rfl) (by simp) ?_
      refine AllReadyH.cons rfl (fun K9 hK => ?_) AllReadyH.nil
      rw [if_pos (by kernel_rfl)]
      go_simp
      go_wp2_with (go_at_call 37; refine (HN1.out _ HQ13.out).mono ?_; rintro e w15 ⟨rfl, hba⟩)
      have HQ15 := hid (below2 HQ13.out hba)
      clear hba
      refine hK.out _ _ HQ15.out (fun hHeld2 => ?_)
      clear hK K9 hHeld
      rename _ => hHeld
      refine wpAnyH_ready (rs := [24]) (by kernel_rfl) (by simp) ?_
      refine AllReadyH.cons rfl (fun K9 hK => ?_) AllReadyH.nil
      rw [if_pos (by kernel_rfl)]
      go_simp
      go_wp2_with (go_at_call 37; refine (HN2.out _ HQ15.out).mono ?_; rintro e w16 ⟨rfl, hba⟩)
      have HQ16 := hid (below2 HQ15.out hba)
      clear hba
      refine hK.out _ _ HQ16.out (fun hHeld2 => ?_)
      clear hK K9 hHeld
      rename _ => hHeld
      refine' wpAnyH_take (i := 25) (oi := ⟨some 81, _, _, _, _, _⟩) (v := _) rfl (by kernel_rfl) (by kernel_rfl) (by kernel_rfl) (fun _ _ _ h => h) (Or.inl ⟨by kernel_rfl, ?hyqc8⟩) (by assumption) ?restqc8
      case hyqc8 => (intro wx hSw; (try dsimp only at hSw); obtain ⟨⟨k3⟩⟩ := HK3.out _ hSw; go_simp; first | done | with_reducible rfl)
      (try simp only [Act.put, List.setIfInBounds_toArray, List.set_cons_zero, List.set_cons_succ])
      refine' wpAnyH_take (i := 26) (oi := ⟨some 82, _, _, _, _, _⟩) (v := _) rfl (by kernel_rfl) (by kernel_rfl) (by kernel_rfl) (fun _ _ _ h => h) (Or.inl ⟨by kernel_rfl, ?hyqc9⟩) (by assumption) ?restqc9
      case hyqc9 => (intro wx hSw; (try dsimp only at hSw); obtain ⟨⟨k3⟩⟩ := HK3.out _ hSw; go_simp; first | done | with_reducible rfl)
      (try simp only [Act.put, List.setIfInBounds_toArray, List.set_cons_zero, List.set_cons_succ])
      refine' wpAnyH_take (i := 27) (oi := ⟨some 83, _, _, _, _, _⟩) (v := _) rfl (by kernel_rfl) (by kernel_rfl) (by kernel_rfl) (fun _ _ _ h => h) (Or.inl ⟨by kernel_rfl, ?hyqc10⟩) (by assumption) ?restqc10
      case hyqc10 => (intro wx hSw; (try dsimp only at hSw); obtain ⟨⟨k3⟩⟩ := HK3.out _ hSw; go_simp; first | done | with_reducible rfl)
      (try simp only [Act.put, List.setIfInBounds_toArray, List.set_cons_zero, List.set_cons_succ])
      refine wpAnyH_take (i := 28) (oi := ⟨some 84, _, _, _, _, _⟩) rfl (by kernel_rfl) (by kernel_rfl) (by kernel_rfl) (fun _ _ _ h => h) (yieldsIf_load_mid (by kernel_rfl) 28 (.tmp 11) rfl (w6.heap.size) 0 rfl [.string aS, .string aH, .int .i64 aP, .bool false] _ HRa.out Tryz.underlying28 rfl sizeO) (by assumption) ?_
      (try simp only [Act.put, List.setIfInBounds_toArray, List.set_cons_zero, List.set_cons_succ])
      refine wpAnyH_take (i := 29) (oi := ⟨some 85, _, _, _, _, _⟩) rfl (by kernel_rfl) (by kernel_rfl) (by kernel_rfl) (fun _ _ _ h => h) (yieldsIf_load_mid (by kernel_rfl) 28 (.tmp 11) rfl (w6.heap.size) 0 rfl [.string aS, .string aH, .int .i64 aP, .bool false] _ HRa.out Tryz.underlying28 rfl sizeO) (by assumption) ?_
      (try simp only [Act.put, List.setIfInBounds_toArray, List.set_cons_zero, List.set_cons_succ])
      refine wpAnyH_ready (rs := [30]) (by kernel_rfl) (by simp) ?_
      refine AllReadyH.cons rfl (fun K9 hK => ?_) AllReadyH.nil
      rw [if_pos (by kernel_rfl)]
      go_simp
      go_wp2_with (go_at_call 36; refine (HM3.out _ HQ16.out).mono ?_; rintro e w17 ⟨rfl, hba⟩)
      have HQ17 := hid (below2 HQ16.out hba)
      clear hba
      refine hK.out _ _ HQ17.out (fun hHeld2 => ?_)
      clear hK K9 hHeld
      rename _ => hHeld
      refine' wpAnyH_take (i := 31) (oi := ⟨some 87, _, _, _, _, _⟩) (v := _) rfl (by kernel_rfl) (by kernel_rfl) (by kernel_rfl) (fun _ _ _ h => h) (Or.inl ⟨by kernel_rfl, ?hyqc11⟩) (by assumption) ?restqc11
      case hyqc11 => (intro wx hSw; (try dsimp only at hSw); obtain ⟨⟨k3⟩⟩ := HK3.out _ hSw; go_simp; first | done | with_reducible rfl)
      (try simp only [Act.put, List.setIfInBounds_toArray, List.set_cons_zero, List.set_cons_succ])
      refine wpAnyH_take (i := 32) (oi := ⟨some 88, _, _, _, _, _⟩) (v := undef) rfl (by kernel_rfl) (by kernel_rfl) (by kernel_rfl) (fun _ _ _ h => h) (Or.inr ⟨by kernel_rfl, by kernel_rfl⟩) (by assumption) ?_
      (try simp only [Act.put, List.setIfInBounds_toArray, List.set_cons_zero, List.set_cons_succ])
      refine wpAnyH_take (i := 33) (oi := ⟨some 89, _, _, _, _, _⟩) (v := undef) rfl (by kernel_rfl) (by kernel_rfl) (by kernel_rfl) (fun _ _ _ h => h) (Or.inr ⟨by kernel_rfl, by kernel_rfl⟩) (by assumption) ?_
      (try simp only [Act.put, List.setIfInBounds_toArray, List.set_cons_zero, List.set_cons_succ])
      refine' wpAnyH_take (i := 34) (oi := ⟨some 90, _, _, _, _, _⟩) (v := _) rfl (by kernel_rfl) (by kernel_rfl) (by kernel_rfl) (fun _ _ _ h => h) (Or.inl ⟨by kernel_rfl, ?hyqc12⟩) (by assumption) ?restqc12
      case hyqc12 => (intro wx hSw; (try dsimp only at hSw); obtain ⟨⟨k3⟩⟩ := HK3.out _ hSw; go_simp; first | done | with_reducible rfl)
      (try simp only [Act.put, List.setIfInBounds_toArray, List.set_cons_zero, List.set_cons_succ])
      refine' wpAnyH_take (i := 35) (oi := ⟨some 91, _, _, _, _, _⟩) (v := _) rfl (by kernel_rfl) (by kernel_rfl) (by kernel_rfl) (fun _ _ _ h => h) (Or.inl ⟨by kernel_rfl, ?hyqc13⟩) (by assumption) ?restqc13
      case hyqc13 => (intro wx hSw; (try dsimp only at hSw); obtain ⟨⟨k3⟩⟩ := HK3.out _ hSw; go_simp; first | done | with_reducible rfl)
      (try simp only [Act.put, List.setIfInBounds_toArray, List.set_cons_zero, List.set_cons_succ])
      refine' wpAnyH_take (i := 36) (oi := ⟨some 92, _, _, _, _, _⟩) (v := _) rfl (by kernel_rfl) (by kernel_rfl) (by kernel_rfl) (fun _ _ _ h => h) (Or.inl ⟨by kernel_rfl, ?hyqc14⟩) (by assumption) ?restqc14
      case hyqc14 => (intro wx hSw; (try dsimp only at hSw); obtain ⟨⟨k3⟩⟩ := HK3.out _ hSw; go_simp; first | done | with_reducible rfl)
      (try simp only [Act.put, List.setIfInBounds_toArray, List.set_cons_zero, List.set_cons_succ])
      refine wpAnyH_ready (rs := [37]) (by kernel_rfl) (by simp) ?_
      refine AllReadyH.cons rfl (fun K9 hK => ?_) AllReadyH.nil
      rw [if_pos (by kernel_rfl)]
      go_simp
      go_wp2_with (go_at_call 33; refine (HKn.out _ HQ17.out).mono ?_; rintro e w18 ⟨rfl, hba⟩)
      have HQ18 := hid (below2 HQ17.out hba)
      clear hba
      refine hK.out _ _ HQ18.out (fun hHeld2 => ?_)
      clear hK K9 hHeld
      rename _ => hHeld
      refine' wpAnyH_take (i := 38) (oi := ⟨some 94, _, _, _, _, _⟩) (v := _) rfl (by kernel_rfl) (by kernel_rfl) (by kernel_rfl) (fun _ _ _ h => h) (Or.inl ⟨by kernel_rfl, ?hyqc15⟩) (by assumption) ?restqc15
      case hyqc15 => (intro wx hSw; (try dsimp only at hSw); obtain ⟨⟨k3⟩⟩ := HK3.out _ hSw; go_simp; first | done | with_reducible rfl)
      (try simp only [Act.put, List.setIfInBounds_toArray, List.set_cons_zero, List.set_cons_succ])
      refine' wpAnyH_take (i := 39) (oi := ⟨some 6, _, _, _, _, _⟩) (v := _) rfl (by kernel_rfl) (by kernel_rfl) (by kernel_rfl) (fun _ _ _ h => h) (Or.inl ⟨by kernel_rfl, ?hyqc16⟩) (by assumption) ?restqc16
      case hyqc16 => (intro wx hSw; (try dsimp only at hSw); obtain ⟨⟨k3⟩⟩ := HK3.out _ hSw; go_simp; first | done | with_reducible rfl)
      (try simp only [Act.put, List.setIfInBounds_toArray, List.set_cons_zero, List.set_cons_succ])
      refine wpAnyH_done (by kernel_rfl) ?_ _
      go_wp2
      go_ret
      exact ⟨rfl, below2 HB8.out HQ18.out⟩

end Go.Proofs.YtgoefeaopegdoaaGreatDoor
