/-
  Walks and plain facts that this claim leans on, put together out of 4 texts: Sm, Ro, Sn, Pr.
-/
import Derived.Test.YtpopljcmkbchcaaGreatDoorProg
import Derived.Test.YtpopljcmkbchcaaGreatDoorQc1
import Derived.Test.YtpopljcmkbchcaaGreatDoorQc8
import Derived.Test.YtpopljcmkbchcaaGreatDoorQc9
import Derived.Test.YtpopljcmkbchcaaGreatDoorQc10
import Derived.Test.YtpopljcmkbchcaaGreatDoorQc11
import Derived.Test.YtpopljcmkbchcaaGreatDoorQc12
import Derived.Test.YtpopljcmkbchcaaGreatDoorQc16
import Derived.Test.YtpopljcmkbchcaaGreatDoorQc18
import Derived.Lib.IndexMore
import Derived.Lib.Join
import Derived.Lib.LastIndexByte
import Derived.WalkKit
import Derived.Lib.Strings
import Derived.Lib.UnsafeStr
import Derived.Laws.IdiomStrings
import Derived.Laws.AppendOwn
import Derived.Laws.BitsAllLaws
import Derived.Lib.Bytealg
import Derived.Lib.BufferMore
import Derived.LoopN
import Derived.RegionTactic
import Derived.Deep.RegionWith
import Derived.Deep.QuietTactic
import Derived.BigQuiet
import Derived.Laws.OwnMore
import Derived.Deep.LoopGhost
import Derived.Shelf.Strings.Builder1
import Derived.Shelf.Strings.Builder2
import Derived.Shelf.Strings.OnBuilder
import Derived.Shelf.Strings.Trim
import Derived.Shelf.Small.Utf8
import Derived.Shelf.Small.Bits
import Derived.Shelf.Small.Strs
import Derived.Shelf.Small.Wraps
import Derived.Shelf.Strings.BuilderF
import Derived.Shelf.Strings.BuilderK
import Derived.Shelf.Strings.BuilderRune
import Derived.Shelf.Utf8.AppendRune
import Derived.Shelf.Utf8.AppendRunePlain
import Derived.Shelf.Strings.Builder2Cap
import Derived.Shelf.Strconv.Itoa0
import Derived.Shelf.Strconv.Itoa1
import Derived.Shelf.LaysM
import Derived.Shelf.Strconv.Itoa2
import Derived.Shelf.Strconv.Itoa3
import Derived.Shelf.Strings.Search1
import Derived.Shelf.Strings.Search2
import Derived.Shelf.Strings.Cut
import Derived.Shelf.Strings.Shaped
import Derived.Shelf.Sort.Plain
import Derived.Shelf.Strings.Prefix
import Derived.Shelf.Unicode.Latin
import Derived.Shelf.Strings.Runes
import Derived.Shelf.Strings.IndexAny
import Derived.Shelf.Strings.AsciiSet
import Derived.Shelf.Strings.IndexAnyAll
import Derived.Shelf.Unicode.DecodeSlow
import Derived.Shelf.Unicode.DecodeAny
import Derived.Shelf.Unicode.DecodeLast
import Derived.Shelf.Unicode.CaseLookup
import Derived.Shelf.Unicode.CaseConvert
import Derived.Shelf.Unicode.CaseTo
import Derived.Shelf.Unicode.CaseLaid
import Derived.Shelf.Slices.CompactS
import Derived.Shelf.Slices.In.SortNone
import Derived.BigRegion
import Derived.WalkSpells
import Derived.WalkLawsBesides
import Derived.Lib.AppendIntMem
import Derived.Lib.SmallJoins
import Derived.WalkSmall
import Derived.WalkMore
import Derived.OwnWalk
import Derived.Laws.CopyOwn
import Derived.Laws.ResultCell
import Derived.Deep.MidRow
import Derived.Lib.FrozenHead2
import Derived.Lib.OthersKept
import Derived.Lib.Builder
set_option linter.unusedSimpArgs false
set_option linter.unusedVariables false

namespace Go.Proofs.YtpopljcmkbchcaaGreatDoor
open Go.RowKit

theorem wpList_copy_apart {P : Program} {w : World} {ops : Array Oper} {rest : List Oper} {o : Oper} {a : Act} {Q : Exit → Act → World → Prop} (hgd : o.guard = none) (d s : Operand) (dT sT : TypeId)
  (ho : o.op = .call { callee := .builtin .copy, args := #[d, s], argTypes := #[dT, sT] }) (elem : TypeId) (hu : P.underlying dT = some (.slice elem)) (hsz : (P.info? elem).map (·.size) = some 1)
  (dp sp : Option Addr) (dLen dCap sLen sCap : Nat) (hd : a.eval d = .slice dp dLen dCap) (hs : a.eval s = .slice sp sLen sCap)
  (g off : Nat) (cur : List Value) (t : TypeId) (hg : w.heap[g]? = some (.cells cur.toArray t (0, 0))) (cs : List Value) (hn : cs.length = Nat.min sLen dLen)
  (hpos : 0 < cs.length → dp = some ⟨g, off, none⟩ ∧ ∃ ad, sp = some ad ∧ ∀ j v, cs[j]? = some v → w.cell? (ad.add j) = some v)
  (hfit : off + cs.length ≤ cur.length) (h1 : ∀ v ∈ cs, v.oneCell' = true) (B : Nat) (w0 : World) (hb : Below B w0 w) (hBg : B ≤ g)
  (h : ∀ w', Hid (w'.heap[g]? = some (.cells (splice cur off cs).toArray t (0, 0))) → Hid (∀ k, k ≠ g → w'.heap[k]? = w.heap[k]?) → Below B w0 w' → wpList P ops Q rest (a.put o.dst (goInt cs.length)) w') :
  wpList P ops Q (o :: rest) a w := by
 by_cases h0 : cs.length = 0
 ·obtain rfl : cs = [] := List.eq_nil_of_length_eq_zero h0
  refine wpList_copy_nothing hgd d s dT sT ho elem hu hsz dp sp dLen dCap sLen sCap hd hs (by simpa using hn.symm) ?_
  exact h w (show _ = _ by simpa [splice] using hg) (hid fun _ _ => rfl) hb
 ·obtain ⟨rfl, ad, rfl, hsrc⟩ := hpos (by omega)
  refine wpList_copy_own hgd d s dT sT ho elem hu hsz g off dLen dCap ad sLen sCap hd hs cur.toArray t hg cs hn hsrc (by simpa using hfit) h1 ?_
  exact h _ (show _ = _ by simpa [splice] using setRow_heap w g _ _ t _ hg) (hid fun k hk => setRow_other w g k _ hk) (below_setRow hb hBg _)

theorem own_apartN {w w' : World} {base g : Nat} {e : TypeId} {size n : Nat} {v : Value} {xs : List Value} (h : w.ownsRow base e size v n xs) (hg : g < base) (hk : ∀ k, k ≠ g → w'.heap[k]? = w.heap[k]?) : w'.ownsRow base e size v n xs := by
 refine ⟨h.1, ?_⟩
 rcases h.2 with h | ⟨q, cap, cur, hv, h1, h2, h3⟩
 ·exact .inl h
 ·refine .inr ⟨q, cap, cur, hv, h1, ?_, h3⟩
  rw [hk q (by omega)]; exact h2

def Six2Post (l : List UInt8) (w : World) (e : Ending) (w' : World) : Prop := e = .returned (.tuple #[agg8 ((sixV l).getD zero8), .bool (sixV l).isSome]) ∧ Below w.heap.size w w'

theorem ret_six2 {a : List Value} {o : Option (List Nat)} {x : Bool} {l : List Nat} (h : cells16 l = a) (hl : l = o.getD zero8) (g : x = o.isSome) : Ending.returned (.tuple #[.agg a.toArray, .bool x]) = .returned (.tuple #[agg8 (o.getD zero8), .bool o.isSome]) := by
 rw [g, ← h, hl]; rfl

theorem pair_at (s : ByteArray) (k : Nat) (h : k + 1 < s.size) (h1 : s[k] = 58) (h2 : s[k + 1] = 58) : s.data.toList = (s.extract 0 k).data.toList ++ ([58, 58] ++ (s.extract (k + 2) s.size).data.toList) := by
 rw [ext_take, extract_drop]
 have e := drop_cons s k (by omega)
 have e2 := drop_cons s (k + 1) h
 have h0 : s.data.toList = s.data.toList.take k ++ s.data.toList.drop k := (List.take_append_drop _ _).symm
 rw [e, e2, h1, h2] at h0
 simpa using h0

theorem np_step (s : ByteArray) (k : Nat) (h : k + 1 < s.size) (hn : noPair (s.data.toList.take (k + 1)) = true) (hne : ¬ (s[k] = 58 ∧ s[k + 1] = 58)) : noPair (s.data.toList.take (k + 2)) = true := by
 rw [take_snoc s (k + 1) h, take_snoc s k (by omega)]
 rw [take_snoc s k (by omega)] at hn
 generalize s.data.toList.take k = a at *
 generalize s[k] = p at *
 generalize s[k + 1] = q at *
 clear h
 have hne' : ¬ p = 58 ∨ ¬ q = 58 := Decidable.not_and_iff_not_or_not.1 hne
 induction a with
 | nil => simp [noPair]; exact hne'
 | cons x a ih =>
  cases a with
  | nil =>
   simp only [List.cons_append, List.nil_append, noPair, Bool.and_eq_true] at hn ⊢
   refine ⟨hn.1, ?_, trivial⟩
   simp
   exact hne'
  | cons y a =>
   simp only [List.cons_append, noPair, Bool.and_eq_true] at hn ⊢
   exact ⟨hn.1, ih hn.2⟩

theorem six_gap (l a r : List UInt8) (h : l = a ++ ([58, 58] ++ r)) (hn : noPair (a ++ [58]) = true) : sixV l = match rpV a false, rpV r true with
  | some x, some y => if x.length + y.length ≤ 7 then some (x ++ List.replicate (8 - x.length - y.length) 0 ++ y) else none
  | _, _ => none := by
 rw [rsixV_eq, rsixV, h, cut2_some a r hn]
 rfl

theorem six_whole (l : List UInt8) (hn : noPair l = true) : sixV l = match rpV l true with
  | some a => if a.length = 8 then some a else none
  | none => none := by
 rw [rsixV_eq, rsixV, cut2_none l hn]
 rfl

set_option maxHeartbeats 4000000 in
set_option maxRecDepth 100000 in
theorem rsix_any (s : ByteArray) (w : World) (hs : s.size ≤ 1000000) :
  Calls Tryz.prog 274 #[.string s] w (Six2Post s.data.toList w) := by
 obtain ⟨W2, hW2⟩ : ∃ W2 : World, W2 = (w.alloc (Obj.cells #[Value.int .u16 0, Value.int .u16 0, Value.int .u16 0, Value.int .u16 0, Value.int .u16 0, Value.int .u16 0, Value.int .u16 0, Value.int .u16 0] 280)).alloc (Obj.cells #[Value.int .u16 0, Value.int .u16 0, Value.int .u16 0, Value.int .u16 0, Value.int .u16 0, Value.int .u16 0, Value.int .u16 0, Value.int .u16 0] 280) := ⟨_, rfl⟩
 have hW2s : W2.heap.size = w.heap.size + 2 := by rw [hW2]; simp
 have HY2 := hid (show W2.heap[w.heap.size]? = some (.cells (cells16 zero8).toArray 280 (0, 0)) by
  rw [hW2]
  exact row_kept (heap_alloc_new w (Obj.cells #[Value.int .u16 0, Value.int .u16 0, Value.int .u16 0, Value.int .u16 0, Value.int .u16 0, Value.int .u16 0, Value.int .u16 0, Value.int .u16 0] 280)) ((Below.refl _ _).alloc (Nat.le_refl _) _))
 have HX2 := hid (show W2.heap[w.heap.size + 1]? = some (.cells (cells16 zero8).toArray 280 (0, 0)) by
  rw [hW2]
  have h := heap_alloc_new (w.alloc (Obj.cells #[Value.int .u16 0, Value.int .u16 0, Value.int .u16 0, Value.int .u16 0, Value.int .u16 0, Value.int .u16 0, Value.int .u16 0, Value.int .u16 0] 280)) (Obj.cells #[Value.int .u16 0, Value.int .u16 0, Value.int .u16 0, Value.int .u16 0, Value.int .u16 0, Value.int .u16 0, Value.int .u16 0, Value.int .u16 0] 280)
  rw [show (w.alloc (Obj.cells #[Value.int .u16 0, Value.int .u16 0, Value.int .u16 0, Value.int .u16 0, Value.int .u16 0, Value.int .u16 0, Value.int .u16 0, Value.int .u16 0] 280)).heap.size = w.heap.size + 1 by simp] at h
  exact h)
 have HB2 := hid (show Below w.heap.size w W2 by rw [hW2]; exact ((Below.refl _ w).alloc (Nat.le_refl _) _).alloc (by simp) _)
 have HP1 := hid (pieces_any s true W2 hs)
 go_enter Tryz.func274, Tryz.ntmps274
 go_wp2_with fail
 rw [← hW2]
 clear hW2
 go_loop [5, 6] (fun at_ i => ∃ k : Nat, k ≤ s.size ∧ at_ = .int .i64 (-1) ∧ i = .int .i64 k ∧ noPair (s.data.toList.take (k + 1)) = true) (fun _ i => s.size - (intOf i).toNat)
 case atStart =>
  refine ⟨0, Nat.zero_le _, rfl, rfl, ?_⟩
  cases s.data.toList with
  | nil => rfl
  | cons c l => rfl
 case round =>
  obtain ⟨k, hk, rfl, rfl, hnp⟩ := hrel
  have HNp := hid hnp
  clear hnp
  by_cases hlt : k + 1 < s.size
  ·have hlt' : (k : Int) + 1 < (s.size : Int) := by omega
   have hc8 : s[k].toNat < 256 := s[k].toNat_lt
   have hd8 : s[k + 1].toNat < 256 := s[k + 1].toNat_lt
   have ht1 : ((k : Int) + 1).toNat = k + 1 := by omega
   by_cases h1 : s[k] = 58
   ·have h1' : (s[k].toNat : Int) = 58 := by rw [h1]; rfl
    by_cases h2 : s[k + 1] = 58
    ·have h2' : (s[k + 1].toNat : Int) = 58 := by rw [h2]; rfl
     have HPair := hid (pair_at s k hlt h1 h2)
     have HN0 := hid (show noPair ((s.extract 0 k).data.toList ++ [58]) = true by
      have h := HNp.out
      rw [take_snoc s k (by omega), h1] at h
      rw [ext_take]
      simpa using h)
     have HS := hid (six_gap _ _ _ HPair.out HN0.out)
     have hsa : (s.extract 0 k).size ≤ 1000000 := by simp; omega
     have hsb : (s.extract (k + 2) s.size).size ≤ 1000000 := by simp; omega
     have HPa := hid (pieces_any (s.extract 0 k) false W2 hsa)
     have HPb := hid (fun W => pieces_any (s.extract (k + 2) s.size) true W hsb)
     have hq1 : (k : Int) ≤ (s.size : Int) := by omega
     have hq2 : (k : Int) + 2 ≤ (s.size : Int) := by omega
     have ht2 : ((k : Int) + 2).toNat = k + 2 := by omega
     clear h1 h2 HPair HN0
     go_wp2_with fail
     refine HPa.out.mono ?_
     rintro e w3 (⟨hra, rfl, hb3⟩ | ⟨x, v, hrx, rfl, hown, hxl, hb3⟩)
     ·have HN := hid (show sixV s.data.toList = none by rw [HS.out, hra])
      have HX3 := hid (row_kept HX2.out hb3)
      have HY3 := hid (row_kept HY2.out hb3)
      have HB3 := hid (below2 HB2.out hb3)
      clear hra hb3
      go_wp2_with fail
      refine (HPb.out w3).mono ?_
      rintro e w4 (⟨_, rfl, hb4⟩ | ⟨y, v2, _, rfl, hown2, hyl, hb4⟩)
      all_goals
       have HY := hid (row_kept HY3.out hb4)
       have HBz := hid (below2 HB3.out hb4)
       go_wp2_with (refine wpList_store_mid rfl 280 (.tmp 2) (.tmp 80) rfl w.heap.size 0 (cells16 zero8).toArray rfl rfl (there_row HY.out (by decide)) size8 (all_oneCell_toArray (cells16_one _)) ?_)
       refine bodyPost_ret (results_six rfl _ _ _ w.heap.size (cells16 zero8) _ rfl (World.rangeAt_setCells_same _ _ _ _ (there_row HY.out (by decide))) Tryz.underlying280 rfl size8) rfl ⟨ret_six2 rfl (by rw [HN.out]; rfl) (by rw [HN.out]; rfl), below_setCells (Nat.le_refl _) _ _ _ HBz.out⟩
     ·obtain ⟨a1, cap1, rfl⟩ := own_form hown
      have HO := hid hown
      have HX3 := hid (row_kept HX2.out hb3)
      have HY3 := hid (row_kept HY2.out hb3)
      have HB3 := hid (below2 HB2.out hb3)
      have hbs3 := hb3.size
      clear hown hb3
      go_wp2_with fail
      refine (HPb.out w3).mono ?_
      rintro e w4 (⟨hrb, rfl, hb4⟩ | ⟨y, v2, hry, rfl, hown2, hyl, hb4⟩)
      ·have HN := hid (show sixV s.data.toList = none by rw [HS.out, hrx, hrb])
       have HY := hid (row_kept HY3.out hb4)
       have HBz := hid (below2 HB3.out hb4)
       clear hrx hrb hb4
       go_wp2_with (refine wpList_store_mid rfl 280 (.tmp 2) (.tmp 80) rfl w.heap.size 0 (cells16 zero8).toArray rfl rfl (there_row HY.out (by decide)) size8 (all_oneCell_toArray (cells16_one _)) ?_)
       refine bodyPost_ret (results_six rfl _ _ _ w.heap.size (cells16 zero8) _ rfl (World.rangeAt_setCells_same _ _ _ _ (there_row HY.out (by decide))) Tryz.underlying280 rfl size8) rfl ⟨ret_six2 rfl (by rw [HN.out]; rfl) (by rw [HN.out]; rfl), below_setCells (Nat.le_refl _) _ _ _ HBz.out⟩
      ·obtain ⟨a2, cap2, rfl⟩ := own_form hown2
       have HO2 := hid hown2
       have HO1 := hid (own_kept HO.out hb4)
       have HX := hid (row_kept HX3.out hb4)
       have HY := hid (row_kept HY3.out hb4)
       have HBz := hid (below2 HB3.out hb4)
       have hbs4 := hb4.size
       clear hown2 hb4
       by_cases h7 : x.length + y.length ≤ 7
       ·have HN := hid (show sixV s.data.toList = some (x ++ List.replicate (8 - x.length - y.length) 0 ++ y) by rw [HS.out, hrx, hry]; simp only; rw [if_pos h7])
        have h7' : ¬ (7 : Int) < (x.length : Int) + (y.length : Int) := by omega
        have hn1 : (cells16 x).length = x.length := cells16_len _
        have hn2 : (cells16 y).length = y.length := cells16_len _
        obtain ⟨X, hXe⟩ : ∃ X, X = x ++ List.replicate (8 - x.length - y.length) 0 ++ y := ⟨_, rfl⟩
        have hX8 : (cells16 X).length = 8 := by rw [cells16_len, hXe]; simp; omega
        have HXe := hid hXe
        clear hXe hrx hry
        go_wp2_with (refine wpList_copy_apart rfl _ _ 287 287 rfl 279 Tryz.underlying287 (by kernel_rfl) _ _ _ _ _ _ rfl rfl (w.heap.size + 1) 0 (cells16 zero8) 280 HX.out (cells16 x) ?p1 ?p2 ?p3 (cells16_one _) w.heap.size w HBz.out (by omega) ?_)
        case p1 => rw [hn1]; exact (Nat.min_eq_left (by omega)).symm
        case p2 => exact fun h => own_src HO1.out (by rw [hn1] at *; omega) (Below.refl _ w4)
        case p3 => rw [hn1]; show 0 + x.length ≤ 8; omega
        intro w5 HX5 HK5 hb5
        have hsl := slice8_from (w.heap.size + 1) y.length (by omega) w5
        have HO5 := hid (own_apartN (g := w.heap.size + 1) HO2.out (by omega) HK5.out)
        have HY5 := hid (show w5.heap[w.heap.size]? = some (.cells (cells16 zero8).toArray 280 (0, 0)) by rw [HK5.out _ (by omega)]; exact HY.out)
        clear HK5
        go_wp2_with (refine wpList_copy_apart rfl _ _ 287 287 rfl 279 Tryz.underlying287 (by kernel_rfl) _ _ _ _ _ _ rfl rfl (w.heap.size + 1) (8 - y.length) (splice (cells16 zero8) 0 (cells16 x)) 280 HX5.out (cells16 y) ?m1 ?m2 ?m3 (cells16_one _) w.heap.size w hb5 (by omega) ?_)
        case m1 => rw [hn2]; exact (Nat.min_self _).symm
        case m2 =>
         intro h
         rw [hn2] at h
         refine ⟨by rw [cutAd, if_neg (by omega)], own_src HO5.out h (Below.refl _ w5)⟩
        case m3 => rw [hn2, length_splice _ _ _ (by rw [hn1]; show 0 + x.length ≤ 8; omega)]; show 8 - y.length + y.length ≤ 8; omega
        intro w6 HX6 HK6 hb6
        have HX6' := hid (show w6.heap[w.heap.size + 1]? = some (.cells (cells16 X).toArray 280 (0, 0)) by rw [HXe.out, ← splice16 x y (by omega)]; exact HX6.out)
        have HY6 := hid (show w6.heap[w.heap.size]? = some (.cells (cells16 zero8).toArray 280 (0, 0)) by rw [HK6.out _ (by omega)]; exact HY5.out)
        have hi8 : (Tryz.prog.info? 280).map (·.size) = some (cells16 X).length := by rw [hX8]; exact size8
        have hi8' : (Tryz.prog.info? 280).map (·.size) = some (cells16 X).toArray.size := by rw [List.size_toArray, hX8]; exact size8
        have hth : w6.there w.heap.size 0 (cells16 X).toArray.size := there_row HY6.out (by rw [List.size_toArray, hX8]; decide)
        have hth2 : w6.there w.heap.size 0 (cells16 X).length := by rw [hX8]; exact there_row HY6.out (by decide)
        clear HX6 HK6
        go_wp2_with (first | refine wpList_load_mid rfl 280 (.tmp 4) rfl (w.heap.size + 1) 0 rfl (cells16 X) _ (range_row HX6'.out) Tryz.underlying280 rfl hi8 ?_ | refine wpList_store_mid rfl 280 (.tmp 2) (.tmp 90) rfl w.heap.size 0 (cells16 X).toArray rfl rfl hth hi8' (all_oneCell_toArray (cells16_one _)) ?_)
        refine bodyPost_ret (results_six rfl _ _ _ w.heap.size (cells16 X) _ rfl (World.rangeAt_setCells_same _ _ _ _ hth2) Tryz.underlying280 rfl hi8) rfl ⟨ret_six2 rfl (by rw [HN.out, HXe.out]; rfl) (by rw [HN.out]; rfl), below_setCells (Nat.le_refl _) _ _ _ hb6⟩
       ·have HN := hid (show sixV s.data.toList = none by rw [HS.out, hrx, hry]; simp only; rw [if_neg h7])
        have h7' : (7 : Int) < (x.length : Int) + (y.length : Int) := by omega
        clear hrx hry
        go_wp2_with (refine wpList_store_mid rfl 280 (.tmp 2) (.tmp 80) rfl w.heap.size 0 (cells16 zero8).toArray rfl rfl (there_row HY.out (by decide)) size8 (all_oneCell_toArray (cells16_one _)) ?_)
        refine bodyPost_ret (results_six rfl _ _ _ w.heap.size (cells16 zero8) _ rfl (World.rangeAt_setCells_same _ _ _ _ (there_row HY.out (by decide))) Tryz.underlying280 rfl size8) rfl ⟨ret_six2 rfl (by rw [HN.out]; rfl) (by rw [HN.out]; rfl), below_setCells (Nat.le_refl _) _ _ _ HBz.out⟩
    ·have h2' : ((s[k + 1].toNat : Int) == 58) = false := by
      rw [beq_eq_false_iff_ne]
      intro e
      exact h2 (UInt8.toNat_inj.1 (by have : (58 : UInt8).toNat = 58 := rfl; omega))
     have HN2 := hid (np_step s k hlt HNp.out (fun h => h2 h.2))
     clear h1 h2
     go_wp2_with fail
     go_round
     case rel => exact ⟨k + 1, by omega, rfl, by go_num, HN2.out⟩
     case measure => simp [intOf]; omega
   ·have h1' : ((s[k].toNat : Int) == 58) = false := by
     rw [beq_eq_false_iff_ne]
     intro e
     exact h1 (UInt8.toNat_inj.1 (by have : (58 : UInt8).toNat = 58 := rfl; omega))
    have HN2 := hid (np_step s k hlt HNp.out (fun h => h1 h.1))
    clear h1
    go_wp2_with fail
    go_round
    case rel => exact ⟨k + 1, by omega, rfl, by go_num, HN2.out⟩
    case measure => simp [intOf]; omega
  ·have hlt' : ¬ (k : Int) + 1 < (s.size : Int) := by omega
   have HS := hid (six_whole s.data.toList (by
    have h := HNp.out
    rw [List.take_of_length_le (by simp; omega)] at h
    exact h))
   go_wp2_with fail
   refine HP1.out.mono ?_
   rintro e w3 (⟨hrn, rfl, hb3⟩ | ⟨x, v, hrx, rfl, hown, hxl, hb3⟩)
   ·have HN := hid (show sixV s.data.toList = none by rw [HS.out, hrn])
    have HX := hid (row_kept HX2.out hb3)
    have HY := hid (row_kept HY2.out hb3)
    have HBz := hid (below2 HB2.out hb3)
    clear hrn hb3
    go_wp2_with (first | refine wpList_load_mid rfl 280 (.tmp 4) rfl (w.heap.size + 1) 0 rfl (cells16 zero8) _ (range_row HX.out) Tryz.underlying280 rfl size8 ?_ | refine wpList_store_mid rfl 280 (.tmp 2) (.tmp 46) rfl w.heap.size 0 (cells16 zero8).toArray rfl rfl (there_row HY.out (by decide)) size8 (all_oneCell_toArray (cells16_one _)) ?_)
    refine bodyPost_ret (results_six rfl _ _ _ w.heap.size (cells16 zero8) _ rfl (World.rangeAt_setCells_same _ _ _ _ (there_row HY.out (by decide))) Tryz.underlying280 rfl size8) rfl ⟨ret_six2 rfl (by rw [HN.out]; rfl) (by rw [HN.out]; rfl), below_setCells (Nat.le_refl _) _ _ _ HBz.out⟩
   ·have HX := hid (row_kept HX2.out hb3)
    have HY := hid (row_kept HY2.out hb3)
    have HBz := hid (below2 HB2.out hb3)
    obtain ⟨a1, cap1, rfl⟩ := own_form hown
    have HO := hid hown
    have hbs3 := hb3.size
    clear hown hb3
    by_cases h8 : x.length = 8
    ·have HN := hid (show sixV s.data.toList = some x by rw [HS.out, hrx]; simp only; rw [if_pos h8])
     clear hrx
     rw [h8]
     have hn1 : (cells16 x).length = 8 := by rw [cells16_len]; exact h8
     have HO8 := hid (show w3.ownsRow W2.heap.size 279 1 (.slice a1 x.length cap1) x.length (cells16 x) from HO.out)
     go_wp2_with (refine wpList_copy_apart rfl _ _ 287 287 rfl 279 Tryz.underlying287 (by kernel_rfl) _ _ _ _ _ _ rfl rfl (w.heap.size + 1) 0 (cells16 zero8) 280 HX.out (cells16 x) ?n1 ?n2 ?n3 (cells16_one _) w.heap.size w HBz.out (by omega) ?_)
     case n1 => rw [hn1]; rfl
     case n2 => first | exact own_src HO8.out (by omega) (Below.refl _ w3) | exact fun h => own_src HO8.out (by omega) (Below.refl _ w3)
     case n3 => rw [hn1]; decide
     intro w4 HX4 HK4 hb4
     have HX4' := hid (show w4.heap[w.heap.size + 1]? = some (.cells (cells16 x).toArray 280 (0, 0)) by
      rw [HX4.out]
      have e : splice (cells16 zero8) 0 (cells16 x) = cells16 x := by
       unfold splice
       rw [List.take_zero, List.nil_append, hn1, List.drop_eq_nil_of_le (by decide), List.append_nil]
      rw [e])
     have HY4 := hid (show w4.heap[w.heap.size]? = some (.cells (cells16 zero8).toArray 280 (0, 0)) by rw [HK4.out _ (by omega)]; exact HY.out)
     have hi8 : (Tryz.prog.info? 280).map (·.size) = some (cells16 x).length := by rw [hn1]; exact size8
     have hi8' : (Tryz.prog.info? 280).map (·.size) = some (cells16 x).toArray.size := by rw [List.size_toArray, hn1]; exact size8
     have hth : w4.there w.heap.size 0 (cells16 x).toArray.size := there_row HY4.out (by rw [List.size_toArray, hn1]; decide)
     have hth2 : w4.there w.heap.size 0 (cells16 x).length := by rw [hn1]; exact there_row HY4.out (by decide)
     clear HX4 HK4
     go_wp2_with (first | refine wpList_load_mid rfl 280 (.tmp 4) rfl (w.heap.size + 1) 0 rfl (cells16 x) _ (range_row HX4'.out) Tryz.underlying280 rfl hi8 ?_ | refine wpList_store_mid rfl 280 (.tmp 2) (.tmp 50) rfl w.heap.size 0 (cells16 x).toArray rfl rfl hth hi8' (all_oneCell_toArray (cells16_one _)) ?_)
     refine bodyPost_ret (results_six rfl _ _ _ w.heap.size (cells16 x) _ rfl (World.rangeAt_setCells_same _ _ _ _ hth2) Tryz.underlying280 rfl hi8) rfl ⟨ret_six2 rfl (by rw [HN.out]; rfl) (by rw [HN.out]; rfl), below_setCells (Nat.le_refl _) _ _ _ hb4⟩
    ·have HN := hid (show sixV s.data.toList = none by rw [HS.out, hrx]; simp only; rw [if_neg h8])
     clear hrx
     have h8' : ((x.length : Int) != 8) = true := by rw [bne_iff_ne]; omega
     go_wp2_with (first | refine wpList_load_mid rfl 280 (.tmp 4) rfl (w.heap.size + 1) 0 rfl (cells16 zero8) _ (range_row HX.out) Tryz.underlying280 rfl size8 ?_ | refine wpList_store_mid rfl 280 (.tmp 2) (.tmp 46) rfl w.heap.size 0 (cells16 zero8).toArray rfl rfl (there_row HY.out (by decide)) size8 (all_oneCell_toArray (cells16_one _)) ?_)
     refine bodyPost_ret (results_six rfl _ _ _ w.heap.size (cells16 zero8) _ rfl (World.rangeAt_setCells_same _ _ _ _ (there_row HY.out (by decide))) Tryz.underlying280 rfl size8) rfl ⟨ret_six2 rfl (by rw [HN.out]; rfl) (by rw [HN.out]; rfl), below_setCells (Nat.le_refl _) _ _ _ HBz.out⟩

end Go.Proofs.YtpopljcmkbchcaaGreatDoor

namespace Go.Proofs.YtpopljcmkbchcaaGreatDoor
open Go.RowKit

def RunAt (fr tu b : Nat) (a : Int) : Prop := b = max (tu - fr) 1 ∧ ((fr = tu ∧ a = -1) ∨ (fr < tu ∧ a = fr))

theorem last_atR (A : List UInt8) (c : UInt8) (h : A.length < (⟨(A ++ [c]).toArray⟩ : ByteArray).size) : (⟨(A ++ [c]).toArray⟩ : ByteArray)[A.length] = c := by
 show (A ++ [c]).toArray[A.length]'(by simp) = c
 simp

theorem toList_ne (B : ByteArray) (h : 0 < B.size) : B.toList.isEmpty = false := by
 rw [Lib.toList_data]
 rw [Lib.size_eq] at h
 cases hl : B.data.toList with
 | nil => rw [hl] at h; simp at h
 | cons a l => rfl

set_option maxHeartbeats 4000000 in
set_option maxRecDepth 100000 in
theorem rtext6_any (x : List Nat) (w : World) (h8 : x.length = 8) (h16 : ∀ n ∈ x, n < 65536) :
    Calls Tryz.prog 275 #[agg8 x] w fun e w' => e = .returned (.string ⟨(text6 x).toArray⟩) ∧ Below w.heap.size w w' := by
  have HN0 := hid (nums_row (x := x) (heap_alloc_new w (.cells (cells16 x).toArray 280 (0, 0))))
  have H16 := hid h16
  clear h16
  unfold agg8
  go_enter Tryz.func275, Tryz.ntmps275
  go_wp2
  have HB0 := hid ((Below.refl _ w).alloc (Nat.le_refl _) (.cells (cells16 x).toArray 280 (0, 0)))
  go_loopg [3, 4, 5] 8 (fun g av bv iv wr => ∃ (i fr tu b : Nat) (a : Int), i + g = 8 ∧ av = .int .i64 a ∧ bv = .int .i64 b ∧ iv = .int .i64 i ∧ fr ≤ tu ∧ tu ≤ 8 ∧ -1 ≤ a ∧ a ≤ 8 ∧ b ≤ 8 ∧ RunAt fr tu b a ∧ lrunN 0 i fr tu (x.drop i) = lrun x ∧ Nums wr w.heap.size 0 x ∧ Below w.heap.size w wr)
  case atStart => exact ⟨0, 0, 0, 1, -1, by omega, rfl, rfl, rfl, by omega, by omega, by omega, by omega, by omega, ⟨rfl, .inl ⟨rfl, rfl⟩⟩, rfl, HN0.out, HB0.out⟩
  case round =>
    obtain ⟨i, fr, tu, b, a, hig, rfl, rfl, rfl, hft, ht8, ha1, ha2, hb8, hrun, hlr, hnums, hbw⟩ := hrel
    have HL := hid hlr
    have HN := hid hnums
    have HRun := hid hrun
    clear hlr hnums hrun
    cases gk with
    | zero =>
      have HR := hid (show lrun x = (fr, tu) by rw [← HL.out, List.drop_eq_nil_of_le (by omega)]; rfl)
      have hi8 : i = 8 := by omega
      subst hi8
      clear hig
      have hcase : (fr = tu ∧ a = -1) ∨ (fr < tu ∧ a = fr ∧ fr + b ≤ tu ∧ tu ≤ fr + b) := by
        obtain ⟨h1, h2⟩ := HRun.out
        omega
      have HF := hid (show t6 x fr tu 8 = text6 x by
        have h := t6_end x h8 (by rw [HR.out]; omega) (by rw [HR.out]; exact ht8)
        rw [HR.out] at h; exact h)
      clear HL HR HRun
      go_wp2
      go_loopg [7, 8] 8 (fun g tv iv wx => ∃ i : Nat, i + g = 8 ∧ iv = .int .i64 i ∧ tv = .string ⟨(t6 x fr tu i).toArray⟩ ∧ (fr = tu ∨ i ≤ fr ∨ tu ≤ i) ∧ Nums wx w.heap.size 0 x ∧ Below w.heap.size w wx)
      case atStart => exact ⟨0, by omega, rfl, by simp [t6, joined_nil], by omega, HN.out, hbw⟩
      case round =>
        clear HN hbw
        obtain ⟨i, hig, rfl, rfl, hpl, hnums, hbw⟩ := hrel
        have HN := hid hnums
        clear hnums
        have hTl := t6_le x fr tu i h8
        cases gk with
        | zero =>
          have hi8 : i = 8 := by omega
          subst hi8
          go_wp2
          go_ret
          rw [HF.out]
          exact ⟨rfl, hbw⟩
        | succ g =>
          have hi8 : (i : Int) < 8 := by omega
          by_cases hat : fr < tu ∧ i = fr
          · obtain ⟨hlt, rfl⟩ := hat
            have ha : a = (i : Int) := by omega
            subst ha
            have HM := hid (show (⟨(t6 x i tu i).toArray⟩ : ByteArray) ++ ⟨#[58, 58]⟩ = ⟨(t6 x i tu tu).toArray⟩ by rw [t6_mark x i tu hlt (by omega), show (⟨#[58, 58]⟩ : ByteArray) = ⟨[58, 58].toArray⟩ from rfl, ba_app])
            have hbt1 : (i : Int) + (b : Int) ≤ (tu : Int) := by omega
            have hbt2 : (tu : Int) ≤ (i : Int) + (b : Int) := by omega
            clear hcase
            go_wp2
            go_roundg (8 - tu)
            case measure => omega
            case rel => exact ⟨tu, by omega, by go_num, by rw [HM.out], by omega, HN.out, hbw⟩
          · have hat' : ((i : Int) == a) = false := by rw [beq_eq_false_iff_ne]; omega
            have hix : i < x.length := by omega
            have hcell := HN.out i hix
            rw [Nat.zero_add] at hcell
            have HD := hid (fun W => rdigits_any x[i] W (H16.out _ (List.getElem_mem hix)))
            have hpl' : fr = tu ∨ i + 1 ≤ fr ∨ tu ≤ i + 1 := by omega
            have hst := t6_step x fr tu i hix hft (by omega)
            have hxl := hex16_le x[i]
            generalize x[i] = xi at hcell HD hst hxl
            generalize t6 x fr tu i = T at *
            clear hcase hat hpl
            rcases hst with ⟨h1, h2⟩ | ⟨⟨A, h1⟩, h2⟩ | ⟨⟨A, c, h1, hc⟩, h2⟩
            · subst h1
              have HE := hid h2
              clear h2
              go_wp2_with (go_at_call 282; go_must (refine (HD.out _).mono ?_; rintro e w2 ⟨rfl, rfl⟩))
              go_roundg g
              case measure => omega
              case rel => exact ⟨i + 1, by omega, by go_num, by rw [HE.out]; simp; exact ba_app [] _, hpl', HN.out, hbw⟩
            · obtain ⟨B, hB⟩ : ∃ B : ByteArray, B = ⟨T.toArray⟩ := ⟨_, rfl⟩
              have hBs : B.size = A.length + 1 := by rw [hB, h1]; simp [ByteArray.size]
              have hTl' : A.length + 1 ≤ 200 := by rw [h1] at hTl; simpa using hTl
              have hB0 : (0 : Int) ≤ (B.size : Int) - 1 := by omega
              have hB2 : (B.size : Int) ≤ 200 := by omega
              have hlt : B.size - 1 < B.size := by omega
              have hq : B[B.size - 1] = 58 := by
                subst hB; subst h1
                have e : (⟨(A ++ [58]).toArray⟩ : ByteArray).size - 1 = A.length := by omega
                simp only [e]
                exact last_atR A 58 (by omega)
              have hqi : ((B[B.size - 1].toNat : Int)) = 58 := by rw [hq]; rfl
              have hne : B.toList.isEmpty = false := toList_ne B (by omega)
              have hne' : ¬ (B.toList = []) := by intro h; rw [h] at hne; simp at hne
              have HE := hid (show B ++ ⟨(hex16 xi).toArray⟩ = ⟨(t6 x fr tu (i + 1)).toArray⟩ by rw [h2, hB, ba_app])
              rw [← hB]
              clear h2 hB h1 hTl hBs hTl' hq
              go_wp2_with (go_at_call 282; go_must (refine (HD.out _).mono ?_; rintro e w2 ⟨rfl, rfl⟩))
              all_goals
                go_roundg g
                case measure => omega
                case rel => exact ⟨i + 1, by omega, by go_num, by rw [HE.out], hpl', HN.out, hbw⟩
            · obtain ⟨B, hB⟩ : ∃ B : ByteArray, B = ⟨T.toArray⟩ := ⟨_, rfl⟩
              have hBs : B.size = A.length + 1 := by rw [hB, h1]; simp [ByteArray.size]
              have hTl' : A.length + 1 ≤ 200 := by rw [h1] at hTl; simpa using hTl
              have hB0 : (0 : Int) ≤ (B.size : Int) - 1 := by omega
              have hB2 : (B.size : Int) ≤ 200 := by omega
              have hlt : B.size - 1 < B.size := by omega
              have hq : B[B.size - 1] = c := by
                subst hB; subst h1
                have e : (⟨(A ++ [c]).toArray⟩ : ByteArray).size - 1 = A.length := by omega
                simp only [e]
                exact last_atR A c (by omega)
              have hqi : ((B[B.size - 1].toNat : Int) == 58) = false := by
                rw [hq, beq_eq_false_iff_ne]
                intro h
                exact hc (UInt8.toNat_inj.1 (by have : c.toNat = 58 := by omega
                                                rw [this]; rfl))
              have hne : B.toList.isEmpty = false := toList_ne B (by omega)
              have hne' : ¬ (B.toList = []) := by intro h; rw [h] at hne; simp at hne
              have hqn : ((B[B.size - 1].toNat : Int) != 58) = true := by rw [bne, hqi]; rfl
              have HE := hid (show B ++ ⟨#[58]⟩ ++ ⟨(hex16 xi).toArray⟩ = ⟨(t6 x fr tu (i + 1)).toArray⟩ by rw [h2, hB, show (⟨#[58]⟩ : ByteArray) = ⟨[58].toArray⟩ from rfl, ba_app, ba_app, List.append_assoc])
              rw [← hB]
              clear h2 hB h1 hTl hBs hTl' hq
              go_wp2_with (go_at_call 282; go_must (refine (HD.out _).mono ?_; rintro e w2 ⟨rfl, rfl⟩))
              all_goals
                go_roundg g
                case measure => omega
                case rel => exact ⟨i + 1, by omega, by go_num, by rw [HE.out], hpl', HN.out, hbw⟩
    | succ g =>
      have hi8 : (i : Int) < 8 := by omega
      go_wp2
      go_loopg [6] (8 - i) (fun h cv wx => ∃ c : Nat, c + i + h = 8 ∧ cv = .int .i64 c ∧ c + zeros (x.drop (i + c)) = zeros (x.drop i) ∧ wx = wr)
      case atStart => exact ⟨0, by omega, rfl, by simp, rfl⟩
      case round =>
        obtain ⟨c, hch, rfl, hze, rfl⟩ := hrel
        have HZ := hid hze
        clear hze
        by_cases hstop : i + c < 8 ∧ x.getD (i + c) 0 = 0
        · obtain ⟨he8, hx0⟩ := hstop
          have hex : i + c < x.length := by omega
          have hx0' : x[i + c] = 0 := by simpa [List.getD, hex] using hx0
          have hcell := HN.out (i + c) hex
          rw [hx0', Nat.zero_add] at hcell
          have HZ2 := hid (show c + 1 + zeros (x.drop (i + (c + 1))) = zeros (x.drop i) by rw [← HZ.out, zeros_hit hex hx0', Nat.add_assoc i c 1]; omega)
          have he8' : (i : Int) + (c : Int) < 8 := by omega
          clear hx0 hx0'
          go_wp2
          go_roundg (8 - (i + c + 1))
          case measure => omega
          case rel => exact ⟨c + 1, by omega, by go_num, HZ2.out, rfl⟩
        · have hz0 : zeros (x.drop (i + c)) = 0 := by
            by_cases he8 : i + c < 8
            · have hex : i + c < x.length := by omega
              refine zeros_miss hex (fun h => hstop ⟨he8, ?_⟩)
              simp [List.getD, hex, h]
            · rw [List.drop_eq_nil_of_le (by omega)]; rfl
          have hend : c = zeros (x.drop i) := by rw [← HZ.out, hz0]; omega
          obtain ⟨hbm, hcase⟩ := HRun.out
          by_cases hA : max (tu - fr) 1 < zeros (x.drop i)
          · have HT := hid (show lrunN 0 (i + 1) i (i + c) (x.drop (i + 1)) = lrun x by
              have h := lrunN_take (x := x) (i := i) (fr := fr) (tu := tu) (by omega) hA
              rw [HL.out, ← hend] at h
              exact h.symm)
            have HRn := hid (show RunAt i (i + c) c (i : Int) from ⟨by omega, .inr ⟨by omega, rfl⟩⟩)
            have hA' : (b : Int) < (c : Int) := by omega
            have hc8 : c ≤ 8 := by omega
            have hic : i + c ≤ 8 := by omega
            clear hend hz0 hA hbm hcase
            by_cases he8 : i + c < 8
            · have hex : i + c < x.length := by omega
              have hcell := HN.out (i + c) hex
              have hx0 : ((x[i + c] : Int) == 0) = false := by
                rw [beq_eq_false_iff_ne]
                intro h
                apply hstop
                refine ⟨he8, ?_⟩
                simp [List.getD, hex]; omega
              rw [Nat.zero_add] at hcell
              generalize x[i + c] = xe at hcell hx0
              have he8' : (i : Int) + (c : Int) < 8 := by omega
              clear hstop
              go_wp2
              go_roundg g
              case measure => omega
              case rel => exact ⟨i + 1, i, i + c, c, i, by omega, rfl, rfl, by go_num, by omega, by omega, by omega, by omega, by omega, HRn.out, HT.out, HN.out, hbw⟩
            · have he8' : decide ((i : Int) + (c : Int) < 8) = false := decide_eq_false (by omega)
              clear hstop
              go_wp2
              go_roundg g
              case measure => omega
              case rel => exact ⟨i + 1, i, i + c, c, i, by omega, rfl, rfl, by go_num, by omega, by omega, by omega, by omega, by omega, HRn.out, HT.out, HN.out, hbw⟩
          · have HT := hid (show lrunN 0 (i + 1) fr tu (x.drop (i + 1)) = lrun x by
              have h := lrunN_skip (x := x) (i := i) (fr := fr) (tu := tu) (by omega) hA
              rw [HL.out] at h
              exact h.symm)
            have hA' : ¬ ((b : Int) < (c : Int)) := by omega
            clear hend hz0 hA hbm hcase
            by_cases he8 : i + c < 8
            · have hex : i + c < x.length := by omega
              have hcell := HN.out (i + c) hex
              have hx0 : ((x[i + c] : Int) == 0) = false := by
                rw [beq_eq_false_iff_ne]
                intro h
                apply hstop
                refine ⟨he8, ?_⟩
                simp [List.getD, hex]; omega
              rw [Nat.zero_add] at hcell
              generalize x[i + c] = xe at hcell hx0
              have he8' : (i : Int) + (c : Int) < 8 := by omega
              clear hstop
              go_wp2
              go_roundg g
              case measure => omega
              case rel => exact ⟨i + 1, fr, tu, b, a, by omega, rfl, rfl, by go_num, hft, ht8, ha1, ha2, hb8, HRun.out, HT.out, HN.out, hbw⟩
            · have he8' : decide ((i : Int) + (c : Int) < 8) = false := decide_eq_false (by omega)
              clear hstop
              go_wp2
              go_roundg g
              case measure => omega
              case rel => exact ⟨i + 1, fr, tu, b, a, by omega, rfl, rfl, by go_num, hft, ht8, ha1, ha2, hb8, HRun.out, HT.out, HN.out, hbw⟩

end Go.Proofs.YtpopljcmkbchcaaGreatDoor

namespace Go.Proofs.YtpopljcmkbchcaaGreatDoor
open Go.RowKit

def Parse2Post (o : Option (List UInt8)) (w : World) (e : Ending) (w' : World) : Prop := e = .returned (.tuple #[.string ⟨(o.getD []).toArray⟩, .bool o.isSome]) ∧ Below w.heap.size w w'

theorem parse2_none {o : Option (List UInt8)} {w w' : World} (h : o = none) (hb : Below w.heap.size w w') : Parse2Post o w (.returned (.tuple #[.string ⟨#[]⟩, .bool false])) w' := by
 unfold Parse2Post; rw [h]; exact ⟨rfl, hb⟩

theorem parse2_some {o : Option (List UInt8)} {a : List UInt8} {t : ByteArray} {w w' : World} (h : o = some a) (ht : t = ⟨a.toArray⟩) (hb : Below w.heap.size w w') : Parse2Post o w (.returned (.tuple #[.string t, .bool true])) w' := by
 unfold Parse2Post; rw [h, ht]; exact ⟨rfl, hb⟩

theorem eight_lst (x : List Nat) (h : x.length = 8) : ∃ x0 x1 x2 x3 x4 x5 x6 x7, x = [x0, x1, x2, x3, x4, x5, x6, x7] := by
 match x, h with
 | [x0, x1, x2, x3, x4, x5, x6, x7], _ => exact ⟨x0, x1, x2, x3, x4, x5, x6, x7, rfl⟩

theorem brk_suffix (t : List UInt8) : Lib.hasSuffix (91 :: t) [93] = Lib.hasSuffix t [93] := by
 rw [Bool.eq_iff_iff]
 unfold Lib.hasSuffix
 rw [List.isSuffixOf_iff_suffix, List.isSuffixOf_iff_suffix]
 constructor
 ·rintro ⟨a, ha⟩
  cases a with
  | nil => simp at ha
  | cons x a => simp at ha; exact ⟨a, ha.2⟩
 ·rintro ⟨a, ha⟩
  exact ⟨91 :: a, by simp [ha]⟩

theorem brk_trim (s : ByteArray) (t : List UInt8) (hs : s.data.toList = 91 :: t) (h : Lib.hasSuffix t [93] = true) : 2 ≤ s.size ∧ (s.extract 1 (s.size - 1)).data.toList = Lib.trimSuffix t [93] := by
 have h' := h
 unfold Lib.hasSuffix at h'
 rw [List.isSuffixOf_iff_suffix] at h'
 obtain ⟨a, rfl⟩ := h'
 have hsz : s.size = a.length + 2 := by
  have := congrArg List.length hs
  simpa using this
 refine ⟨by omega, ?_⟩
 rw [ext_take, hs, hsz]
 unfold Lib.trimSuffix
 rw [if_pos h]
 simp

theorem pfx_form (l : List UInt8) (h : Lib.hasPrefix l [91] = true) : ∃ t, l = 91 :: t := by
 have : [91].isPrefixOf l = true := h
 rw [List.isPrefixOf_iff_prefix] at this
 obtain ⟨t, ht⟩ := this
 exact ⟨t, ht.symm⟩

set_option maxHeartbeats 2000000 in
set_option maxRecDepth 100000 in
theorem rparse_six (s : ByteArray) (special : Bool) (w : World) (hs : s.size ≤ 1000000) (hp : Lib.hasPrefix s.data.toList [91] = true) :
  Calls Tryz.prog 267 #[.string s, .bool special] w (Parse2Post (parseV s.data.toList special) w) := by
 obtain ⟨t, ht⟩ := pfx_form _ hp
 have HV := hid (show parseV s.data.toList special = bracketV t by rw [parseV_six hp, ht]; rfl)
 have hsf : Lib.hasSuffix s.data.toList [93] = Lib.hasSuffix t [93] := by rw [ht]; exact brk_suffix t
 have HB := hid (fun W => begins_any s ⟨#[91]⟩ W (by omega) (by decide))
 have HE := hid (fun W => ends_any s ⟨#[93]⟩ W (by omega) (by decide))
 rw [show (⟨#[91]⟩ : ByteArray).data.toList = [91] from rfl, hp] at HB
 rw [show (⟨#[93]⟩ : ByteArray).data.toList = [93] from rfl, hsf] at HE
 cases hc : Lib.hasSuffix t [93] with
 | false =>
  have HN := hid (show parseV s.data.toList special = none by rw [HV.out, bracketV_open hc])
  rw [hc] at HE
  clear hc hsf hp ht
  go_enter Tryz.func267, Tryz.ntmps267
  go_wp2_with (first | (go_at_call 201; refine (HB.out _).mono ?_; rintro e w' ⟨rfl, rfl⟩) | (go_at_call 273; refine (HE.out _).mono ?_; rintro e w' ⟨rfl, rfl⟩))
  go_ret2
  exact parse2_none HN.out (Below.refl _ _)
 | true =>
  obtain ⟨h2, htr⟩ := brk_trim s t ht hc
  rw [hc] at HE
  have h2' : (1 : Int) ≤ (s.size : Int) - 1 := by omega
  have h3' : (s.size : Int) - 1 ≤ (s.size : Int) := by omega
  have h4' : ((s.size : Int) - 1).toNat = s.size - 1 := by omega
  obtain ⟨X, hX⟩ : ∃ X : ByteArray, X = s.extract 1 (s.size - 1) := ⟨_, rfl⟩
  have hXs : X.size ≤ 1000000 := by rw [hX]; simp; omega
  have HX := hid hX
  have h6 := rsix_any X w hXs
  have HXd := hid (show X.data.toList = Lib.trimSuffix t [93] by rw [hX]; exact htr)
  clear hX
  cases hsx : sixV X.data.toList with
  | none =>
   have HN := hid (show parseV s.data.toList special = none by rw [HV.out, bracketV_none hc (by rw [← HXd.out]; exact hsx)])
   have H6 := hid (show Calls Tryz.prog 274 #[.string X] w (fun e w' => e = .returned (.tuple #[.agg #[.int .u16 0, .int .u16 0, .int .u16 0, .int .u16 0, .int .u16 0, .int .u16 0, .int .u16 0, .int .u16 0], .bool false]) ∧ Below w.heap.size w w') by
    unfold Six2Post at h6
    rw [hsx] at h6
    exact h6)
   clear h6 hsx hc hsf hp ht htr
   go_enter Tryz.func267, Tryz.ntmps267
   go_wp2_with (first | (go_at_call 201; refine (HB.out _).mono ?_; rintro e w' ⟨rfl, rfl⟩) | (go_at_call 273; refine (HE.out _).mono ?_; rintro e w' ⟨rfl, rfl⟩))
   rw [← HX.out]
   refine H6.out.mono ?_
   rintro e w1 ⟨rfl, hb1⟩
   go_wp2_with fail
   go_ret2
   exact parse2_none HN.out (below2 hb1 ((Below.refl _ _).alloc (Nat.le_refl _) _))
  | some x =>
   have HN := hid (show parseV s.data.toList special = some (91 :: (text6 x ++ [93])) by rw [HV.out, bracketV_some hc (by rw [← HXd.out]; exact hsx)])
   obtain ⟨hx8, hx16⟩ := sixV_ok hsx
   have HT := hid (fun W => rtext6_any x W hx8 hx16)
   have htl := text6_le x hx8
   have h6' : Calls Tryz.prog 274 #[.string X] w (fun e w' => e = .returned (.tuple #[agg8 x, .bool true]) ∧ Below w.heap.size w w') := by
    unfold Six2Post at h6
    rw [hsx] at h6
    exact h6
   generalize text6 x = T at *
   obtain ⟨x0, x1, x2, x3, x4, x5, x6, x7, rfl⟩ := eight_lst x hx8
   have ea : agg8 [x0, x1, x2, x3, x4, x5, x6, x7] = .agg #[.int .u16 (x0 : Int), .int .u16 (x1 : Int), .int .u16 (x2 : Int), .int .u16 (x3 : Int), .int .u16 (x4 : Int), .int .u16 (x5 : Int), .int .u16 (x6 : Int), .int .u16 (x7 : Int)] := rfl
   rw [ea] at HT h6'
   have H6 := hid h6'
   clear h6 h6' ea hx8 hx16 hsx hc hsf hp ht htr
   go_enter Tryz.func267, Tryz.ntmps267
   go_wp2_with (first | (go_at_call 201; refine (HB.out _).mono ?_; rintro e w' ⟨rfl, rfl⟩) | (go_at_call 273; refine (HE.out _).mono ?_; rintro e w' ⟨rfl, rfl⟩))
   rw [← HX.out]
   refine H6.out.mono ?_
   rintro e w1 ⟨rfl, hb1⟩
   go_wp2_with fail
   refine (HT.out _).mono ?_
   rintro e w2 ⟨rfl, hb2⟩
   go_wp2_with fail
   go_ret2
   refine parse2_some HN.out ?_ (below2 (below2 hb1 ((Below.refl _ _).alloc (Nat.le_refl _) _)) hb2)
   show (⟨[91].toArray⟩ : ByteArray) ++ ⟨T.toArray⟩ ++ ⟨[93].toArray⟩ = ⟨(91 :: (T ++ [93])).toArray⟩
   rw [ba_app, ba_app]
   simp

set_option maxHeartbeats 2000000 in
set_option maxRecDepth 100000 in
theorem rparse_other (s : ByteArray) (w : World) (hs : s.size ≤ 1000000) (hp : Lib.hasPrefix s.data.toList [91] = false) :
  Calls Tryz.prog 267 #[.string s, .bool false] w (Parse2Post (parseV s.data.toList false) w) := by
 have HV := hid (show parseV s.data.toList false = otherV s.data.toList from parseV_other hp)
 have HB := hid (fun W => begins_any s ⟨#[91]⟩ W (by omega) (by decide))
 rw [show (⟨#[91]⟩ : ByteArray).data.toList = [91] from rfl, hp] at HB
 clear hp
 go_enter Tryz.func267, Tryz.ntmps267
 go_wp2_with (go_at_call 201; refine (HB.out _).mono ?_; rintro e w' ⟨rfl, rfl⟩)
 go_loop [8] (fun i => ∃ k : Nat, k ≤ s.size ∧ i = .int .i64 k ∧ (s.data.toList.drop k).any forb = s.data.toList.any forb) (fun i => s.size - (intOf i).toNat)
 case atStart => exact ⟨0, Nat.zero_le _, rfl, by rw [List.drop_zero]⟩
 case round =>
  obtain ⟨k, hk, rfl, hany⟩ := hrel
  have HA := hid hany
  clear hany
  by_cases hlt : k < s.size
  ·have hlt' : (k : Int) < (s.size : Int) := by omega
   have hc8 : s[k].toNat < 256 := s[k].toNat_lt
   have HD := hid (drop_cons s k hlt)
   cases hf : forb s[k] with
   | true =>
    have HN := hid (show parseV s.data.toList false = none by
     rw [HV.out, otherV, if_pos]
     rw [← HA.out, HD.out, List.any_cons, hf]; rfl)
    have HF := hid hf
    clear hf
    go_wp2_with (go_at_call 276; refine (rbad_any _ _).mono ?_; rintro e w' ⟨rfl, rfl⟩; rw [HF.out])
    go_ret2
    exact parse2_none HN.out (Below.refl _ _)
   | false =>
    have HA2 := hid (show (s.data.toList.drop (k + 1)).any forb = s.data.toList.any forb by rw [← HA.out, HD.out, List.any_cons, hf]; rfl)
    have HF := hid hf
    clear hf
    go_wp2_with (go_at_call 276; refine (rbad_any _ _).mono ?_; rintro e w' ⟨rfl, rfl⟩; rw [HF.out])
    go_round
    case rel => exact ⟨k + 1, by omega, by go_num, HA2.out⟩
    case measure => simp [intOf]; omega
  ·have hlt' : ¬ (k : Int) < (s.size : Int) := by omega
   have HN := hid (show parseV s.data.toList false = some (pct 1 s.data.toList) by
    rw [HV.out, otherV, if_neg]
    rw [← HA.out, drop_none s k hlt]; decide)
   go_wp2_with (go_at_call 230; refine (rpercent_any _ _ hs).mono ?_; rintro e w1 ⟨rfl, hb1⟩)
   go_ret2
   exact parse2_some HN.out rfl hb1

end Go.Proofs.YtpopljcmkbchcaaGreatDoor

namespace Go.Proofs.YtpopljcmkbchcaaGreatDoor
open Go.RowKit

def IsRow (k : IntKind) (w : World) (a : Option Addr) (len cap : Nat) (zs : List Int) : Prop :=
 (a = none ∧ len = 0 ∧ cap = 0 ∧ zs = []) ∨
 ∃ x, a = some x ∧ len ≤ cap ∧ cap ≤ maxLen ∧ zs.length = cap ∧ (∀ i, i < zs.length → w.cell? (x.add i) = some (.int k (zs.getD i 0))) ∧ ∀ n ∈ zs, (Lit.int k n).wf = true

theorem IsRow.block {k : IntKind} {w : World} {a : Option Addr} {len cap : Nat} {zs : List Int} (h : IsRow k w a len cap zs) {y : Addr} (hy : a = some y) {j : Nat} (hj : j < zs.length) : (y.add j).block < w.heap.size := by
 rcases h with ⟨rfl, _⟩ | ⟨x, rfl, _, _, _, hcell, _⟩
 ·cases hy
 ·obtain rfl := Option.some.inj hy
  exact World.block_lt_of_cell? w _ (hcell j hj)

end Go.Proofs.YtpopljcmkbchcaaGreatDoor
