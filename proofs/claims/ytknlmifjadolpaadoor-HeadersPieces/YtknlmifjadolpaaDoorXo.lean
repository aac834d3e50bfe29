/-
  The walk of the law HeadersPieces.
-/
import Derived.Test.YtknlmifjadolpaaDoorXm
set_option linter.unusedSimpArgs false
set_option linter.unusedVariables false
namespace Go.Proofs.YtknlmifjadolpaaDoor
open Go.RowKit

theorem ba_app (a b : ByteArray) : (a ++ b).data.toList = a.data.toList ++ b.data.toList := by rw [ByteArray.data_append, Array.toList_append]

theorem q_app (T : List UInt8) : (⟨#[34]⟩ : ByteArray) ++ ⟨T.toArray⟩ ++ ⟨#[44, 32]⟩ ++ ⟨T.toArray⟩ ++ ⟨#[34]⟩ = ⟨(quoted T).toArray⟩ := by
  refine xext ?_
  rw [ba_app, ba_app, ba_app, ba_app]
  simp [quoted]

theorem s_app (S sep x : ByteArray) : S ++ sep ++ x = ⟨(S.data.toList ++ sep.data.toList ++ x.data.toList).toArray⟩ := by
  refine xext ?_
  rw [ba_app, ba_app]

/-- What is known at each round's head. -/
def PcInv (k : Nat) (S : List UInt8) (W : List (List UInt8)) : Prop := W.length = k ∧ S.length ≤ 40 * k ∧ (k = 0 → S = []) ∧ (0 < k → Put S W)

theorem PcInv.first (T : List UInt8) (S : List UInt8) (W : List (List UInt8)) (h : PcInv 0 S W) (hT : Wrd T) (hl : T.length ≤ 12) : PcInv 1 (S ++ T) (W ++ [T]) := by
  obtain ⟨h1, h2, h3, h4⟩ := h
  have e := h3 rfl
  subst e
  have e : W = [] := List.eq_nil_of_length_eq_zero h1
  subst e
  exact ⟨rfl, by simp; omega, by omega, fun _ => put_one T (closed_free T (wrd_free hT)) (wrd_ends hT)⟩

theorem PcInv.more (k : Nat) (u v x : List UInt8) (S : List UInt8) (W : List (List UInt8)) (h : PcInv k S W) (hk : 0 < k) (hu : u.all bl2 = true) (hv : v.all bl2 = true) (hc : Closed x) (he : Ends x) (hl : u.length + v.length + x.length ≤ 35) : PcInv (k + 1) (S ++ (u ++ 44 :: v) ++ x) (W ++ [x]) := by
  obtain ⟨h1, h2, h3, h4⟩ := h
  exact ⟨by simp [h1], by simp; omega, by omega, fun _ => put_more (h4 hk) u v x hu hv hc he⟩

theorem quoted_len (T : List UInt8) : (quoted T).length = 2 * T.length + 4 := by simp [quoted]; omega

theorem split_one (S : List UInt8) (W : List (List UInt8)) (h : Put S W) : splitV [⟨[88], S⟩] [120] = W ∧ getB [⟨[88], S⟩] [120] = true := by
  have e : selV [⟨[88], S⟩] [120] = [S] := rfl
  constructor
  · unfold splitV getT
    rw [e, show Lib.join [S] [44, 32] = S by simp [Lib.join, List.intercalate]]
    exact put_split h
  · unfold getB; rw [e]; rfl

set_option maxHeartbeats 8000000 in
set_option maxRecDepth 100000 in
theorem headersPieces_walk (v : Value) (L : List (List UInt8)) (w : World) (hv : TxAt w v L) (hz : ∀ x ∈ L, x.length ≤ maxLen) (hg : G5 w) :
    Calls Tryd.prog 8 #[v] w fun e w' => e = .returned (.bool true) ∧ Below w.heap.size w w' := by
  have HG := hid hg
  have HZ := hid hz
  clear hg hz
  obtain ⟨i0, hi, hz0, hz1, hz2⟩ := info3 infoTx
  obtain ⟨a1, c1, rfl, hc1, hm1, hv1⟩ := hv.view
  have V1 := hid hv1
  clear hv hv1
  go_enter Tryd.func8, Tryd.ntmps8
  go_wp2
  go_loopw [3, 4, 5, 6] (fun s vv i x wr => ∃ (k : Nat) (S : List UInt8) (W : List (List UInt8)), k ≤ 8 ∧ k ≤ L.length ∧ i = .int .i64 k ∧ s = .string ⟨S.toArray⟩ ∧ PcInv k S W ∧ wr.ownsRow w.heap.size 9 1 vv W.length (cellsT W) ∧ Below w.heap.size w wr)
    (fun _ _ i _ _ => 8 - (intOf i).toNat)
  case atStart => exact ⟨0, [], [], by omega, by omega, rfl, rfl, ⟨rfl, by simp, fun _ => rfl, fun h => absurd h (by omega)⟩, World.ownsRow_nil _ _ _ _, Below.refl _ _⟩
  case round =>
    obtain ⟨k, S, W, hk8, hkL, rfl, rfl, hinv, hown, hbw⟩ := hrel
    have HI := hid hinv
    have HO := hid hown
    have hSl : S.length ≤ 400 := by have := hinv.2.1; omega
    have hWl : W.length ≤ 8 := by have := hinv.1; omega
    have hwr := hbw.size
    clear hinv hown
    by_cases hlt : k < L.length
    · have hlt' : (k : Int) < (L.length : Int) := by omega
      by_cases hk : k < 8
      · have hk' : (k : Int) < 8 := by omega
        obtain ⟨b1, o1, rfl, e1⟩ := V1.out k hlt
        have f1 : wr.cell? ⟨b1, o1 + k, none⟩ = some (.string ⟨L[k].toArray⟩) := (hbw.cell (World.block_lt_of_cell? w _ e1)).trans e1
        clear e1
        obtain ⟨X, hX⟩ : ∃ x : ByteArray, x = ⟨L[k].toArray⟩ := ⟨_, rfl⟩
        rw [← hX] at f1
        have hXs : X.size ≤ 9223372036854775807 := by rw [hX, xsize]; exact HZ.out _ (List.getElem_mem hlt)
        clear hX
        rcases (show k = 0 ∨ k = 1 ∨ k = 2 ∨ k = 3 ∨ k = 4 ∨ k = 5 ∨ k = 6 ∨ k = 7 by omega) with rfl | rfl | rfl | rfl | rfl | rfl | rfl | rfl
        · rw [Nat.add_zero] at f1
          go_wp2_with fail
          refine (word_any X _ hXs).mono ?_
          rintro e w1 ⟨T, rfl, hT, hTl, rfl⟩
          have HT := hid hT
          clear hT
          go_wp2_with (at_builtin; go_must (refine wpList_append_own _ rfl _ _ 30 rfl w.heap.size 9 i0 (.string ByteArray.empty) 1 16 Tryd.underlying30 hi hz0 hz1 hz2 rfl (by decide) _ _ _ rfl (HO.out.alloc _) ⟨wr.heap.size, 0, none⟩ 1 1 [.string ⟨T.toArray⟩] rfl rfl ?c1 ?c2 ?c3 ?c4 ?c5 ?_))
          case c1 =>
            intro q u hq
            match q, hq with
            | 0, hq => simp at hq; subst hq; simp [Addr.add]
          case c2 => intro u hu; simp at hu; subst hu; rfl
          case c3 => unfold maxLen; omega
          case c4 => omega
          case c5 => simp; omega
          intro v' w3 hown' hgrow hnil
          have HO3 := hid hown'
          have HB3 := hid (show Below w.heap.size w w3 from ((hbw).alloc (by first | omega | (simp; omega)) _).grown hgrow (by simp; omega) (fun g hg => (HO.out.lt g hg).1))
          clear hown' hgrow hnil
          go_wp2
          go_roundw
          case rel =>
            refine ⟨1, S ++ T, W ++ [T], by omega, by omega, by go_num, ?_, PcInv.first T S W HI.out HT.out hTl, ?_, HB3.out⟩
            · first | rfl | (refine congrArg Value.string (xext ?_); simp [ba_app, quoted])
            · rw [cellsT_app, cellsT_l, List.length_append]
              exact HO3.out
          case measure => simp [intOf]
        · go_wp2_with fail
          refine (word_any X _ hXs).mono ?_
          rintro e w1 ⟨T, rfl, hT, hTl, rfl⟩
          have HT := hid hT
          clear hT
          go_wp2_with (at_builtin; go_must (refine wpList_append_own _ rfl _ _ 30 rfl w.heap.size 9 i0 (.string ByteArray.empty) 1 16 Tryd.underlying30 hi hz0 hz1 hz2 rfl (by decide) _ _ _ rfl ((HO.out.alloc (.cells #[.string ⟨#[44]⟩, .string ⟨#[44, 32]⟩, .string ⟨#[32, 44, 9]⟩] 9)).alloc _) ⟨wr.heap.size + 1, 0, none⟩ 1 1 [.string ⟨T.toArray⟩] rfl rfl ?c1 ?c2 ?c3 ?c4 ?c5 ?_))
          case c1 =>
            intro q u hq
            match q, hq with
            | 0, hq => simp at hq; subst hq; simp [Addr.add]
          case c2 => intro u hu; simp at hu; subst hu; rfl
          case c3 => unfold maxLen; omega
          case c4 => omega
          case c5 => simp; omega
          intro v' w3 hown' hgrow hnil
          have HO3 := hid hown'
          have HB3 := hid (show Below w.heap.size w w3 from (((hbw.alloc hwr (.cells #[.string ⟨#[44]⟩, .string ⟨#[44, 32]⟩, .string ⟨#[32, 44, 9]⟩] 9))).alloc (by first | omega | (simp; omega)) _).grown hgrow (by simp; omega) (fun g hg => (HO.out.lt g hg).1))
          clear hown' hgrow hnil
          go_wp2
          go_roundw
          case rel =>
            refine ⟨2, S ++ ([] ++ 44 :: [32]) ++ T, W ++ [T], by omega, by omega, by go_num, ?_, PcInv.more 1 [] [32] T S W HI.out (by omega) (by decide) (by decide) (closed_free T (wrd_free HT.out)) (wrd_ends HT.out) (by simp; omega), ?_, HB3.out⟩
            · first | rfl | (refine congrArg Value.string (xext ?_); simp [ba_app, quoted])
            · rw [cellsT_app, cellsT_l, List.length_append]
              exact HO3.out
          case measure => simp [intOf]
        · go_wp2_with fail
          refine (word_any X _ hXs).mono ?_
          rintro e w1 ⟨T, rfl, hT, hTl, rfl⟩
          have HT := hid hT
          clear hT
          go_wp2_with (at_builtin; go_must (refine wpList_append_own _ rfl _ _ 30 rfl w.heap.size 9 i0 (.string ByteArray.empty) 1 16 Tryd.underlying30 hi hz0 hz1 hz2 rfl (by decide) _ _ _ rfl ((HO.out.alloc (.cells #[.string ⟨#[44]⟩, .string ⟨#[44, 32]⟩, .string ⟨#[32, 44, 9]⟩] 9)).alloc _) ⟨wr.heap.size + 1, 0, none⟩ 1 1 [.string (⟨#[34]⟩ ++ ⟨T.toArray⟩ ++ ⟨#[44, 32]⟩ ++ ⟨T.toArray⟩ ++ ⟨#[34]⟩)] rfl rfl ?c1 ?c2 ?c3 ?c4 ?c5 ?_))
          case c1 =>
            intro q u hq
            match q, hq with
            | 0, hq => simp at hq; subst hq; simp [Addr.add]
          case c2 => intro u hu; simp at hu; subst hu; rfl
          case c3 => unfold maxLen; omega
          case c4 => omega
          case c5 => simp; omega
          intro v' w3 hown' hgrow hnil
          have HO3 := hid hown'
          have HB3 := hid (show Below w.heap.size w w3 from (((hbw.alloc hwr (.cells #[.string ⟨#[44]⟩, .string ⟨#[44, 32]⟩, .string ⟨#[32, 44, 9]⟩] 9))).alloc (by first | omega | (simp; omega)) _).grown hgrow (by simp; omega) (fun g hg => (HO.out.lt g hg).1))
          clear hown' hgrow hnil
          go_wp2
          go_roundw
          case rel =>
            refine ⟨3, S ++ ([32] ++ 44 :: [9]) ++ quoted T, W ++ [quoted T], by omega, by omega, by go_num, ?_, PcInv.more 2 [32] [9] (quoted T) S W HI.out (by omega) (by decide) (by decide) (quoted_closed HT.out) (quoted_ends T) (by rw [quoted_len]; simp; omega), ?_, HB3.out⟩
            · first | rfl | (refine congrArg Value.string (xext ?_); simp [ba_app, quoted])
            · rw [cellsT_app, cellsT_l, List.length_append, ← q_app]
              exact HO3.out
          case measure => simp [intOf]
        · go_wp2_with fail
          refine (word_any X _ hXs).mono ?_
          rintro e w1 ⟨T, rfl, hT, hTl, rfl⟩
          have HT := hid hT
          clear hT
          go_wp2_with (at_builtin; go_must (refine wpList_append_own _ rfl _ _ 30 rfl w.heap.size 9 i0 (.string ByteArray.empty) 1 16 Tryd.underlying30 hi hz0 hz1 hz2 rfl (by decide) _ _ _ rfl ((HO.out.alloc (.cells #[.string ⟨#[44]⟩, .string ⟨#[44, 32]⟩, .string ⟨#[32, 44, 9]⟩] 9)).alloc _) ⟨wr.heap.size + 1, 0, none⟩ 1 1 [.string ⟨T.toArray⟩] rfl rfl ?c1 ?c2 ?c3 ?c4 ?c5 ?_))
          case c1 =>
            intro q u hq
            match q, hq with
            | 0, hq => simp at hq; subst hq; simp [Addr.add]
          case c2 => intro u hu; simp at hu; subst hu; rfl
          case c3 => unfold maxLen; omega
          case c4 => omega
          case c5 => simp; omega
          intro v' w3 hown' hgrow hnil
          have HO3 := hid hown'
          have HB3 := hid (show Below w.heap.size w w3 from (((hbw.alloc hwr (.cells #[.string ⟨#[44]⟩, .string ⟨#[44, 32]⟩, .string ⟨#[32, 44, 9]⟩] 9))).alloc (by first | omega | (simp; omega)) _).grown hgrow (by simp; omega) (fun g hg => (HO.out.lt g hg).1))
          clear hown' hgrow hnil
          go_wp2
          go_roundw
          case rel =>
            refine ⟨4, S ++ ([] ++ 44 :: []) ++ T, W ++ [T], by omega, by omega, by go_num, ?_, PcInv.more 3 [] [] T S W HI.out (by omega) (by decide) (by decide) (closed_free T (wrd_free HT.out)) (wrd_ends HT.out) (by simp; omega), ?_, HB3.out⟩
            · first | rfl | (refine congrArg Value.string (xext ?_); simp [ba_app, quoted])
            · rw [cellsT_app, cellsT_l, List.length_append]
              exact HO3.out
          case measure => simp [intOf]
        · go_wp2_with fail
          refine (word_any X _ hXs).mono ?_
          rintro e w1 ⟨T, rfl, hT, hTl, rfl⟩
          have HT := hid hT
          clear hT
          go_wp2_with (at_builtin; go_must (refine wpList_append_own _ rfl _ _ 30 rfl w.heap.size 9 i0 (.string ByteArray.empty) 1 16 Tryd.underlying30 hi hz0 hz1 hz2 rfl (by decide) _ _ _ rfl ((HO.out.alloc (.cells #[.string ⟨#[44]⟩, .string ⟨#[44, 32]⟩, .string ⟨#[32, 44, 9]⟩] 9)).alloc _) ⟨wr.heap.size + 1, 0, none⟩ 1 1 [.string ⟨T.toArray⟩] rfl rfl ?c1 ?c2 ?c3 ?c4 ?c5 ?_))
          case c1 =>
            intro q u hq
            match q, hq with
            | 0, hq => simp at hq; subst hq; simp [Addr.add]
          case c2 => intro u hu; simp at hu; subst hu; rfl
          case c3 => unfold maxLen; omega
          case c4 => omega
          case c5 => simp; omega
          intro v' w3 hown' hgrow hnil
          have HO3 := hid hown'
          have HB3 := hid (show Below w.heap.size w w3 from (((hbw.alloc hwr (.cells #[.string ⟨#[44]⟩, .string ⟨#[44, 32]⟩, .string ⟨#[32, 44, 9]⟩] 9))).alloc (by first | omega | (simp; omega)) _).grown hgrow (by simp; omega) (fun g hg => (HO.out.lt g hg).1))
          clear hown' hgrow hnil
          go_wp2
          go_roundw
          case rel =>
            refine ⟨5, S ++ ([] ++ 44 :: [32]) ++ T, W ++ [T], by omega, by omega, by go_num, ?_, PcInv.more 4 [] [32] T S W HI.out (by omega) (by decide) (by decide) (closed_free T (wrd_free HT.out)) (wrd_ends HT.out) (by simp; omega), ?_, HB3.out⟩
            · first | rfl | (refine congrArg Value.string (xext ?_); simp [ba_app, quoted])
            · rw [cellsT_app, cellsT_l, List.length_append]
              exact HO3.out
          case measure => simp [intOf]
        · go_wp2_with fail
          refine (word_any X _ hXs).mono ?_
          rintro e w1 ⟨T, rfl, hT, hTl, rfl⟩
          have HT := hid hT
          clear hT
          go_wp2_with (at_builtin; go_must (refine wpList_append_own _ rfl _ _ 30 rfl w.heap.size 9 i0 (.string ByteArray.empty) 1 16 Tryd.underlying30 hi hz0 hz1 hz2 rfl (by decide) _ _ _ rfl ((HO.out.alloc (.cells #[.string ⟨#[44]⟩, .string ⟨#[44, 32]⟩, .string ⟨#[32, 44, 9]⟩] 9)).alloc _) ⟨wr.heap.size + 1, 0, none⟩ 1 1 [.string (⟨#[34]⟩ ++ ⟨T.toArray⟩ ++ ⟨#[44, 32]⟩ ++ ⟨T.toArray⟩ ++ ⟨#[34]⟩)] rfl rfl ?c1 ?c2 ?c3 ?c4 ?c5 ?_))
          case c1 =>
            intro q u hq
            match q, hq with
            | 0, hq => simp at hq; subst hq; simp [Addr.add]
          case c2 => intro u hu; simp at hu; subst hu; rfl
          case c3 => unfold maxLen; omega
          case c4 => omega
          case c5 => simp; omega
          intro v' w3 hown' hgrow hnil
          have HO3 := hid hown'
          have HB3 := hid (show Below w.heap.size w w3 from (((hbw.alloc hwr (.cells #[.string ⟨#[44]⟩, .string ⟨#[44, 32]⟩, .string ⟨#[32, 44, 9]⟩] 9))).alloc (by first | omega | (simp; omega)) _).grown hgrow (by simp; omega) (fun g hg => (HO.out.lt g hg).1))
          clear hown' hgrow hnil
          go_wp2
          go_roundw
          case rel =>
            refine ⟨6, S ++ ([32] ++ 44 :: [9]) ++ quoted T, W ++ [quoted T], by omega, by omega, by go_num, ?_, PcInv.more 5 [32] [9] (quoted T) S W HI.out (by omega) (by decide) (by decide) (quoted_closed HT.out) (quoted_ends T) (by rw [quoted_len]; simp; omega), ?_, HB3.out⟩
            · first | rfl | (refine congrArg Value.string (xext ?_); simp [ba_app, quoted])
            · rw [cellsT_app, cellsT_l, List.length_append, ← q_app]
              exact HO3.out
          case measure => simp [intOf]
        · go_wp2_with fail
          refine (word_any X _ hXs).mono ?_
          rintro e w1 ⟨T, rfl, hT, hTl, rfl⟩
          have HT := hid hT
          clear hT
          go_wp2_with (at_builtin; go_must (refine wpList_append_own _ rfl _ _ 30 rfl w.heap.size 9 i0 (.string ByteArray.empty) 1 16 Tryd.underlying30 hi hz0 hz1 hz2 rfl (by decide) _ _ _ rfl ((HO.out.alloc (.cells #[.string ⟨#[44]⟩, .string ⟨#[44, 32]⟩, .string ⟨#[32, 44, 9]⟩] 9)).alloc _) ⟨wr.heap.size + 1, 0, none⟩ 1 1 [.string ⟨T.toArray⟩] rfl rfl ?c1 ?c2 ?c3 ?c4 ?c5 ?_))
          case c1 =>
            intro q u hq
            match q, hq with
            | 0, hq => simp at hq; subst hq; simp [Addr.add]
          case c2 => intro u hu; simp at hu; subst hu; rfl
          case c3 => unfold maxLen; omega
          case c4 => omega
          case c5 => simp; omega
          intro v' w3 hown' hgrow hnil
          have HO3 := hid hown'
          have HB3 := hid (show Below w.heap.size w w3 from (((hbw.alloc hwr (.cells #[.string ⟨#[44]⟩, .string ⟨#[44, 32]⟩, .string ⟨#[32, 44, 9]⟩] 9))).alloc (by first | omega | (simp; omega)) _).grown hgrow (by simp; omega) (fun g hg => (HO.out.lt g hg).1))
          clear hown' hgrow hnil
          go_wp2
          go_roundw
          case rel =>
            refine ⟨7, S ++ ([] ++ 44 :: []) ++ T, W ++ [T], by omega, by omega, by go_num, ?_, PcInv.more 6 [] [] T S W HI.out (by omega) (by decide) (by decide) (closed_free T (wrd_free HT.out)) (wrd_ends HT.out) (by simp; omega), ?_, HB3.out⟩
            · first | rfl | (refine congrArg Value.string (xext ?_); simp [ba_app, quoted])
            · rw [cellsT_app, cellsT_l, List.length_append]
              exact HO3.out
          case measure => simp [intOf]
        · go_wp2_with fail
          refine (word_any X _ hXs).mono ?_
          rintro e w1 ⟨T, rfl, hT, hTl, rfl⟩
          have HT := hid hT
          clear hT
          go_wp2_with (at_builtin; go_must (refine wpList_append_own _ rfl _ _ 30 rfl w.heap.size 9 i0 (.string ByteArray.empty) 1 16 Tryd.underlying30 hi hz0 hz1 hz2 rfl (by decide) _ _ _ rfl ((HO.out.alloc (.cells #[.string ⟨#[44]⟩, .string ⟨#[44, 32]⟩, .string ⟨#[32, 44, 9]⟩] 9)).alloc _) ⟨wr.heap.size + 1, 0, none⟩ 1 1 [.string ⟨T.toArray⟩] rfl rfl ?c1 ?c2 ?c3 ?c4 ?c5 ?_))
          case c1 =>
            intro q u hq
            match q, hq with
            | 0, hq => simp at hq; subst hq; simp [Addr.add]
          case c2 => intro u hu; simp at hu; subst hu; rfl
          case c3 => unfold maxLen; omega
          case c4 => omega
          case c5 => simp; omega
          intro v' w3 hown' hgrow hnil
          have HO3 := hid hown'
          have HB3 := hid (show Below w.heap.size w w3 from (((hbw.alloc hwr (.cells #[.string ⟨#[44]⟩, .string ⟨#[44, 32]⟩, .string ⟨#[32, 44, 9]⟩] 9))).alloc (by first | omega | (simp; omega)) _).grown hgrow (by simp; omega) (fun g hg => (HO.out.lt g hg).1))
          clear hown' hgrow hnil
          go_wp2
          go_roundw
          case rel =>
            refine ⟨8, S ++ ([] ++ 44 :: [32]) ++ T, W ++ [T], by omega, by omega, by go_num, ?_, PcInv.more 7 [] [32] T S W HI.out (by omega) (by decide) (by decide) (closed_free T (wrd_free HT.out)) (wrd_ends HT.out) (by simp; omega), ?_, HB3.out⟩
            · first | rfl | (refine congrArg Value.string (xext ?_); simp [ba_app, quoted])
            · rw [cellsT_app, cellsT_l, List.length_append]
              exact HO3.out
          case measure => simp [intOf]
      · have hke : k = 8 := by omega
        subst hke
        clear hk
        have hlt2 : (8 : Int) < (L.length : Int) := by omega
        have htx := own_txt' HO.out
        obtain ⟨a2, c2, rfl, _, _, _⟩ := htx.view
        have HX := hid htx
        clear htx
        by_cases h0 : W.length = 0
        · have hg0 : Hid (G5 wr) := HG.out.kept hbw
          go_wp2_with fail
          refine (known_any _ hg0.out).mono ?_
          rintro e w2 ⟨rfl, hb2⟩
          go_wp2
          go_ret
          exact ⟨rfl, belowT hbw hb2⟩
        · have h0' : ((W.length : Int) == 0) = false := by rw [beq_eq_false_iff_ne]; omega
          have hp : Put S W := HI.out.2.2.2 (by have := HI.out.1; omega)
          have hsp := split_one S W hp
          have HSP := hid hsp
          clear hp hsp
          go_wp2_with fail
          refine (h_any _ _ _).mono ?_
          rintro e w2 ⟨rfl, hb2⟩
          unfold hdVal
          go_wp2_with fail
          have hh := hd_new w2 [⟨[88], S⟩] 28 (by simp)
          have hbw2 := belowT hbw hb2
          refine (split_any _ [⟨[88], S⟩] ⟨#[120]⟩ _ hh (by decide) (fun h hh => by simp at hh; subst hh; simp; omega) (by simp) (by simp [bulkV]; omega) HSP.out.2).mono ?_
          rintro e w3 ⟨v3, rfl, hown3, hb3⟩
          rw [show (⟨#[120]⟩ : ByteArray).data.toList = [120] from rfl, HSP.out.1] at hown3
          have HT3 := hid (own_txt' hown3)
          have HB3 := hid (belowT (belowA hbw2 _) hb3)
          have HX3 := hid (HX.out.kept (belowT (belowA hb2 _) hb3))
          clear hown3 hb3 hb2 hbw2 hh
          go_wp2_with fail
          refine (sameT_any _ _ W W _ HT3.out HX3.out (by omega) (by omega)).mono ?_
          rintro e w4 ⟨rfl, hb4⟩
          rw [show decide (W = W) = true by simp]
          have HB4 := hid (belowT HB3.out hb4)
          have HG4 := hid (HG.out.kept HB4.out)
          go_wp2_with fail
          refine (known_any _ HG4.out).mono ?_
          rintro e w5 ⟨rfl, hb5⟩
          go_wp2
          go_ret
          exact ⟨rfl, belowT HB4.out hb5⟩
    · have hlt' : decide ((k : Int) < (L.length : Int)) = false := by rw [decide_eq_false_iff_not]; omega
      have htx := own_txt' HO.out
      obtain ⟨a2, c2, rfl, _, _, _⟩ := htx.view
      have HX := hid htx
      clear htx
      by_cases h0 : W.length = 0
      · have hg0 : Hid (G5 wr) := HG.out.kept hbw
        go_wp2_with fail
        refine (known_any _ hg0.out).mono ?_
        rintro e w2 ⟨rfl, hb2⟩
        go_wp2
        go_ret
        exact ⟨rfl, belowT hbw hb2⟩
      · have h0' : ((W.length : Int) == 0) = false := by rw [beq_eq_false_iff_ne]; omega
        have hp : Put S W := HI.out.2.2.2 (by have := HI.out.1; omega)
        have hsp := split_one S W hp
        have HSP := hid hsp
        clear hp hsp
        go_wp2_with fail
        refine (h_any _ _ _).mono ?_
        rintro e w2 ⟨rfl, hb2⟩
        unfold hdVal
        go_wp2_with fail
        have hh := hd_new w2 [⟨[88], S⟩] 28 (by simp)
        have hbw2 := belowT hbw hb2
        refine (split_any _ [⟨[88], S⟩] ⟨#[120]⟩ _ hh (by decide) (fun h hh => by simp at hh; subst hh; simp; omega) (by simp) (by simp [bulkV]; omega) HSP.out.2).mono ?_
        rintro e w3 ⟨v3, rfl, hown3, hb3⟩
        rw [show (⟨#[120]⟩ : ByteArray).data.toList = [120] from rfl, HSP.out.1] at hown3
        have HT3 := hid (own_txt' hown3)
        have HB3 := hid (belowT (belowA hbw2 _) hb3)
        have HX3 := hid (HX.out.kept (belowT (belowA hb2 _) hb3))
        clear hown3 hb3 hb2 hbw2 hh
        go_wp2_with fail
        refine (sameT_any _ _ W W _ HT3.out HX3.out (by omega) (by omega)).mono ?_
        rintro e w4 ⟨rfl, hb4⟩
        rw [show decide (W = W) = true by simp]
        have HB4 := hid (belowT HB3.out hb4)
        have HG4 := hid (HG.out.kept HB4.out)
        go_wp2_with fail
        refine (known_any _ HG4.out).mono ?_
        rintro e w5 ⟨rfl, hb5⟩
        go_wp2
        go_ret
        exact ⟨rfl, belowT HB4.out hb5⟩

end Go.Proofs.YtknlmifjadolpaaDoor
