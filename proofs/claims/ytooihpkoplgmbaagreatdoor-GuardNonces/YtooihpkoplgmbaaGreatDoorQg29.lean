/- Walks and plain facts. -/
import Derived.Test.YtooihpkoplgmbaaGreatDoorQg28
set_option linter.unusedSimpArgs false
set_option linter.unusedVariables false
set_option maxHeartbeats 16000000
set_option maxRecDepth 100000

namespace Go.Proofs.YtooihpkoplgmbaaGreatDoor
open Go.RowKit
def bs_ren : Go.Shelf.Ren := ⟨fun | 26 => 210 | 33 => 122 | 34 => 239 | 38 => 161 | n => n, fun | 0 => 0 | 3 => 3 | 4 => 4 | 9 => 9 | 24 => 29 | 40 => 119 | n => n, fun | n => n⟩
theorem bs_lays : Go.Proofs.Lays2.n26 Tryz.prog bs_ren := {
 mixed := by kernel_rfl
 f26 := Tryz.func210.trans (congrArg some (by kernel_rfl))
 f33 := Tryz.func122.trans (congrArg some (by kernel_rfl))
 f34 := Tryz.func239.trans (congrArg some (by kernel_rfl))
 f38 := Tryz.func161.trans (congrArg some (by kernel_rfl))
 t0 := Tryz.underlying0
 a0 := Tryz.isAgg0
 z0 := Tryz.sizeOf0
 v0 := Tryz.zeroValue0
 t3 := Tryz.underlying3
 a3 := Tryz.isAgg3
 z3 := Tryz.sizeOf3
 v3 := Tryz.zeroValue3
 t4 := Tryz.underlying4
 a4 := Tryz.isAgg4
 z4 := Tryz.sizeOf4
 v4 := Tryz.zeroValue4
 t9 := Tryz.underlying9
 a9 := Tryz.isAgg9
 z9 := Tryz.sizeOf9
 v9 := Tryz.zeroValue9
 t24 := Tryz.underlying29
 a24 := Tryz.isAgg29
 z24 := Tryz.sizeOf29
 v24 := Tryz.zeroValue29
 t40 := Tryz.underlying119
 a40 := Tryz.isAgg119
 z40 := Tryz.sizeOf119
 v40 := Tryz.zeroValue119 }
theorem srt_mem (X : List (List UInt8)) (t : List UInt8) : t ∈ srtT X ↔ t ∈ X := by unfold srtT; exact List.mem_mergeSort
theorem srt_pair (X : List (List UInt8)) : (srtT X).Pairwise (fun a b => a <= b) := by
 have h := List.pairwise_mergeSort (le := fun x y : List UInt8 => decide (x <= y)) (fun a b c h1 h2 => by
  simp only [decide_eq_true_eq] at *
  exact List.le_trans h1 h2) (fun a b => by
  simp only [Bool.or_eq_true, decide_eq_true_eq]
  exact List.le_total a b) X
 exact h.imp (fun h => by simpa using h)
theorem bs_found (S : List (List UInt8)) (t : ByteArray) (hp : S.Pairwise (fun a b => a <= b)) (Sx : Nat -> ByteArray) (h1 : ∀ j (h : j < S.length), Sx j = ⟨S[j].toArray⟩) (h2 : ∀ j, S.length <= j -> Sx j = t) :
  decide (Lib.bsGo (fun j => Op.bytesLess (Sx j).toList t.toList) S.length 0 S.length < S.length /\ Sx (Lib.bsGo (fun j => Op.bytesLess (Sx j).toList t.toList) S.length 0 S.length) = t) = S.contains t.data.toList := by
 have hls : ∀ j, Op.bytesLess (Sx j).toList t.toList = decide ((Sx j).data.toList < t.data.toList) := fun j => by rw [bytesLess_eq, Lib.toList_data, Lib.toList_data]
 obtain ⟨k, hk1, hk2, hk3⟩ : ∃ k, k <= S.length /\ (∀ j, j < k -> (Sx j).data.toList < t.data.toList) /\ ∀ j, k <= j -> ¬ (Sx j).data.toList < t.data.toList := by
  have key : ∀ n, n <= S.length -> (∃ k, k <= n /\ (∀ j, j < k -> (Sx j).data.toList < t.data.toList) /\ ∀ j, k <= j -> j < n -> ¬ (Sx j).data.toList < t.data.toList) := by
   intro n
   induction n with
   | zero => intro _; exact ⟨0, Nat.le_refl _, fun j h => absurd h (Nat.not_lt_zero _), fun j _ h => absurd h (Nat.not_lt_zero _)⟩
   | succ n ih =>
    intro hn
    obtain ⟨k, h3, h4, h5⟩ := ih (by omega)
    by_cases hlt : (Sx n).data.toList < t.data.toList
    ·refine ⟨n + 1, Nat.le_refl _, fun j hj => ?_, fun j h6 h7 => by omega⟩
     by_cases hjn : j = n
     ·rw [hjn]; exact hlt
     ·have hle : S[j]'(by omega) <= S[n]'(by omega) := List.pairwise_iff_getElem.1 hp j n (by omega) (by omega) (by omega)
      rw [h1 n (by omega)] at hlt
      rw [h1 j (by omega)]
      exact List.lt_of_le_of_lt hle hlt
    ·refine ⟨k, by omega, h4, fun j h6 h7 => ?_⟩
     by_cases hjn : j = n
     ·rw [hjn]; exact hlt
     ·exact h5 j h6 (by omega)
  obtain ⟨k, h3, h4, h5⟩ := key S.length (Nat.le_refl _)
  refine ⟨k, h3, h4, fun j hj => ?_⟩
  by_cases h6 : j < S.length
  ·exact h5 j hj h6
  ·rw [h2 j (by omega)]; exact List.lt_irrefl _
 have hbs : Lib.bsGo (fun j => Op.bytesLess (Sx j).toList t.toList) S.length 0 S.length = k := by
  refine Lib.bsGo_spec _ k (fun j hj => ?_) (fun j hj => ?_) _ _ _ (by omega) (by omega) hk1
  ·rw [hls]; exact decide_eq_true (hk2 j hj)
  ·rw [hls]; exact decide_eq_false (hk3 j hj)
 rw [hbs]
 rw [Bool.eq_iff_iff]
 simp only [decide_eq_true_eq, List.contains_iff_mem]
 constructor
 ·rintro ⟨h3, h4⟩
  rw [h1 k h3] at h4
  rw [<- h4]
  exact List.getElem_mem h3
 ·intro hm
  obtain ⟨j, hj, e⟩ := List.getElem_of_mem hm
  have hkj : k <= j := by
   rcases Nat.lt_or_ge j k with h | h
   ·have := hk2 j h
    rw [h1 j hj] at this
    have e2 : (⟨S[j].toArray⟩ : ByteArray).data.toList = S[j] := rfl
    rw [e2, e] at this
    exact absurd this (List.lt_irrefl _)
   ·exact h
  have hkl : k < S.length := by omega
  refine ⟨hkl, ?_⟩
  have h5 : ¬ S[k] < t.data.toList := by have := hk3 k (Nat.le_refl _); rw [h1 k hkl] at this; exact this
  have h6 : S[k] <= t.data.toList := by
   by_cases hjk : k = j
   ·subst hjk; rw [e]; exact List.le_refl _
   ·have := List.pairwise_iff_getElem.1 hp k j hkl hj (by omega)
    rw [e] at this; exact this
  have h7 : S[k] = t.data.toList := List.le_antisymm h6 (List.not_lt.1 h5)
  rw [h1 k hkl, h7]
theorem search_any (v : Value) (X : List (List UInt8)) (t : ByteArray) (w : World) (hv : PathAt w v (srtT X)) (hl : X.length <= 1000000) :
  Calls Tryz.prog 210 #[v, .string t] w fun e w' => ∃ i : Int, e = .returned (.tuple #[.int .i64 i, .bool (X.contains t.data.toList)]) /\ Below w.heap.size w w' := by
 have hc : (srtT X).contains t.data.toList = X.contains t.data.toList := by
  rw [Bool.eq_iff_iff]
  simp only [List.contains_iff_mem]
  exact srt_mem X _
 have hlen : (srtT X).length = X.length := by unfold srtT; exact List.length_mergeSort ..
 rcases hv with ⟨rfl, hn⟩ | ⟨b, cap, rfl, _, _, _, h5⟩
 ·refine (Any2.slices_BinarySearch_string_empty bs_lays none 0 t w).mono ?_
  rintro e w' ⟨rfl, rfl⟩
  refine ⟨0, ?_, Below.refl _ _⟩
  rw [<- hc, hn]; rfl
 ·refine (Any2.slices_BinarySearch_string bs_lays b 0 (srtT X).length cap (fun j => if h : j < (srtT X).length then ⟨(srtT X)[j].toArray⟩ else t) t w (by omega) (fun j hj => by
   simp only [hj, dif_pos]
   rw [Nat.zero_add]
   exact h5 j hj)).mono ?_
  rintro e w' ⟨rfl, q, rfl⟩
  have hf := bs_found (srtT X) t (srt_pair X) (fun j => if h : j < (srtT X).length then ⟨(srtT X)[j].toArray⟩ else t) (fun j h => by simp only [h, dif_pos]) (fun j h => by rw [dif_neg (by omega)])
  rw [<- hc, <- hf]
  exact ⟨_, rfl, Go.below_drewN (Below.refl _ _) _⟩
theorem enters_lst : ∀ args w, (callFunc 209 args).run Tryz.prog w = .ok (.enter 209 args) w := enters_of Tryz.func209 (by kernel_rfl) rfl
theorem lst1_any (p : Nat) (sv : Value) (X : List (List UInt8)) (t : ByteArray) (w : World) (hc : w.cell? ⟨p, 0, none⟩ = some sv) (hv : PathAt w sv (srtT X)) (hl : X.length <= 1000000) :
  Calls Tryz.prog 209 #[.string t, .pointer (some ⟨p, 0, none⟩)] w fun e w' => e = .returned (.bool (X.contains t.data.toList)) /\ Below w.heap.size w w' := by
 have HS := hid (search_any sv X t w hv hl)
 obtain ⟨q, hq⟩ : ∃ q, X.contains t.data.toList = q := ⟨_, rfl⟩
 rw [hq] at HS
 rw [hq]
 clear hq
 obtain ⟨a, n, c, rfl⟩ : ∃ a n c, sv = .slice a n c := by
  rcases hv with ⟨rfl, _⟩ | ⟨b, cap, rfl, _⟩
  ·exact ⟨_, _, _, rfl⟩
  ·exact ⟨_, _, _, rfl⟩
 clear hv
 go_enter Tryz.func209, Tryz.ntmps209
 go_wp2_with fail
 refine HS.out.mono ?_
 rintro e w1 ⟨i, rfl, hb1⟩
 go_wp2
 go_ret
 exact ⟨rfl, hb1⟩
theorem listed_any (v : Value) (L : List (List UInt8)) (w : World) (hg : Gd w) (hv : TxAt w v L) (hl : L.length <= 1000000) (hs : ∀ x ∈ L, x.length <= 1000000) :
  Calls Tryz.prog 177 #[v] w (MkPost11 (fun s => (txtsV L).contains s) w) := by
 refine (listed_loop v L w hg hv hl hs).mono ?_
 rintro e w' ⟨p, sv, rfl, hc, hp, hb⟩
 have hlt : (txtsV L).length <= 1000000 := by have := txts_len L; omega
 exact ⟨_, rfl, ⟨_, _, rfl, enters_lst, fun X s hX _ => lst1_any p sv (txtsV L) s X (keptC hc hX) (hp.kept hX) hlt⟩, hb⟩
theorem hostC_any (u : Adr) (pv : Value) (cu cn : Nat) (nv : Value) (q : List UInt8 -> Bool) (s : ByteArray) (w : World) (hA : AdrIn w cu u pv) (hn : w.cell? ⟨cn, 0, none⟩ = some nv) (hr : Rdr11 w nv q) (hs : s.size <= 4000000000) (hh : u.host.length <= 4000000000) :
  Calls Tryz.prog 199 #[.string s, .pointer (some ⟨cu, 0, none⟩), .pointer (some ⟨cn, 0, none⟩)] w fun e w' => e = .returned (.bool (hostR u q s.data.toList)) /\ Below w.heap.size w w' := by
 obtain ⟨f, lb, rfl, eg, hc⟩ := hr
 obtain ⟨A, hAe⟩ : ∃ A : ByteArray, A = ⟨(aheadV [58, 47] s.data.toList).1.toArray⟩ := ⟨_, rfl⟩
 obtain ⟨R, hRe⟩ : ∃ A : ByteArray, A = ⟨(aheadV [58, 47] s.data.toList).2.toArray⟩ := ⟨_, rfl⟩
 have hle := ahead_le [58, 47] s.data.toList
 have hAl : A.data.toList = (aheadV [58, 47] s.data.toList).1 := by rw [hAe]
 have hRl : R.data.toList = (aheadV [58, 47] s.data.toList).2 := by rw [hRe]
 have hAs : A.size <= 4000000000 := by rw [hAe]; exact size_le hle.1 hs
 have hRs : R.size <= 4000000000 := by rw [hRe]; exact size_le hle.2 hs
 have HCut := hid (fun w => scut2_any s w hs)
 rw [<- hAe, <- hRe] at HCut
 have HLo := hid (fun w => lower_any A w (by omega))
 obtain ⟨N, hN⟩ : ∃ N : ByteArray, N = ⟨(low A.data.toList).toArray⟩ := ⟨_, rfl⟩
 have hNl : N.data.toList = low A.data.toList := by rw [hN]
 rw [<- hN] at HLo
 obtain ⟨H, hH⟩ : ∃ N : ByteArray, N = ⟨u.host.toArray⟩ := ⟨_, rfl⟩
 have hHl : H.data.toList = u.host := by rw [hH]
 have HHo := hid (fun w => hostMeans_any N H w (by rw [Lib.size_eq, hNl, low, List.length_map, <- Lib.size_eq]; exact hAs) (by rw [Lib.size_eq, hHl]; exact hh))
 have HV := hid (show hostR u q s.data.toList = (hostM N.data.toList H.data.toList && q R.data.toList) by unfold hostR; rw [hNl, hAl, hRl, hHl])
 obtain ⟨p, hpq⟩ : ∃ p, hostM N.data.toList H.data.toList = p := ⟨_, rfl⟩
 rw [hpq] at HV HHo
 have HN := hid hn
 have HA := hid (show w.cell? ⟨cu, 3, none⟩ = some (.string H) by rw [hH]; exact hA.cell 3 _ rfl)
 have HC := hid (fun (X : World) (hX : Below w.heap.size w X) => hc X R hX hRs)
 clear hn hA hc hle hAe hRe hAl hRl hAs hpq hN hNl hH hHl
 go_enter Tryz.func199, Tryz.ntmps199
 go_wp2_with fail
 refine (HCut.out _).mono ?_
 rintro e w1 ⟨rfl, hb1⟩
 have HB1 := hid hb1
 have HK := hid (show ∀ Z, Below w1.heap.size w1 Z -> Z.cell? ⟨cu, 3, none⟩ = some (.string H) /\ Z.cell? ⟨cn, 0, none⟩ = some (.func (.func f) #[] lb) from fun Z hZ => ⟨keptC HA.out (below2 HB1.out hZ), keptC HN.out (below2 HB1.out hZ)⟩)
 have HC1 := hid (fun (X : World) (hX : Below w1.heap.size w1 X) => HC.out X (below2 HB1.out hX))
 have HK1 := hid (fun (X Y : World) (hb : Below X.heap.size X Y) (h0 : Below w1.heap.size w1 X) => (show (fun wx : World => Below w1.heap.size w1 wx /\ wx.cell? ⟨cu, 3, none⟩ = some (.string H) /\ wx.cell? ⟨cn, 0, none⟩ = some (.func (.func f) #[] lb)) Y from let h := h0.trans (hb.mono h0.size); ⟨h, HK.out Y h⟩))
 have HK0 := hid (show (fun wx : World => Below w1.heap.size w1 wx /\ wx.cell? ⟨cu, 3, none⟩ = some (.string H) /\ wx.cell? ⟨cn, 0, none⟩ = some (.func (.func f) #[] lb)) w1.drew from let h := (Below.refl _ w1).drew; ⟨h, HK.out _ h⟩)
 clear hb1
 obtain ⟨d0, d1⟩ := HK.out w1 (Below.refl _ _)
 cases p with
 | false =>
  go_wp2_with fail
  have HKa : Hid (∀ Z, Below w1.drew.heap.size w1.drew Z -> Below w1.heap.size w1 Z /\ Z.cell? ⟨cu, 3, none⟩ = some (.string H)) := fun Z hZ => ⟨below2 (Below.refl _ w1).drew hZ, (HK.out Z (below2 (Below.refl _ w1).drew hZ)).1⟩
  first
   | (go_region_with (first
    | (go_at_call 49; refine (HLo.out _).mono ?_; rintro e wa ⟨rfl, hba⟩; obtain ⟨hbw, k0⟩ := HKa.out wa hba; clear hba)
    | (go_at_call 201; refine (HHo.out _).mono ?_; rintro e wb ⟨rfl, rfl⟩)))
   | fail "x"
  all_goals
   go_wp2
   go_ret
   exact ⟨ret_bool (by rw [HV.out]; rfl), below2 HB1.out hbw⟩
 | true =>
  go_wp2_with fail
  go_region_held (fun wx : World => Below w1.heap.size w1 wx /\ wx.cell? ⟨cu, 3, none⟩ = some (.string H) /\ wx.cell? ⟨cn, 0, none⟩ = some (.func (.func f) #[] lb))
   (first | exact HK0.out | exact HK1.out _ _ (by assumption) (by (try dsimp only at *); go_split_ands; assumption) | (go_split_ands; exact ⟨by assumption, by assumption, by assumption⟩))
   (first
    | (go_at_call 49; refine (HLo.out _).mono ?_; rintro e wa ⟨rfl, hba⟩)
    | (go_at_call 201; refine (HHo.out _).mono ?_; rintro e wb ⟨rfl, rfl⟩)
    | (refine (HC1.out _ (by (try dsimp only at *); go_split_ands; assumption)).mono ?_; rintro e wc ⟨rfl, hbc⟩))
  all_goals
   (try dsimp only at *)
   go_split_ands
   have hbw : Below w1.heap.size w1 wc := by assumption
   go_wp2
   go_ret
   exact ⟨ret_bool (by rw [HV.out]; rfl), below2 HB1.out hbw⟩
theorem enters_host : ∀ args w, (callFunc 199 args).run Tryz.prog w = .ok (.enter 199 args) w := enters_of Tryz.func199 (by kernel_rfl) rfl
theorem readHost_mk (u : Adr) (pv : Value) (hsl : IsSl pv) (f : Nat) (lb : Array Value) (w : World) :
  Calls Tryz.prog 174 #[adrVal u pv, .func (.func f) #[] lb] w fun e w' => e = .returned (.func (.func 199) #[] #[.pointer (some ⟨w.heap.size, 0, none⟩), .pointer (some ⟨w.heap.size + 1, 0, none⟩)]) /\ w' = (w.alloc (.cells (adrCells u pv).toArray 31)).alloc (.cells #[.func (.func f) #[] lb] 178) := by
 have hmf : ∀ (fn : Fn) (first cap : Array Value) (w : World), (Instr.makeFunc fn first cap).run Tryz.prog w = .ok (.func fn first cap) w := fun _ _ _ _ => rfl
 obtain ⟨a0, n0, c0, rfl⟩ := hsl
 unfold adrVal adrCells
 go_enter Tryz.func174, Tryz.ntmps174
 go_wp2
 go_ret
 exact ⟨rfl, rfl⟩
theorem readHost_any (u : Adr) (pv : Value) (hsl : IsSl pv) (hh : u.host.length <= 4000000000) (nv : Value) (q : List UInt8 -> Bool) (w : World) (hr : Rdr11 w nv q) :
  Calls Tryz.prog 174 #[adrVal u pv, nv] w (MkPost11 (hostR u q) w) := by
 have hr0 := hr
 obtain ⟨f, lb, rfl, eg, hc⟩ := hr0
 refine (readHost_mk u pv hsl f lb w).mono ?_
 rintro e w' ⟨rfl, hw⟩
 have h1 : AdrIn (w.alloc (.cells (adrCells u pv).toArray 31)) w.heap.size u pv := heap_alloc_new _ _
 have hb1 : Below w.heap.size w (w.alloc (.cells (adrCells u pv).toArray 31)) := (Below.refl _ w).alloc (Nat.le_refl _) _
 have hz : (w.alloc (.cells (adrCells u pv).toArray 31)).heap.size = w.heap.size + 1 := by simp
 have hb2 : Below (w.alloc (.cells (adrCells u pv).toArray 31)).heap.size (w.alloc (.cells (adrCells u pv).toArray 31)) w' := by rw [hw]; exact (Below.refl _ _).alloc (Nat.le_refl _) _
 have h2 : w'.heap[w.heap.size + 1]? = some (.cells #[.func (.func f) #[] lb] 178 (0, 0)) := by
  rw [hw, <- hz]; exact heap_alloc_new _ _
 have hA := h1.kept hb2
 have hB := below2 hb1 hb2
 have hcell : w'.cell? ⟨w.heap.size + 1, 0, none⟩ = some (.func (.func f) #[] lb) := by rw [Lib.cell_of_heap h2]; rfl
 refine ⟨_, rfl, ⟨_, _, rfl, enters_host, fun X s hX hs => ?_⟩, hB⟩
 exact hostC_any u pv w.heap.size (w.heap.size + 1) _ q s X (hA.kept hX) (keptC hcell hX) (hr.kept (below2 hB hX)) hs hh
theorem schR_none {u p : Adr} {q : List UInt8 -> Bool} {s : List UInt8} (h : schemeV s = none) : schR u p q s = (schM p.scheme u.scheme && q s) := by unfold schR; rw [h]
theorem schR_all {u p : Adr} {q : List UInt8 -> Bool} {s sc b : List UInt8} (h : schemeV s = some (sc, b)) (hb : b = []) : schR u p q s = schM sc u.scheme := by unfold schR; rw [h]; simp only; rw [if_pos hb]
theorem schR_two {u p : Adr} {q : List UInt8 -> Bool} {s sc b : List UInt8} (h : schemeV s = some (sc, b)) (hb : b ≠ []) (hp : Lib.hasPrefix b [47, 47] = true) : schR u p q s = (schM sc u.scheme && q (b.drop 2)) := by unfold schR; rw [h]; simp only; rw [if_neg hb, if_pos hp]
theorem schR_else {u p : Adr} {q : List UInt8 -> Bool} {s sc b : List UInt8} (h : schemeV s = some (sc, b)) (hb : b ≠ []) (hp : Lib.hasPrefix b [47, 47] = false) : schR u p q s = (schM p.scheme u.scheme && q s) := by unfold schR; rw [h]; simp only; rw [if_neg hb, if_neg (by rw [hp]; decide)]
theorem schemeV_le {s sc b : List UInt8} (h : schemeV s = some (sc, b)) : sc.length <= s.length /\ b.length <= s.length := by
 unfold schemeV at h
 split at h
 ·injection h with h
  have hp := part_le 58 s
  simp only [Prod.mk.injEq] at h
  rw [<- h.1, <- h.2, low, List.length_map]
  exact hp
 ·cases h
theorem schC_any (u p : Adr) (pv rv : Value) (cu cn cp : Nat) (nv : Value) (q : List UInt8 -> Bool) (s : ByteArray) (w : World) (hg : Gd w) (hA : AdrIn w cu u pv) (hP : AdrIn w cp p rv) (hn : w.cell? ⟨cn, 0, none⟩ = some nv) (hr : Rdr11 w nv q) (hs : s.size <= 4000000000) :
  Calls Tryz.prog 196 #[.string s, .pointer (some ⟨cu, 0, none⟩), .pointer (some ⟨cn, 0, none⟩), .pointer (some ⟨cp, 0, none⟩)] w fun e w' => e = .returned (.bool (schR u p q s.data.toList)) /\ Below w.heap.size w w' := by
 obtain ⟨f, lb, rfl, eg, hc⟩ := hr
 have HCut := hid (scutScheme_any s w hg hs)
 obtain ⟨U, hU⟩ : ∃ X : ByteArray, X = ⟨u.scheme.toArray⟩ := ⟨_, rfl⟩
 obtain ⟨P, hP0⟩ : ∃ X : ByteArray, X = ⟨p.scheme.toArray⟩ := ⟨_, rfl⟩
 have hUl : U.data.toList = u.scheme := by rw [hU]
 have hPl : P.data.toList = p.scheme := by rw [hP0]
 have HKu := hid (show w.cell? ⟨cu, 0, none⟩ = some (.string U) by rw [hU]; exact hA.cell 0 _ rfl)
 have HKp := hid (show w.cell? ⟨cp, 0, none⟩ = some (.string P) by rw [hP0]; exact hP.cell 0 _ rfl)
 have HKn := hid hn
 have HC := hid (fun (X : World) (t : ByteArray) (hX : Below w.heap.size w X) (ht : t.size <= 4000000000) => hc X t hX ht)
 have HSP := hid (fun w => scheme11_any P U w)
 rw [hPl, hUl] at HSP
 obtain ⟨mp, hmp⟩ : ∃ b, schM p.scheme u.scheme = b := ⟨_, rfl⟩
 rw [hmp] at HSP
 clear hA hP hn hc hU hP0 hPl
 cases hsv : schemeV s.data.toList with
 | none =>
  have HV := hid (show schR u p q s.data.toList = (mp && q s.data.toList) by rw [schR_none hsv, hmp])
  rw [hsv] at HCut
  have HPre : Hid (∀ w : World, Calls Tryz.prog 113 #[.string ⟨#[]⟩, .string ⟨#[47, 47]⟩] w fun e w' => e = .returned (.tuple #[.string ⟨#[]⟩, .bool false]) /\ w' = w) := fun w => Tryz.strings_CutPrefix ⟨#[]⟩ ⟨#[47, 47]⟩ w
  clear hsv hUl hmp
  go_enter Tryz.func196, Tryz.ntmps196
  go_wp2_with fail
  refine HCut.out.mono ?_
  rintro e w1 ⟨rfl, hb1⟩
  have HB1 := hid hb1
  have d0 := keptC HKu.out hb1
  have d1 := keptC HKp.out hb1
  have d2 := keptC HKn.out hb1
  clear hb1
  cases mp with
  | false =>
   go_wp2_with (first | (go_at_call 113; refine (HPre.out _).mono ?_; rintro e wz ⟨rfl, hwz⟩; rw [hwz]; clear hwz) | (go_at_call 198; refine (HSP.out _).mono ?_; rintro e wz ⟨rfl, hwz⟩; rw [<- hwz]; clear hwz))
   go_ret
   exact ⟨ret_bool (by rw [HV.out]; rfl), HB1.out⟩
  | true =>
   go_wp2_with (first | (go_at_call 113; refine (HPre.out _).mono ?_; rintro e wz ⟨rfl, hwz⟩; rw [hwz]; clear hwz) | (go_at_call 198; refine (HSP.out _).mono ?_; rintro e wz ⟨rfl, hwz⟩; rw [<- hwz]; clear hwz))
   refine (HC.out _ s HB1.out hs).mono ?_
   rintro e w3 ⟨rfl, hb3⟩
   go_wp2
   go_ret
   exact ⟨ret_bool (by rw [HV.out]; rfl), below2 HB1.out hb3⟩
 | some m =>
  obtain ⟨sc, b⟩ := m
  have hle := schemeV_le hsv
  rw [hsv] at HCut
  obtain ⟨S, hS⟩ : ∃ X : ByteArray, X = ⟨sc.toArray⟩ := ⟨_, rfl⟩
  obtain ⟨B, hB⟩ : ∃ X : ByteArray, X = ⟨b.toArray⟩ := ⟨_, rfl⟩
  have hSl : S.data.toList = sc := by rw [hS]
  have hBl : B.data.toList = b := by rw [hB]
  have hBs : B.size <= 4000000000 := by rw [Lib.size_eq, hBl]; rw [Lib.size_eq] at hs; omega
  have HCut2 : Hid (Calls Tryz.prog 197 #[.string s] w fun e w' => e = .returned (.tuple #[.string S, .string B, .bool true]) /\ Below w.heap.size w w') := by
   rw [hS, hB]; exact HCut.out
  clear HCut
  have HCut := HCut2
  clear HCut2
  have HSS := hid (fun w => scheme11_any S U w)
  rw [hSl, hUl] at HSS
  obtain ⟨ms, hms⟩ : ∃ b, schM sc u.scheme = b := ⟨_, rfl⟩
  rw [hms] at HSS
  have HPre0 := hid (fun w => Tryz.strings_CutPrefix B ⟨#[47, 47]⟩ w)
  by_cases hb0 : b = []
  ·have HV := hid (show schR u p q s.data.toList = ms by rw [schR_all hsv hb0, hms])
   have hbe := empty_yes B (by rw [hBl]; exact hb0)
   clear hsv hUl hmp hS hB hSl hBl hle hb0 hms
   go_enter Tryz.func196, Tryz.ntmps196
   go_wp2_with fail
   refine HCut.out.mono ?_
   rintro e w1 ⟨rfl, hb1⟩
   have HB1 := hid hb1
   have d0 := keptC HKu.out hb1
   have d1 := keptC HKp.out hb1
   have d2 := keptC HKn.out hb1
   clear hb1
   go_wp2_with (go_at_call 198; refine (HSS.out _).mono ?_; rintro e wz ⟨rfl, hwz⟩; rw [<- hwz]; clear hwz)
   go_ret
   exact ⟨ret_bool (by rw [HV.out]), HB1.out⟩
  ·have hbe := empty_no B (by rw [hBl]; exact hb0)
   cases hpre : Lib.hasPrefix b [47, 47] with
   | false =>
    have HV := hid (show schR u p q s.data.toList = (mp && q s.data.toList) by rw [schR_else hsv hb0 hpre, hmp])
    obtain ⟨T, hT⟩ : ∃ T : ByteArray, T = ⟨(Lib.trimPrefix B.data.toList [47, 47]).toArray⟩ := ⟨_, rfl⟩
    have HPre : Hid (∀ w : World, Calls Tryz.prog 113 #[.string B, .string ⟨#[47, 47]⟩] w fun e w' => e = .returned (.tuple #[.string T, .bool false]) /\ w' = w) := fun w => by
     have := HPre0.out w
     rw [show (⟨#[47, 47]⟩ : ByteArray).data.toList = [47, 47] from rfl, <- hT, hBl, hpre] at this
     exact this
    clear hsv hUl hmp hS hB hSl hBl hle hb0 hms hpre hT
    go_enter Tryz.func196, Tryz.ntmps196
    go_wp2_with fail
    refine HCut.out.mono ?_
    rintro e w1 ⟨rfl, hb1⟩
    have HB1 := hid hb1
    have d0 := keptC HKu.out hb1
    have d1 := keptC HKp.out hb1
    have d2 := keptC HKn.out hb1
    clear hb1
    cases mp with
    | false =>
     go_wp2_with (first | (go_at_call 113; refine (HPre.out _).mono ?_; rintro e wz ⟨rfl, hwz⟩; rw [hwz]; clear hwz) | (go_at_call 198; refine (HSP.out _).mono ?_; rintro e wz ⟨rfl, hwz⟩; rw [<- hwz]; clear hwz))
     go_ret
     exact ⟨ret_bool (by rw [HV.out]; rfl), HB1.out⟩
    | true =>
     go_wp2_with (first | (go_at_call 113; refine (HPre.out _).mono ?_; rintro e wz ⟨rfl, hwz⟩; rw [hwz]; clear hwz) | (go_at_call 198; refine (HSP.out _).mono ?_; rintro e wz ⟨rfl, hwz⟩; rw [<- hwz]; clear hwz))
     refine (HC.out _ s HB1.out hs).mono ?_
     rintro e w3 ⟨rfl, hb3⟩
     go_wp2
     go_ret
     exact ⟨ret_bool (by rw [HV.out]; rfl), below2 HB1.out hb3⟩
   | true =>
    have HV := hid (show schR u p q s.data.toList = (ms && q (b.drop 2)) by rw [schR_two hsv hb0 hpre, hms])
    obtain ⟨T, hT⟩ : ∃ T : ByteArray, T = ⟨(b.drop 2).toArray⟩ := ⟨_, rfl⟩
    have hTl : T.data.toList = b.drop 2 := by rw [hT]
    have hTs : T.size <= 4000000000 := by rw [Lib.size_eq, hTl, List.length_drop, <- hBl, <- Lib.size_eq]; omega
    have HPre : Hid (∀ w : World, Calls Tryz.prog 113 #[.string B, .string ⟨#[47, 47]⟩] w fun e w' => e = .returned (.tuple #[.string T, .bool true]) /\ w' = w) := fun w => by
     have := HPre0.out w
     rw [show (⟨#[47, 47]⟩ : ByteArray).data.toList = [47, 47] from rfl, hBl, hpre, show Lib.trimPrefix b [47, 47] = b.drop 2 by unfold Lib.trimPrefix; rw [hpre]; rfl, <- hT] at this
     exact this
    rw [<- hTl] at HV
    clear hsv hUl hmp hS hB hSl hBl hle hb0 hms hpre hT hTl
    go_enter Tryz.func196, Tryz.ntmps196
    go_wp2_with fail
    refine HCut.out.mono ?_
    rintro e w1 ⟨rfl, hb1⟩
    have HB1 := hid hb1
    have d0 := keptC HKu.out hb1
    have d1 := keptC HKp.out hb1
    have d2 := keptC HKn.out hb1
    clear hb1
    cases ms with
    | false =>
     go_wp2_with (first | (go_at_call 113; refine (HPre.out _).mono ?_; rintro e wz ⟨rfl, hwz⟩; rw [hwz]; clear hwz) | (go_at_call 198; refine (HSS.out _).mono ?_; rintro e wz ⟨rfl, hwz⟩; rw [<- hwz]; clear hwz))
     go_ret
     exact ⟨ret_bool (by rw [HV.out]; rfl), HB1.out⟩
    | true =>
     go_wp2_with (first | (go_at_call 113; refine (HPre.out _).mono ?_; rintro e wz ⟨rfl, hwz⟩; rw [hwz]; clear hwz) | (go_at_call 198; refine (HSS.out _).mono ?_; rintro e wz ⟨rfl, hwz⟩; rw [<- hwz]; clear hwz))
     refine (HC.out _ T HB1.out hTs).mono ?_
     rintro e w3 ⟨rfl, hb3⟩
     go_wp2
     go_ret
     exact ⟨ret_bool (by rw [HV.out]; rfl), below2 HB1.out hb3⟩
theorem enters_sch : ∀ args w, (callFunc 196 args).run Tryz.prog w = .ok (.enter 196 args) w := enters_of Tryz.func196 (by kernel_rfl) rfl
theorem enters_word : ∀ args w, (callFunc 192 args).run Tryz.prog w = .ok (.enter 192 args) w := enters_of Tryz.func192 (by kernel_rfl) rfl
theorem three_boxes (u p : Adr) (uv pv fv : Value) (w : World) : ∃ w', w' = ((w.alloc (.cells (adrCells u uv).toArray 31)).alloc (.cells (adrCells p pv).toArray 31)).alloc (.cells #[fv] 178) /\ AdrIn w' w.heap.size u uv /\ AdrIn w' (w.heap.size + 1) p pv /\ w'.cell? ⟨w.heap.size + 2, 0, none⟩ = some fv /\ Below w.heap.size w w' := by
 refine ⟨_, rfl, ?_, ?_, ?_, ?_⟩
 ·have h1 : AdrIn (w.alloc (.cells (adrCells u uv).toArray 31)) w.heap.size u uv := heap_alloc_new _ _
  exact (h1.kept ((Below.refl _ _).alloc (Nat.le_refl _) _)).kept ((Below.refl _ _).alloc (Nat.le_refl _) _)
 ·have hz : (w.alloc (.cells (adrCells u uv).toArray 31)).heap.size = w.heap.size + 1 := by simp
  have h1 : AdrIn ((w.alloc (.cells (adrCells u uv).toArray 31)).alloc (.cells (adrCells p pv).toArray 31)) (w.heap.size + 1) p pv := by
   unfold AdrIn
   rw [<- hz]; exact heap_alloc_new _ _
  exact h1.kept ((Below.refl _ _).alloc (Nat.le_refl _) _)
 ·have hz : ((w.alloc (.cells (adrCells u uv).toArray 31)).alloc (.cells (adrCells p pv).toArray 31)).heap.size = w.heap.size + 2 := by simp
  have := heap_alloc_new ((w.alloc (.cells (adrCells u uv).toArray 31)).alloc (.cells (adrCells p pv).toArray 31)) (.cells #[fv] 178)
  rw [hz] at this
  rw [Lib.cell_of_heap this]; rfl
 ·exact ((Below.refl _ w).alloc (Nat.le_refl _) _).alloc (by simp) _ |>.alloc (by simp; omega) _
theorem readScheme_mk (u p : Adr) (uv pv : Value) (hu : IsSl uv) (hp : IsSl pv) (f : Nat) (lb : Array Value) (w : World) :
  Calls Tryz.prog 173 #[adrVal u uv, adrVal p pv, .func (.func f) #[] lb] w fun e w' => e = .returned (.func (.func 196) #[] #[.pointer (some ⟨w.heap.size, 0, none⟩), .pointer (some ⟨w.heap.size + 2, 0, none⟩), .pointer (some ⟨w.heap.size + 1, 0, none⟩)]) /\ w' = ((w.alloc (.cells (adrCells u uv).toArray 31)).alloc (.cells (adrCells p pv).toArray 31)).alloc (.cells #[.func (.func f) #[] lb] 178) := by
 have hmf : ∀ (fn : Fn) (first cap : Array Value) (w : World), (Instr.makeFunc fn first cap).run Tryz.prog w = .ok (.func fn first cap) w := fun _ _ _ _ => rfl
 obtain ⟨ua, un, uc, rfl⟩ := hu
 obtain ⟨pa, pn, pc, rfl⟩ := hp
 unfold adrVal adrCells
 go_enter Tryz.func173, Tryz.ntmps173
 go_wp2
 go_ret
 exact ⟨rfl, rfl⟩
theorem readWord_mk (u p : Adr) (uv pv : Value) (hu : IsSl uv) (hp : IsSl pv) (f : Nat) (lb : Array Value) (w : World) :
  Calls Tryz.prog 172 #[adrVal u uv, adrVal p pv, .func (.func f) #[] lb] w fun e w' => e = .returned (.func (.func 192) #[] #[.pointer (some ⟨w.heap.size, 0, none⟩), .pointer (some ⟨w.heap.size + 1, 0, none⟩), .pointer (some ⟨w.heap.size + 2, 0, none⟩)]) /\ w' = ((w.alloc (.cells (adrCells u uv).toArray 31)).alloc (.cells (adrCells p pv).toArray 31)).alloc (.cells #[.func (.func f) #[] lb] 178) := by
 have hmf : ∀ (fn : Fn) (first cap : Array Value) (w : World), (Instr.makeFunc fn first cap).run Tryz.prog w = .ok (.func fn first cap) w := fun _ _ _ _ => rfl
 obtain ⟨ua, un, uc, rfl⟩ := hu
 obtain ⟨pa, pn, pc, rfl⟩ := hp
 unfold adrVal adrCells
 go_enter Tryz.func172, Tryz.ntmps172
 go_wp2
 go_ret
 exact ⟨rfl, rfl⟩
theorem readScheme_any (u p : Adr) (uv pv : Value) (hu : IsSl uv) (hp : IsSl pv) (nv : Value) (q : List UInt8 -> Bool) (w : World) (hg : Gd w) (hr : Rdr11 w nv q) :
  Calls Tryz.prog 173 #[adrVal u uv, adrVal p pv, nv] w (MkPost11 (schR u p q) w) := by
 have hr0 := hr
 obtain ⟨f, lb, rfl, eg, hc⟩ := hr0
 refine (readScheme_mk u p uv pv hu hp f lb w).mono ?_
 rintro e w' ⟨rfl, hw⟩
 obtain ⟨w2, hw2, hA, hP, hcell, hB⟩ := three_boxes u p uv pv (.func (.func f) #[] lb) w
 rw [<- hw2] at hw
 subst hw
 refine ⟨_, rfl, ⟨_, _, rfl, enters_sch, fun X s hX hs => ?_⟩, hB⟩
 exact schC_any u p uv pv w.heap.size (w.heap.size + 2) (w.heap.size + 1) _ q s X ((hg.kept hB).kept hX) (hA.kept hX) (hP.kept hX) (keptC hcell hX) (hr.kept (below2 hB hX)) hs
theorem wordR_star {u p : Adr} {q : List UInt8 -> Bool} {s : List UInt8} (h : s = [42]) : wordR u p q s = (fetV u.scheme || u.scheme == p.scheme) := by unfold wordR; rw [if_pos h]
theorem wordR_self {u p : Adr} {q : List UInt8 -> Bool} {s : List UInt8} (h : s ≠ [42]) (h2 : low s = tSelf) : wordR u p q s = selfM u p := by unfold wordR; rw [if_neg h, if_pos h2]
theorem wordR_else {u p : Adr} {q : List UInt8 -> Bool} {s : List UInt8} (h : s ≠ [42]) (h2 : low s ≠ tSelf) : wordR u p q s = (!Lib.hasPrefix s [39] && q s) := by unfold wordR; rw [if_neg h, if_neg h2]
theorem wordC_any (u p : Adr) (uv pv : Value) (cu cp cn : Nat) (nv : Value) (q : List UInt8 -> Bool) (s : ByteArray) (w : World) (hg : Gd w) (hu : UrlAt w u uv) (hp : UrlAt w p pv) (hA : AdrIn w cu u uv) (hP : AdrIn w cp p pv) (hn : w.cell? ⟨cn, 0, none⟩ = some nv) (hr : Rdr11 w nv q) (hs : s.size <= 4000000000) :
  Calls Tryz.prog 192 #[.string s, .pointer (some ⟨cu, 0, none⟩), .pointer (some ⟨cp, 0, none⟩), .pointer (some ⟨cn, 0, none⟩)] w fun e w' => e = .returned (.bool (wordR u p q s.data.toList)) /\ Below w.heap.size w w' := by
 obtain ⟨f, lb, rfl, eg, hc⟩ := hr
 have HSelf := hid (fun (w : World) (hg : Gd w) (hu : UrlAt w u uv) (hp : UrlAt w p pv) => self_any u p uv pv w hg hu hp)
 obtain ⟨ua, un, uc, rfl⟩ := hu.sl
 obtain ⟨pa, pn, pc, rfl⟩ := hp.sl
 obtain ⟨u0, u1, u2, u3, u4, u5, u6, u8, u9, u10, u11, hx, hx0, -, -, -⟩ := adr_named u ua un uc
 obtain ⟨p0, p1, p2, p3, p4, p5, p6, p8, p9, p10, p11, hy, hy0, -, -, -⟩ := adr_named p pa pn pc
 have hva : adrVal u (.slice ua un uc) = .agg #[.string u0, .string u1, .string u2, .string u3, .bool u4, .int .i64 u5, .bool u6, .slice ua un uc, .string u8, .string u9, .bool u10, .bool u11] := by unfold adrVal; rw [hx]
 have hvb : adrVal p (.slice pa pn pc) = .agg #[.string p0, .string p1, .string p2, .string p3, .bool p4, .int .i64 p5, .bool p6, .slice pa pn pc, .string p8, .string p9, .bool p10, .bool p11] := by unfold adrVal; rw [hy]
 rw [hva, hvb] at HSelf
 have h1 : ∀ Z, Below w.heap.size w Z -> ∀ j v, (adrCells u (.slice ua un uc))[j]? = some v -> Z.cell? ⟨cu, j, none⟩ = some v := fun Z hZ j v h => (hA.kept hZ).cell j v h
 have h2 : ∀ Z, Below w.heap.size w Z -> ∀ j v, (adrCells p (.slice pa pn pc))[j]? = some v -> Z.cell? ⟨cp, j, none⟩ = some v := fun Z hZ j v h => (hP.kept hZ).cell j v h
 rw [hx] at h1
 rw [hy] at h2
 have HU := hid h1
 have HP := hid h2
 have HN := hid hn
 have HC := hid (fun (X : World) (hX : Below w.heap.size w X) => hc X s hX hs)
 have HG := hid hg
 have HUA := hid hu
 have HPA := hid hp
 have HFe := hid (fun w => fetched_any u0 w)
 rw [hx0] at HFe
 have HLo := hid (fun w => lower_any s w (by omega))
 obtain ⟨L, hL⟩ : ∃ N : ByteArray, N = ⟨(low s.data.toList).toArray⟩ := ⟨_, rfl⟩
 have hLl : L.data.toList = low s.data.toList := by rw [hL]
 rw [<- hL] at HLo
 have HPre : Hid (∀ w : World, Calls Tryz.prog 195 #[.string s, .string ⟨#[39]⟩] w fun e w' => e = .returned (.bool (Lib.hasPrefix s.data.toList [39])) /\ w' = w) := fun w => Tryz.strings_HasPrefix s ⟨#[39]⟩ w
 obtain ⟨pf, hpf⟩ : ∃ b, Lib.hasPrefix s.data.toList [39] = b := ⟨_, rfl⟩
 rw [hpf] at HPre
 by_cases h42 : s.data.toList = [42]
 ·obtain ⟨fe, hfe⟩ : ∃ b, fetV u.scheme = b := ⟨_, rfl⟩
  rw [hfe] at HFe
  obtain ⟨eq, heq⟩ : ∃ b, (u0.toList == p0.toList) = b := ⟨_, rfl⟩
  have HV := hid (show wordR u p q s.data.toList = (fe || eq) by rw [wordR_star h42, hfe, <- hx0, <- hy0, <- heq, Lib.toList_data, Lib.toList_data])
  have e42 := beq_yes s [42] h42
  have y0 := HU.out w (Below.refl _ _) 0 _ rfl
  have z0 := HP.out w (Below.refl _ _) 0 _ rfl
  clear h42 h1 h2 hn hg hu hp hA hP hx hy hva hvb hx0 hy0 hfe hpf hLl hL hc
  cases fe <;>
  ·go_enter Tryz.func192, Tryz.ntmps192
   go_wp2_with (go_at_call 193; refine (HFe.out _).mono ?_; rintro e wz ⟨rfl, hwz⟩; rw [<- hwz]; clear hwz)
   go_ret
   exact ⟨ret_bool (by rw [HV.out]; rfl), Below.refl _ _⟩
 ·have e42 := beq_no s [42] h42
  by_cases hse : low s.data.toList = tSelf
  ·have HV := hid (wordR_self (u := u) (p := p) (q := q) h42 hse)
   have eS := beq_yes L [39, 115, 101, 108, 102, 39] (by rw [hLl]; exact hse)
   clear h42 h1 h2 hn hg hu hp hA hP hx hy hva hvb hx0 hy0 hpf hLl hL hse hc
   go_enter Tryz.func192, Tryz.ntmps192
   go_wp2_with fail
   refine (HLo.out _).mono ?_
   rintro e w1 ⟨rfl, hb1⟩
   have HB1 := hid hb1
   have y0 := HU.out w1 hb1 0 _ rfl
   have z0 := HP.out w1 hb1 0 _ rfl
   have y1 := HU.out w1 hb1 1 _ rfl
   have z1 := HP.out w1 hb1 1 _ rfl
   have y2 := HU.out w1 hb1 2 _ rfl
   have z2 := HP.out w1 hb1 2 _ rfl
   have y3 := HU.out w1 hb1 3 _ rfl
   have z3 := HP.out w1 hb1 3 _ rfl
   have y4 := HU.out w1 hb1 4 _ rfl
   have z4 := HP.out w1 hb1 4 _ rfl
   have y5 := HU.out w1 hb1 5 _ rfl
   have z5 := HP.out w1 hb1 5 _ rfl
   have y6 := HU.out w1 hb1 6 _ rfl
   have z6 := HP.out w1 hb1 6 _ rfl
   have y7 := HU.out w1 hb1 7 _ rfl
   have z7 := HP.out w1 hb1 7 _ rfl
   have y8 := HU.out w1 hb1 8 _ rfl
   have z8 := HP.out w1 hb1 8 _ rfl
   have y9 := HU.out w1 hb1 9 _ rfl
   have z9 := HP.out w1 hb1 9 _ rfl
   have y10 := HU.out w1 hb1 10 _ rfl
   have z10 := HP.out w1 hb1 10 _ rfl
   have y11 := HU.out w1 hb1 11 _ rfl
   have z11 := HP.out w1 hb1 11 _ rfl
   clear hb1
   go_wp2_with (go_at_call 194; refine (HSelf.out _ (HG.out.kept HB1.out) (HUA.out.kept HB1.out) (HPA.out.kept HB1.out)).mono ?_; rintro e w2 ⟨rfl, hb2⟩)
   go_ret
   exact ⟨ret_bool (by rw [HV.out]), below2 HB1.out hb2⟩
  ·have HV := hid (show wordR u p q s.data.toList = (!pf && q s.data.toList) by rw [wordR_else h42 hse, hpf])
   have eS := beq_no L [39, 115, 101, 108, 102, 39] (by rw [hLl]; exact hse)
   clear h42 h1 h2 hn hg hu hp hA hP hx hy hva hvb hx0 hy0 hpf hLl hL hse hc
   go_enter Tryz.func192, Tryz.ntmps192
   go_wp2_with fail
   refine (HLo.out _).mono ?_
   rintro e w1 ⟨rfl, hb1⟩
   have HB1 := hid hb1
   have d2 := keptC HN.out hb1
   clear hb1
   cases pf with
   | true =>
    go_wp2_with (go_at_call 195; refine (HPre.out _).mono ?_; rintro e wz ⟨rfl, hwz⟩; rw [hwz]; clear hwz)
    go_ret
    exact ⟨ret_bool (by rw [HV.out]; rfl), HB1.out⟩
   | false =>
    go_wp2_with (go_at_call 195; refine (HPre.out _).mono ?_; rintro e wz ⟨rfl, hwz⟩; rw [hwz]; clear hwz)
    refine (HC.out _ HB1.out).mono ?_
    rintro e w3 ⟨rfl, hb3⟩
    go_wp2
    go_ret
    exact ⟨ret_bool (by rw [HV.out]; rfl), below2 HB1.out hb3⟩
theorem readWord_any (u p : Adr) (uv pv : Value) (nv : Value) (q : List UInt8 -> Bool) (w : World) (hg : Gd w) (hu : UrlAt w u uv) (hp : UrlAt w p pv) (hr : Rdr11 w nv q) :
  Calls Tryz.prog 172 #[adrVal u uv, adrVal p pv, nv] w (MkPost11 (wordR u p q) w) := by
 have hr0 := hr
 obtain ⟨f, lb, rfl, eg, hc⟩ := hr0
 refine (readWord_mk u p uv pv hu.sl hp.sl f lb w).mono ?_
 rintro e w' ⟨rfl, hw⟩
 obtain ⟨w2, hw2, hA, hP, hcell, hB⟩ := three_boxes u p uv pv (.func (.func f) #[] lb) w
 rw [<- hw2] at hw
 subst hw
 refine ⟨_, rfl, ⟨_, _, rfl, enters_word, fun X s hX hs => ?_⟩, hB⟩
 exact wordC_any u p uv pv w.heap.size (w.heap.size + 1) (w.heap.size + 2) _ q s X ((hg.kept hB).kept hX) ((hu.kept hB).kept hX) ((hp.kept hB).kept hX) (hA.kept hX) (hP.kept hX) (keptC hcell hX) (hr.kept (below2 hB hX)) hs
end Go.Proofs.YtooihpkoplgmbaaGreatDoor
