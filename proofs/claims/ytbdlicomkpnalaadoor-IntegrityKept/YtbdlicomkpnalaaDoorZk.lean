/-
  The walks of integrity's Holds and what it calls of package slices.
  The walk of integrity's Holds.
  The walks of integrity's Make and of the law's same and known.
-/
import Derived.Test.YtbdlicomkpnalaaDoorZj
import Derived.Test.YtbdlicomkpnalaaDoorZLu
import Derived.Test.YtbdlicomkpnalaaDoorZa
import Derived.Test.YtbdlicomkpnalaaDoorZWp
import Derived.Deep.RegionHeld
import Derived.BigRegion
set_option linter.unusedSimpArgs false
set_option linter.unusedVariables false
namespace Go.Proofs.YtbdlicomkpnalaaDoor
open Go.RowKit

theorem b64_le {l r : List UInt8} (h : b64 l = some r) : r.length ≤ l.length := by
  unfold b64 at h
  split at h
  · cases h
  · split at h
    · obtain rfl := Option.some.inj h
      have h1 := run64_len (noPadding (noBlanks l))
      have h2 := b64_bounds l
      omega
    · cases h

set_option maxHeartbeats 2000000 in
theorem isWant_any (p : Nat) (G n c : Nat) (r : List UInt8) (x : It) (w : World) (hp : w.cell? ⟨p, 0, none⟩ = some (.slice (some ⟨G, 0, none⟩) n c)) (hr : SlB w (.slice (some ⟨G, 0, none⟩) n c) r) (hx : x.want.length ≤ 1000000) :
    Calls Tryd.prog 42 #[itVal x, .pointer (some ⟨p, 0, none⟩)] w fun e w' => e = .returned (.bool (wantsV r x)) ∧ Below w.heap.size w w' := by
  obtain ⟨V, hV⟩ : ∃ V : ByteArray, V = ⟨x.want.toArray⟩ := ⟨_, rfl⟩
  obtain ⟨O, hO⟩ : ∃ V : ByteArray, V = ⟨x.opt.toArray⟩ := ⟨_, rfl⟩
  obtain ⟨b, hb⟩ : ∃ b, b = x.bits := ⟨_, rfl⟩
  have hVl : V.data.toList = x.want := by rw [hV]
  have hVs : V.size ≤ 1000000 := by rw [Lib.size_eq, hVl]; exact hx
  rw [show itVal x = .agg #[.int .i64 b, .string V, .string O] by rw [hb, hV, hO]; rfl]
  have HX2 := hid (show Below w.heap.size w (w.alloc (.cells #[.int .i64 b, .string V, .string O] 56)) from (Below.refl _ _).alloc (Nat.le_refl _) _)
  have HP := hid hp
  have HR := hid hr
  rcases hw : b64 x.want with _ | l
  · have HW := hid (show wantsV r x = false by unfold wantsV; rw [hw])
    have HB := hid (base64_no V (w.alloc (.cells #[.int .i64 b, .string V, .string O] 56)) (by omega) (by rw [hVl]; exact hw))
    clear hV hO hb hVl hVs hx hp hr hw
    go_enter Tryd.func42, Tryd.ntmps42
    go_wp2_with fail
    refine HB.out.mono ?_
    rintro e w2 ⟨rfl, hb2⟩
    have HB2 := hid (below2 HX2.out hb2)
    clear hb2
    go_wp2_with fail
    go_ret
    exact ⟨ret_b8 HW.out.symm, HB2.out⟩
  · have hll : l.length ≤ 1000000 := Nat.le_trans (b64_le hw) hx
    have HW := hid (show wantsV r x = decide (l = r) by unfold wantsV; rw [hw]; show (l == r) = decide (l = r); by_cases h : l = r <;> simp [h])
    have HB := hid (base64_yes V l (w.alloc (.cells #[.int .i64 b, .string V, .string O] 56)) (by omega) (by rw [hVl]; exact hw))
    have HLL := hid hll
    clear hV hO hb hVl hVs hx hp hr hw hll
    go_enter Tryd.func42, Tryd.ntmps42
    go_wp2_with fail
    refine HB.out.mono ?_
    rintro e w2 ⟨g, cap, rfl, hown, hb2⟩
    have HB2 := hid (below2 HX2.out hb2)
    have cp := kept_cell HP.out HB2.out
    have HSM := hid (same_d (some ⟨g, 0, none⟩) (some ⟨G, 0, none⟩) l.length cap n c l r w2 (SlB.own hown) (HR.out.kept HB2.out) HLL.out)
    clear hb2 hown
    go_wp2_with fail
    refine HSM.out.mono ?_
    rintro e w3 ⟨rfl, rfl⟩
    go_wp2_with fail
    go_ret
    exact ⟨ret_b8 HW.out.symm, HB2.out⟩

set_option maxHeartbeats 4000000 in
theorem indexF_any (f : Nat) (lb : Array Value) (eg : ∀ args w, (callFunc f args).run Tryd.prog w = .ok (.enter f args) w) (q : It → Bool) (v : Value) (L : List It) (w : World) (hv : ItAt w v L) (hl : L.length ≤ 1000000001) (hq : ∀ (X : World) (x : It), x ∈ L → Below w.heap.size w X → Calls Tryd.prog f (#[itVal x] ++ lb) X fun e w' => e = .returned (.bool (q x)) ∧ Below X.heap.size X w') :
    Calls Tryd.prog 70 #[v, .func (.func f) #[] lb] w fun e w' => ∃ z : Int, e = .returned (.int .i64 z) ∧ decide (0 ≤ z) = L.any q ∧ Below w.heap.size w w' := by
  obtain ⟨a1, c1, rfl, hc1, hm1, hv1⟩ := hv.view
  have HV := hid hv1
  have HQ := hid hq
  obtain ⟨n, hn⟩ : ∃ n, n = L.length := ⟨_, rfl⟩
  have HN := hid hn
  rw [← hn] at hc1 hl ⊢
  clear hv hv1 hq hn
  go_enter Tryd.func70, Tryd.ntmps70
  go_wp2_with fail
  go_loopw [8] (fun v8 wr => ∃ k : Nat, k ≤ n ∧ v8 = .int .i64 k ∧ Hid (((L.take k).any q) = false ∧ Below w.heap.size w wr)) (fun v8 _ => n - (intOf v8).toNat)
  case atStart => exact ⟨0, Nat.zero_le _, rfl, rfl, Below.refl _ w⟩
  case round =>
    obtain ⟨k, hk, rfl, HR⟩ := hrel
    by_cases hlt : k < n
    · have hkL : k < L.length := by have := HN.out; omega
      obtain ⟨b1, o1, rfl, e1, e2, e3⟩ := HV.out k hkL
      obtain ⟨x, hx⟩ : ∃ x, x = L[k] := ⟨_, rfl⟩
      rw [← hx] at e1 e2 e3
      have HXM := hid (show x ∈ L by rw [hx]; exact List.getElem_mem hkL)
      obtain ⟨b, hbx⟩ : ∃ b, b = x.bits := ⟨_, rfl⟩
      obtain ⟨V, hVx⟩ : ∃ V : ByteArray, V = ⟨x.want.toArray⟩ := ⟨_, rfl⟩
      obtain ⟨O, hOx⟩ : ∃ V : ByteArray, V = ⟨x.opt.toArray⟩ := ⟨_, rfl⟩
      rw [← hbx] at e1
      rw [← hVx] at e2
      rw [← hOx] at e3
      have f1 := kept_cell e1 HR.out.2
      have f2 := kept_cell e2 HR.out.2
      have f3 := kept_cell e3 HR.out.2
      have HCL := hid (show Calls Tryd.prog f (#[.agg #[.int .i64 b, .string V, .string O]] ++ lb) wr fun e w' => e = .returned (.bool (q x)) ∧ Below wr.heap.size wr w' by
        rw [hbx, hVx, hOx]
        exact HQ.out wr x HXM.out HR.out.2)
      have HT := hid (show (L.take (k + 1)).any q = q x by rw [List.take_succ_eq_append_getElem hkL, List.any_append, HR.out.1, ← hx]; simp)
      have HTA := hid (show q x = true → L.any q = true from fun h => List.any_eq_true.2 ⟨x, HXM.out, h⟩)
      obtain ⟨y, hy⟩ : ∃ y, y = q x := ⟨_, rfl⟩
      rw [← hy] at HCL HT HTA
      have hin : (k : Int) < (n : Int) := by omega
      clear e1 e2 e3 hx hbx hVx hOx hkL hy
      go_wp2_with fail
      refine HCL.out.mono ?_
      rintro e w2 ⟨rfl, hb2⟩
      have HB2 := hid (below2 HR.out.2 hb2)
      clear hb2
      cases y with
      | false =>
        go_wp2_with fail
        go_roundw
        case rel =>
          have e4 : ((L.take (k + 1)).any q) = false ∧ Below w.heap.size w w2 := ⟨HT.out, HB2.out⟩
          first
            | exact ⟨k + 1, by omega, by go_num, e4⟩
            | ((repeat apply Exists.intro); refine ⟨?_, rfl⟩; exact ⟨k + 1, by omega, by go_num, e4⟩)
            | ((repeat apply Exists.intro); exact ⟨⟨k + 1, by omega, by go_num, e4⟩, rfl⟩)
        case measure => simp [intOf]; omega
      | true =>
        go_wp2_with fail
        go_ret
        exact ⟨(k : Int), rfl, by rw [HTA.out (by trivial)]; simp, HB2.out⟩
    · obtain rfl : k = n := by omega
      have HA := hid (show L.any q = false by have h := HR.out.1; rwa [List.take_of_length_le (by have := HN.out; omega)] at h)
      have HB := hid HR.out.2
      clear HR hk hlt
      go_wp2_with fail
      go_ret
      exact ⟨-1, rfl, by rw [HA.out]; rfl, HB.out⟩

set_option maxHeartbeats 1000000 in
theorem containsF_any (f : Nat) (lb : Array Value) (eg : ∀ args w, (callFunc f args).run Tryd.prog w = .ok (.enter f args) w) (q : It → Bool) (v : Value) (L : List It) (w : World) (hv : ItAt w v L) (hl : L.length ≤ 1000000001) (hq : ∀ (X : World) (x : It), x ∈ L → Below w.heap.size w X → Calls Tryd.prog f (#[itVal x] ++ lb) X fun e w' => e = .returned (.bool (q x)) ∧ Below X.heap.size X w') :
    Calls Tryd.prog 41 #[v, .func (.func f) #[] lb] w fun e w' => e = .returned (.bool (L.any q)) ∧ Below w.heap.size w w' := by
  have HI := hid (indexF_any f lb eg q v L w hv hl hq)
  clear hv hl hq
  go_enter Tryd.func41, Tryd.ntmps41
  go_wp2_with fail
  refine HI.out.mono ?_
  rintro e w2 ⟨z, rfl, hz, hb⟩
  have HZ := hid hz
  have HB := hid hb
  clear hz hb
  go_wp2_with fail
  go_ret
  exact ⟨ret_b8 HZ.out, HB.out⟩

end Go.Proofs.YtbdlicomkpnalaaDoor

namespace Go.Proofs.YtbdlicomkpnalaaDoor
open Go.RowKit

theorem enters_want : ∀ args w, (callFunc 42 args).run Tryd.prog w = .ok (.enter 42 args) w := enters_of Tryd.func42 (by kernel_rfl) rfl

theorem parse_len (l : List UInt8) : (parse9 l).length ≤ l.length + 1 := by
  have h1 := List.length_filterMap_le itemV (words9 l)
  have h2 := (wds_len l []).1
  unfold parse9
  unfold words9 at h1 ⊢
  omega
theorem parse_want (l : List UInt8) : ∀ x ∈ parse9 l, x.want.length ≤ l.length := by
  intro x hx
  obtain ⟨y, hm, hy⟩ := List.mem_filterMap.1 hx
  have h0 := (wds_len l []).2 y hm
  unfold itemV at hy
  split at hy
  · obtain rfl := Option.some.inj hy
    show (wantV9 y).length ≤ _
    have h1 := (part_le 63 y).1
    have h2 := (part_le 45 (part 63 y).1).2
    unfold wantV9
    simp only [List.length_nil, Nat.zero_add] at h0
    omega
  · cases hy
theorem strong_sub (L : List It) : ∀ x ∈ strong L, x ∈ L := fun x hx => (List.mem_filter.1 hx).1
theorem strong_len (L : List It) : (strong L).length ≤ L.length := List.length_filter_le _ _

set_option maxHeartbeats 4000000 in
set_option maxRecDepth 100000 in
theorem holds_any (s : ByteArray) (a0 : Option Addr) (len cap : Nat) (l : List UInt8) (w : World) (hg : Gt w) (hm : Gm w) (hs : s.size ≤ 1000000) (hv : SlB w (.slice a0 len cap) l) (hlc : len ≤ cap) (hcm : cap ≤ maxLen) (hl : l.length ≤ 100000) :
    Calls Tryd.prog 18 #[.string s, .slice a0 len cap] w fun e w' => e = .returned (.bool (holdsV sqr cbr s.data.toList l)) ∧ Below w.heap.size w w' := by
  have HP := hid (parse9_any s w hm (by omega))
  obtain ⟨L, hL⟩ : ∃ L, L = parse9 s.data.toList := ⟨_, rfl⟩
  have HLN := hid (show L.length ≤ 1000001 by rw [hL]; have := parse_len s.data.toList; rw [← Lib.size_eq] at this; omega)
  have HLB := hid (show ∀ x ∈ L, x.bits = 256 ∨ x.bits = 384 ∨ x.bits = 512 by rw [hL]; exact parse_bits _)
  have HLW := hid (show ∀ x ∈ L, x.want.length ≤ 1000000 by rw [hL]; intro x hx; have := parse_want s.data.toList x hx; rw [← Lib.size_eq] at this; omega)
  have HG := hid hg
  have HSV := hid hv
  have HLC := hid hlc
  have HCM := hid hcm
  have HLL := hid hl
  have HH := hid (show holdsV sqr cbr s.data.toList l = holdsL sqr cbr (strong L) l by rw [hL]; rfl)
  unfold ParsePost9 at HP
  rw [← hL] at HP
  clear hL hg hv hlc hcm hl hm
  go_enter Tryd.func18, Tryd.ntmps18
  go_wp2_with fail
  refine HP.out.mono ?_
  rintro e w1 ⟨v1, rfl, hown1, hb1⟩
  have HST := hid (strongest_any v1 L w1 (own_it hown1) (by have := HLN.out; omega))
  have HB1 := hid hb1
  clear hown1 hb1 HP
  go_wp2_with fail
  refine HST.out.mono ?_
  rintro e w2 ⟨v2, rfl, hown2, hb2⟩
  have HB2 := hid (below2 HB1.out hb2)
  obtain ⟨S, hS⟩ : ∃ S, S = strong L := ⟨_, rfl⟩
  rw [← hS] at hown2 HH
  have HSL := hid (show S.length ≤ 1000001 by rw [hS]; have := strong_len L; have := HLN.out; omega)
  have HSB := hid (show ∀ x ∈ S, x.bits = 256 ∨ x.bits = 384 ∨ x.bits = 512 by rw [hS]; exact fun x hx => HLB.out x (strong_sub L x hx))
  have HSW := hid (show ∀ x ∈ S, x.want.length ≤ 1000000 by rw [hS]; exact fun x hx => HLW.out x (strong_sub L x hx))
  have HIT := hid (own_it hown2)
  clear hb2 hown2 hS HST HLN HLB HLW
  obtain ⟨a2, c2, rfl, hc2, hm2, hv2⟩ := HIT.out.view
  have HVI := hid hv2
  clear hv2
  cases S with
  | nil =>
    have HHT := hid (show holdsV sqr cbr s.data.toList l = true by rw [HH.out]; rfl)
    clear HH HSL HSB HSW HIT HVI hc2 hm2
    go_wp2_with fail
    go_ret
    exact ⟨ret_b8 HHT.out.symm, HB2.out⟩
  | cons x S =>
    obtain ⟨b1, o1, rfl, e1, e2, e3⟩ := HVI.out 0 (by simp)
    obtain ⟨b, hbx⟩ : ∃ b, b = x.bits := ⟨_, rfl⟩
    have f1 : w2.cell? ⟨b1, o1, none⟩ = some (.int .i64 b) := by rw [hbx]; exact e1
    obtain ⟨r, hr⟩ : ∃ r, sumV sqr cbr b l = some r := by
      rw [hbx]
      rcases HSB.out x (by simp) with h | h | h <;> rw [h] <;> exact ⟨_, rfl⟩
    have HRS := hid hr
    have HHV := hid (show holdsV sqr cbr s.data.toList l = (x :: S).any (wantsV r) by rw [HH.out]; show (match sumV sqr cbr x.bits l with | none => false | some r => (x :: S).any (wantsV r)) = _; rw [← hbx, hr])
    have HSM := hid (sum_any b a0 len cap l w2 (HG.out.kept HB2.out) (HSV.out.kept HB2.out) HLC.out HCM.out HLL.out)
    obtain ⟨N, hN⟩ : ∃ N, N = (x :: S).length := ⟨_, rfl⟩
    have HNE := hid hN
    have hNp : 0 < N := by rw [hN]; simp
    have hNe : ((N : Int) == 0) = false := by rw [beq_eq_false_iff_ne]; omega
    rw [← hN] at hc2 ⊢
    have HIT2 := hid (show ItAt w2 (.slice (some ⟨b1, o1, none⟩) N c2) (x :: S) by rw [hN]; exact HIT.out)
    clear e1 e2 e3 hbx hr HH hN HIT HVI
    go_wp2_with fail
    refine HSM.out.mono ?_
    rintro e w3 ⟨⟨hn, rfl⟩ | ⟨r2, G, n, hr2, hn2, rfl, hown3⟩, hb3⟩
    · rw [HRS.out] at hn; cases hn
    obtain rfl : r = r2 := Option.some.inj (HRS.out.symm.trans hr2)
    have HS3 := hid (show SlB w3 (.slice (some ⟨G, 0, none⟩) n n) r by
      subst hn2
      exact SlB.own hown3)
    have HB3 := hid hb3
    have HB3' := hid (below2 HB2.out hb3)
    clear hr2 hn2 hown3 hb3 f1 HSM
    obtain ⟨W4, hW4⟩ : ∃ W4, W4 = w3.alloc (.cells #[.slice (some ⟨G, 0, none⟩) n n] 22) := ⟨_, rfl⟩
    have HA4 := hid (show Below w3.heap.size w3 W4 by rw [hW4]; exact (Below.refl _ _).alloc (Nat.le_refl _) _)
    have HC4 := hid (show W4.cell? ⟨w3.heap.size, 0, none⟩ = some (.slice (some ⟨G, 0, none⟩) n n) by rw [hW4]; simp)
    have HCT := hid (containsF_any 42 #[.pointer (some ⟨w3.heap.size, 0, none⟩)] enters_want (wantsV r) (.slice (some ⟨b1, o1, none⟩) N c2) (x :: S) W4 ((HIT2.out.kept HB3.out).kept HA4.out) (by have := HSL.out; omega) (fun X y hy hX => isWant_any w3.heap.size G n n r y X (kept_cell HC4.out hX) ((HS3.out.kept HA4.out).kept hX) (HSW.out y hy)))
    rw [hW4] at HCT
    have HB4 := hid (below2 HB3'.out HA4.out)
    rw [hW4] at HB4
    clear hW4 HA4 HC4
    go_wp2_with fail
    refine HCT.out.mono ?_
    rintro e w5 ⟨rfl, hb5⟩
    have HB5 := hid (below2 HB4.out hb5)
    clear hb5
    go_wp2_with fail
    go_ret
    exact ⟨ret_b8 HHV.out.symm, HB5.out⟩

end Go.Proofs.YtbdlicomkpnalaaDoor

namespace Go.Proofs.YtbdlicomkpnalaaDoor
open Go.RowKit

/-- As the document's items lie in memory. -/
def RtAt (w : World) (v : Value) (L : List It) : Prop :=
  ∃ a cap, v = .slice a L.length cap ∧ L.length ≤ cap ∧ cap ≤ maxLen ∧ ∀ j (hj : j < L.length), ∃ b off, a = some ⟨b, off, none⟩ ∧ w.cell? ⟨b, off + j * 3, none⟩ = some (.int .i64 L[j].bits) ∧ w.cell? ⟨b, off + j * 3 + 1, none⟩ = some (.string ⟨L[j].want.toArray⟩) ∧ w.cell? ⟨b, off + j * 3 + 2, none⟩ = some (.string ⟨L[j].opt.toArray⟩)
theorem RtAt.view {w : World} {v : Value} {L : List It} (h : RtAt w v L) : ∃ a cap, v = .slice a L.length cap ∧ L.length ≤ cap ∧ cap ≤ maxLen ∧ ∀ j (hj : j < L.length), ∃ b off, a = some ⟨b, off, none⟩ ∧ w.cell? ⟨b, off + j * 3, none⟩ = some (.int .i64 L[j].bits) ∧ w.cell? ⟨b, off + j * 3 + 1, none⟩ = some (.string ⟨L[j].want.toArray⟩) ∧ w.cell? ⟨b, off + j * 3 + 2, none⟩ = some (.string ⟨L[j].opt.toArray⟩) := h

theorem it_eta (x : It) : (⟨x.bits, x.want, x.opt⟩ : It) = x := rfl

set_option maxHeartbeats 4000000 in
set_option maxRecDepth 100000 in
theorem lsame9_any (v1 v2 : Value) (L : List It) (w : World) (h1 : ItAt w v1 L) (h2 : RtAt w v2 L) (hl : L.length ≤ 1000000001) :
    Calls Tryd.prog 24 #[v1, v2] w fun e w' => e = .returned (.bool true) ∧ Below w.heap.size w w' := by
  obtain ⟨a1, c1, rfl, hc1, hm1, hv1⟩ := h1.view
  obtain ⟨a2, c2, rfl, hc2, hm2, hv2⟩ := h2.view
  have HV1 := hid hv1
  have HV2 := hid hv2
  obtain ⟨n, hn⟩ : ∃ n, n = L.length := ⟨_, rfl⟩
  have HN := hid hn
  rw [← hn] at hc1 hc2 hl ⊢
  clear h1 h2 hv1 hv2 hn
  go_enter Tryd.func24, Tryd.ntmps24
  go_wp2_with fail
  go_loopw [5] (fun v5 wr => ∃ k : Nat, k ≤ n ∧ v5 = .int .i64 k ∧ Hid (Below w.heap.size w wr)) (fun v5 _ => n - (intOf v5).toNat)
  case atStart => exact ⟨0, Nat.zero_le _, rfl, Below.refl _ w⟩
  case round =>
    obtain ⟨k, hk, rfl, HR⟩ := hrel
    by_cases hlt : k < n
    · have hkL : k < L.length := by have := HN.out; omega
      obtain ⟨b1, o1, rfl, e1, e2, e3⟩ := HV1.out k hkL
      obtain ⟨b2, o2, rfl, g1, g2, g3⟩ := HV2.out k hkL
      obtain ⟨b, hbx⟩ : ∃ b, b = L[k].bits := ⟨_, rfl⟩
      obtain ⟨V, hVx⟩ : ∃ V : ByteArray, V = ⟨L[k].want.toArray⟩ := ⟨_, rfl⟩
      obtain ⟨O, hOx⟩ : ∃ V : ByteArray, V = ⟨L[k].opt.toArray⟩ := ⟨_, rfl⟩
      rw [← hbx] at e1 g1
      rw [← hVx] at e2 g2
      rw [← hOx] at e3 g3
      have f1 := kept_cell e1 HR.out
      have f2 := kept_cell e2 HR.out
      have f3 := kept_cell e3 HR.out
      have k1 := kept_cell g1 HR.out
      have k2 := kept_cell g2 HR.out
      have k3 := kept_cell g3 HR.out
      have hin : (k : Int) < (n : Int) := by omega
      clear e1 e2 e3 g1 g2 g3 hbx hVx hOx hkL
      go_wp2_with fail
      go_quiet (fail)
      go_wp2_with fail
      go_roundw
      case rel =>
        first
          | exact ⟨k + 1, by omega, by go_num, below_drewN HR.out _⟩
          | ((repeat apply Exists.intro); refine ⟨?_, rfl⟩; exact ⟨k + 1, by omega, by go_num, below_drewN HR.out _⟩)
          | ((repeat apply Exists.intro); exact ⟨⟨k + 1, by omega, by go_num, below_drewN HR.out _⟩, rfl⟩)
      case measure => simp [intOf]; omega
    · obtain rfl : k = n := by omega
      clear hk hlt
      go_wp2_with fail
      go_ret
      exact ⟨rfl, HR.out⟩

end Go.Proofs.YtbdlicomkpnalaaDoor
