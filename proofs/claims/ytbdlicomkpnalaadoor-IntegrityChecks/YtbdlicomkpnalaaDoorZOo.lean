/-
  The walk of the law IntegrityChecks.
-/
import Derived.Test.YtbdlicomkpnalaaDoorZOn
import Derived.Test.YtbdlicomkpnalaaDoorZt
set_option linter.unusedSimpArgs false
set_option linter.unusedVariables false
namespace Go.Proofs.YtbdlicomkpnalaaDoor
open Go.RowKit

set_option maxHeartbeats 400000 in
theorem few9_any (s : ByteArray) (n : Nat) (w : World) (hn : n ≤ 1000000) (hs : s.size ≤ 9223372036854775807) :
    Calls Tryd.prog 22 #[.string s, .int .i64 n] w fun e w' => e = .returned (.string ⟨(s.data.toList.take n).toArray⟩) ∧ w = w' := by
  by_cases h : n < s.size
  · have h' : (n : Int) < (s.size : Int) := by omega
    have HE := hid (show s.extract 0 n = ⟨(s.data.toList.take n).toArray⟩ from ba_ext9 (by rw [Lib.extract_data]; simp))
    go_enter Tryd.func22, Tryd.ntmps22
    go_wp2
    go_ret
    rw [← HE.out]
    exact ⟨rfl, rfl⟩
  · have h' : ¬ ((n : Int) < (s.size : Int)) := by omega
    have HE := hid (show s = ⟨(s.data.toList.take n).toArray⟩ from ba_ext9 (by rw [List.take_of_length_le (by simp; omega)]))
    go_enter Tryd.func22, Tryd.ntmps22
    go_wp2
    go_ret
    rw [← HE.out]
    exact ⟨rfl, rfl⟩

theorem IsRow.nilcap9 {K : IntKind} {w : World} {a : Option Addr} {len cap : Nat} {zs : List Int} (h : IsRow K w a len cap zs) : a = none → cap = 0 := by
  rcases h with ⟨rfl, rfl, rfl, rfl⟩ | ⟨x, rfl, _⟩
  · exact fun _ => rfl
  · intro h; cases h

set_option maxHeartbeats 4000000 in
set_option maxRecDepth 100000 in
theorem integrityChecks_walk (s0 : ByteArray) (a0 : Option Addr) (len0 cap0 : Nat) (z0 : List Int) (w : World) (hs0 : s0.size ≤ 140737488351232) (w0 : IsRow .u8 w a0 len0 cap0 z0) (hg : Gt w) (hm : Gm w) :
    Calls Tryd.prog 6 #[.string s0, .slice a0 len0 cap0] w fun e w' => e = .returned (.bool true) ∧ Below w.heap.size w w' := by
  obtain ⟨l0, hl0, hS0, hc0, hm0⟩ := w0.bytes
  have HNC := hid w0.nilcap9
  have HG := hid hg
  have HM := hid hm
  have HCM := hid hm0
  have HFW := hid (fewBytes_any a0 len0 cap0 500 l0 w hl0 hS0 hc0 hm0 (by decide))
  have HFS := hid (few9_any s0 600 w (by decide) (by omega))
  obtain ⟨s, hs⟩ : ∃ s : ByteArray, s = ⟨(s0.data.toList.take 600).toArray⟩ := ⟨_, rfl⟩
  have HSZ := hid (show s.size ≤ 600 by rw [Lib.size_eq, hs]; simp; omega)
  rw [← hs] at HFS
  clear w0 hg hm hS0 hl0 hc0 hm0 hs
  go_enter Tryd.func6, Tryd.ntmps6
  go_wp2_with fail
  refine HFS.out.mono ?_
  rintro e wz ⟨rfl, rfl⟩
  go_wp2_with fail
  refine HFW.out.mono ?_
  rintro e wz ⟨len, hlen, hlc, rfl, hS, rfl⟩
  obtain ⟨l, hl⟩ : ∃ l, l = l0.take 500 := ⟨_, rfl⟩
  rw [← hl] at hlen hS
  have HLB := hid (show l.length ≤ 500 by rw [hl]; simp; omega)
  have HSL := hid hS
  have HLC := hid hlc
  clear hl hS hlc hlen HFW HFS
  obtain ⟨L, hL⟩ : ∃ L, L = parse9 s.data.toList := ⟨_, rfl⟩
  have HLN := hid (show L.length ≤ 601 by rw [hL]; have := parse_len s.data.toList; rw [← Lib.size_eq] at this; have := HSZ.out; omega)
  have HLB2 := hid (show ∀ x ∈ L, x.bits = 256 ∨ x.bits = 384 ∨ x.bits = 512 by rw [hL]; exact parse_bits _)
  have HP1 := hid (parse9_any s w HM.out (by have := HSZ.out; omega))
  unfold ParsePost9 at HP1
  rw [← hL] at HP1
  go_wp2_with fail
  refine HP1.out.mono ?_
  rintro e w1 ⟨v1, rfl, hown1, hb1⟩
  have HB1 := hid hb1
  have HI1 := hid (own_it hown1)
  clear hb1 hown1 HP1
  have HP2 := hid (rparse9_any s w1 (by have := HSZ.out; omega))
  unfold RParsePost9 at HP2
  rw [← hL] at HP2
  clear hL
  go_wp2_with fail
  refine HP2.out.mono ?_
  rintro e w2 ⟨v2, rfl, hown2, hb2⟩
  have HB2 := hid (below2 HB1.out hb2)
  have HI2 := hid (HI1.out.kept hb2)
  have HR2 := hid (own_rt hown2)
  clear hb2 hown2 HP2 HI1
  have HSM := hid (lsame9_any v1 v2 L w2 HI2.out HR2.out (by have := HLN.out; omega))
  go_wp2_with fail
  refine HSM.out.mono ?_
  rintro e w3 ⟨rfl, hb3⟩
  have HB3 := hid (below2 HB2.out hb3)
  have HI3 := hid (HI2.out.kept hb3)
  have HR3 := hid (HR2.out.kept hb3)
  clear hb3 HSM HI2 HR2
  have HS1 := hid (strongest_any v1 L w3 HI3.out (by have := HLN.out; omega))
  go_wp2_with fail
  refine HS1.out.mono ?_
  rintro e w4 ⟨v4, rfl, hown4, hb4⟩
  have HB4 := hid (below2 HB3.out hb4)
  have HI4 := hid (own_it hown4)
  have HR4 := hid (HR3.out.kept hb4)
  clear hb4 hown4 HS1 HI3 HR3
  have HS2 := hid (rstrong9_any v2 L w4 HR4.out (by have := HLN.out; omega))
  unfold RStrPost9 at HS2
  rw [strong_zero L HLB2.out] at HS2
  go_wp2_with fail
  refine HS2.out.mono ?_
  rintro e w5 ⟨v5, rfl, hown5, hb5⟩
  have HB5 := hid (below2 HB4.out hb5)
  have HI5 := hid (HI4.out.kept hb5)
  have HR5 := hid (own_rt hown5)
  clear hb5 hown5 HS2 HI4 HR4
  have HSM2 := hid (lsame9_any v4 v5 (strong L) w5 HI5.out HR5.out (by have := HLN.out; have := strong_len L; omega))
  go_wp2_with fail
  refine HSM2.out.mono ?_
  rintro e w6 ⟨rfl, hb6⟩
  have HB6 := hid (below2 HB5.out hb6)
  clear hb6 HSM2 HI5 HR5 HLB2 HLN
  obtain ⟨q, hq⟩ : ∃ q, q = holdsV sqr cbr s.data.toList l := ⟨_, rfl⟩
  have HQE := hid hq
  clear hq
  have HH1 := hid (show Calls Tryd.prog 18 #[.string s, .slice a0 len cap0] w6 fun e w' => e = .returned (.bool q) ∧ Below w6.heap.size w6 w' by
    rw [HQE.out]
    exact holds_any s a0 len cap0 l w6 (HG.out.kept HB6.out) (HM.out.kept HB6.out) (by have := HSZ.out; omega) (HSL.out.kept HB6.out) HLC.out HCM.out (by have := HLB.out; omega))
  go_wp2_with fail
  refine HH1.out.mono ?_
  rintro e w7 ⟨rfl, hb7⟩
  have HB7 := hid (below2 HB6.out hb7)
  clear hb7 HH1
  go_wp2_with fail
  refine (new_any w7).mono ?_
  rintro e w8 ⟨rfl, hT, hb8⟩
  have HB8 := hid (below2 HB7.out hb8)
  have HH2 := hid (show Calls Tryd.prog 26 #[.pointer (some ⟨w7.heap.size, 0, none⟩), .string s, .slice a0 len cap0] w8 fun e w' => e = .returned (.bool q) ∧ Below w8.heap.size w8 w' by
    rw [HQE.out]
    exact rholds9_any w7.heap.size s a0 len cap0 l w8 hT (by have := HSZ.out; omega) (HSL.out.kept HB8.out) HNC.out (by have := HLB.out; omega))
  clear hb8 hT
  go_wp2_with fail
  refine HH2.out.mono ?_
  rintro e w9 ⟨rfl, hb9⟩
  have HB9 := hid (below2 HB8.out hb9)
  clear hb9 HH2
  have HKN := hid (known9 w9 (HG.out.kept HB9.out) (HM.out.kept HB9.out))
  go_wp2_with fail
  refine HKN.out.mono ?_
  rintro e w10 ⟨rfl, hb10⟩
  have HB10 := hid (below2 HB9.out hb10)
  clear hb10 HKN
  go_wp2_with fail
  go_ret
  exact ⟨rfl, HB10.out⟩

end Go.Proofs.YtbdlicomkpnalaaDoor
