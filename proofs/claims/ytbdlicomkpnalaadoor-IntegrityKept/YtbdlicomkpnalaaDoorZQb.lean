/-
  The walks of ostiarybook's Same at items and of the law's mark.
-/
import Derived.Test.YtbdlicomkpnalaaDoorZQa
import Derived.Test.YtbdlicomkpnalaaDoorZk
set_option linter.unusedSimpArgs false
set_option linter.unusedVariables false
namespace Go.Proofs.YtbdlicomkpnalaaDoor
open Go.RowKit

set_option maxHeartbeats 4000000 in
set_option maxRecDepth 100000 in
theorem bsame9_any (v1 v2 : Value) (L : List It) (w : World) (h1 : ItAt w v1 L) (h2 : ItAt w v2 L) (hl : L.length ≤ 1000000001) :
    Calls Tryd.prog 53 #[v1, v2] w fun e w' => e = .returned (.bool true) ∧ Below w.heap.size w w' := by
  obtain ⟨a1, c1, rfl, hc1, hm1, hv1⟩ := h1.view
  obtain ⟨a2, c2, rfl, hc2, hm2, hv2⟩ := h2.view
  have HV1 := hid hv1
  have HV2 := hid hv2
  obtain ⟨n, hn⟩ : ∃ n, n = L.length := ⟨_, rfl⟩
  have HN := hid hn
  rw [← hn] at hc1 hc2 hl ⊢
  clear h1 h2 hv1 hv2 hn
  go_enter Tryd.func53, Tryd.ntmps53
  go_wp2_with fail
  go_loopw [5] (fun v5 wr => ∃ k : Nat, k ≤ n ∧ v5 = .int .i64 k ∧ Hid (Below w.heap.size w wr)) (fun v5 _ => n - (intOf v5).toNat)
  case atStart => exact ⟨0, Nat.zero_le _, rfl, Below.refl _ w⟩
  case round =>
    obtain ⟨k, hk, rfl, HR⟩ := hrel
    by_cases hlt : k < n
    · have hkL : k < L.length := by have := HN.out; omega
      obtain ⟨b1, o1, rfl, e1, e2, e3⟩ := HV1.out k hkL
      obtain ⟨b2, o2, rfl, g1, g2, g3⟩ := HV2.out k hkL
      obtain ⟨b, hbx⟩ : ∃ b, b = L[k].bits := ⟨_, rfl⟩
      obtain ⟨V, hVx⟩ : ∃ V : ByteArray, V = ⟨L[k].want.toArray⟩ := ⟨_, rfl⟩
      obtain ⟨O, hOx⟩ : ∃ V : ByteArray, V = ⟨L[k].opt.toArray⟩ := ⟨_, rfl⟩
      rw [← hbx] at e1 g1
      rw [← hVx] at e2 g2
      rw [← hOx] at e3 g3
      have f1 := kept_cell e1 HR.out
      have f2 := kept_cell e2 HR.out
      have f3 := kept_cell e3 HR.out
      have k1 := kept_cell g1 HR.out
      have k2 := kept_cell g2 HR.out
      have k3 := kept_cell g3 HR.out
      have hin : (k : Int) < (n : Int) := by omega
      clear e1 e2 e3 g1 g2 g3 hbx hVx hOx hkL
      go_wp2_with fail
      go_quiet (fail)
      go_wp2_with fail
      go_roundw
      case rel =>
        first
          | exact ⟨k + 1, by omega, by go_num, below_drewN HR.out _⟩
          | ((repeat apply Exists.intro); refine ⟨?_, rfl⟩; exact ⟨k + 1, by omega, by go_num, below_drewN HR.out _⟩)
          | ((repeat apply Exists.intro); exact ⟨⟨k + 1, by omega, by go_num, below_drewN HR.out _⟩, rfl⟩)
      case measure => simp [intOf]; omega
    · obtain rfl : k = n := by omega
      clear hk hlt
      go_wp2_with fail
      go_ret
      exact ⟨rfl, HR.out⟩

/-- The number that marks place j of list i. -/
def mkI9 (i j : Int) : Int := wrap64 (wrap64 (-100 - wrap64 (i * 50)) - j)

theorem results_i1 {fn : Func} {p : Tmp} (h : fn.results = #[.cell p 56]) (tmps : Array Value) (w : World) (b : Nat) (n : Int) (v o : ByteArray) (hp : tmps.getD p undef = .pointer (some ⟨b, 0, none⟩)) (hc : w.rangeAt b 0 [.int .i64 n, .string v, .string o]) : (results fn tmps).run Tryd.prog w = .ok (.agg #[.int .i64 n, .string v, .string o]) w := by
  rw [Array.getD_eq_getD_getElem?] at hp
  simp only [results, h]
  simp [Sem.run_bind, Result.andThen, hp, asAddr, run_loadVar_mid w b 0 56 [.int .i64 n, .string v, .string o] _ hc Tryd.underlying56 rfl (by kernel_rfl)]

set_option maxHeartbeats 1000000 in
theorem mark9_any (i j : Int) (w : World) :
    Calls Tryd.prog 29 #[.int .i64 i, .int .i64 j] w fun e w' => e = .returned (.agg #[.int .i64 (mkI9 i j), .string ⟨#[]⟩, .string ⟨#[]⟩]) ∧ Below w.heap.size w w' := by
  obtain ⟨a, ha⟩ : ∃ a, a = wrap64 (i * 50) := ⟨_, rfl⟩
  obtain ⟨b, hb⟩ : ∃ b, b = wrap64 (-100 - a) := ⟨_, rfl⟩
  obtain ⟨c, hc⟩ : ∃ c, c = wrap64 (b - j) := ⟨_, rfl⟩
  have HC := hid (show mkI9 i j = c by unfold mkI9; rw [← ha, ← hb, ← hc])
  have ea := ha.symm
  have eb := hb.symm
  have ec := hc.symm
  clear ha hb hc
  go_enter Tryd.func29, Tryd.ntmps29
  go_wp2_with fail
  rw [HC.out]
  exact bodyPost_ret (results_i1 rfl _ _ w.heap.size c ⟨#[]⟩ ⟨#[]⟩ rfl (TriI.range (show TriI _ w.heap.size c ⟨#[]⟩ ⟨#[]⟩ from heap_alloc_new w _))) rfl ⟨rfl, (Below.refl _ w).alloc (Nat.le_refl _) _⟩

end Go.Proofs.YtbdlicomkpnalaaDoor
