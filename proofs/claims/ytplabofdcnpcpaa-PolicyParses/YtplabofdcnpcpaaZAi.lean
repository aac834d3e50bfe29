/-
  The walks of policy's wider, Chain and For.
-/
import Derived.Test.YtplabofdcnpcpaaZAe
import Derived.Laws.AppendOwn
set_option linter.unusedSimpArgs false
set_option linter.unusedVariables false
namespace Go.Proofs.Ytplabofdcnpcpaa
open Go.RowKit

theorem infoS10 : (Try.prog.info? 9).map (fun i => (i.zero, i.size, i.bytes)) = some (some (.string ByteArray.empty), 1, 16) := by kernel_rfl

def OwnT (L : List (List UInt8)) (w : World) (e : Ending) (w' : World) : Prop := ∃ v, e = .returned v ∧ w'.ownsRow w.heap.size 9 1 v L.length (cellsT L) ∧ Below w.heap.size w w'

theorem beq_no10 (a : ByteArray) (l : List UInt8) (h : a.data.toList ≠ l) : (a.toList == l) = false := by
  rw [Lib.toList_data, beq_eq_false_iff_ne]; exact h

set_option maxHeartbeats 400000 in
theorem wider_nSe (w : World) : Calls Try.prog 29 #[.string ⟨#[115, 99, 114, 105, 112, 116, 45, 115, 114, 99, 45, 101, 108, 101, 109]⟩] w fun e w' => e = .returned (.string ⟨#[115, 99, 114, 105, 112, 116, 45, 115, 114, 99]⟩) ∧ w = w' := by
  go_enter Try.func29, Try.ntmps29
  go_wp2
  go_ret
  exact ⟨rfl, rfl⟩

set_option maxHeartbeats 400000 in
theorem wider_nYe (w : World) : Calls Try.prog 29 #[.string ⟨#[115, 116, 121, 108, 101, 45, 115, 114, 99, 45, 101, 108, 101, 109]⟩] w fun e w' => e = .returned (.string ⟨#[115, 116, 121, 108, 101, 45, 115, 114, 99]⟩) ∧ w = w' := by
  go_enter Try.func29, Try.ntmps29
  go_wp2
  go_ret
  exact ⟨rfl, rfl⟩

set_option maxHeartbeats 400000 in
theorem wider_nCh (w : World) : Calls Try.prog 29 #[.string ⟨#[99, 104, 105, 108, 100, 45, 115, 114, 99]⟩] w fun e w' => e = .returned (.string ⟨#[115, 99, 114, 105, 112, 116, 45, 115, 114, 99]⟩) ∧ w = w' := by
  go_enter Try.func29, Try.ntmps29
  go_wp2
  go_ret
  exact ⟨rfl, rfl⟩

set_option maxHeartbeats 400000 in
theorem wider_nFr (w : World) : Calls Try.prog 29 #[.string ⟨#[102, 114, 97, 109, 101, 45, 115, 114, 99]⟩] w fun e w' => e = .returned (.string ⟨#[99, 104, 105, 108, 100, 45, 115, 114, 99]⟩) ∧ w = w' := by
  go_enter Try.func29, Try.ntmps29
  go_wp2
  go_ret
  exact ⟨rfl, rfl⟩

set_option maxHeartbeats 2000000 in
set_option maxRecDepth 100000 in
theorem chain_nSe (w : World) : Calls Try.prog 9 #[.string ⟨#[115, 99, 114, 105, 112, 116, 45, 115, 114, 99, 45, 101, 108, 101, 109]⟩] w (OwnT [nSe, nSc, nDe] w) := by
  obtain ⟨i0, hi, hz0, hz1, hz2⟩ := info_parts infoS10
  go_enter Try.func9, Try.ntmps9
  go_wp2_with (at_builtin; refine wpList_append_own _ rfl _ _ 22 rfl w.heap.size 9 i0 (.string ⟨#[]⟩) 1 16 Try.underlying22 hi hz0 hz1 hz2 rfl (by decide) _ 0 _ rfl (World.ownsRow_nil _ _ _ _) ⟨w.heap.size, 0, none⟩ 1 1 [.string ⟨#[115, 99, 114, 105, 112, 116, 45, 115, 114, 99, 45, 101, 108, 101, 109]⟩] rfl rfl ?c01 ?c02 (by decide) (by decide) (by simp) ?_)
  case c01 =>
    intro q u hq
    match q, hq with
    | 0, hq => simp at hq; subst hq; simp [Addr.add]
  case c02 => intro u hu; simp at hu; subst hu; rfl
  intro v1 w1 hown hgrow hnil
  have HO1 := hid hown
  have HB1 := hid (show Below w.heap.size w w1 from ((Below.refl _ w).alloc (Nat.le_refl _) _).grown hgrow (by simp) (fun k hk => by simp [Value.ownBlock] at hk))
  clear hown hgrow hnil
  go_wp2_with fail
  refine (wider_nSe _).mono ?_
  rintro e wz ⟨rfl, rfl⟩
  go_wp2_with (at_builtin; refine wpList_append_own _ rfl _ _ 22 rfl w.heap.size 9 i0 (.string ⟨#[]⟩) 1 16 Try.underlying22 hi hz0 hz1 hz2 rfl (by decide) _ 1 _ rfl ((HO1.out.alloc _)) ⟨w1.heap.size, 0, none⟩ 1 1 [.string ⟨#[115, 99, 114, 105, 112, 116, 45, 115, 114, 99]⟩] rfl rfl ?c11 ?c12 (by decide) (by decide) (by have := HB1.out.size; simp; omega) ?_)
  case c11 =>
    intro q u hq
    match q, hq with
    | 0, hq => simp at hq; subst hq; simp [Addr.add]
  case c12 => intro u hu; simp at hu; subst hu; rfl
  intro v2 w2 hown hgrow hnil
  have HO2 := hid hown
  have HB2 := hid (show Below w.heap.size w w2 from (HB1.out.alloc HB1.out.size _).grown hgrow (by have := HB1.out.size; simp; omega) (fun k hk => (HO1.out.lt k hk).1))
  clear hown hgrow hnil
  go_wp2_with (at_builtin; refine wpList_append_own _ rfl _ _ 22 rfl w.heap.size 9 i0 (.string ⟨#[]⟩) 1 16 Try.underlying22 hi hz0 hz1 hz2 rfl (by decide) _ 2 _ rfl ((HO2.out.alloc _)) ⟨w2.heap.size, 0, none⟩ 1 1 [.string ⟨#[100, 101, 102, 97, 117, 108, 116, 45, 115, 114, 99]⟩] rfl rfl ?c21 ?c22 (by decide) (by decide) (by have := HB2.out.size; simp; omega) ?_)
  case c21 =>
    intro q u hq
    match q, hq with
    | 0, hq => simp at hq; subst hq; simp [Addr.add]
  case c22 => intro u hu; simp at hu; subst hu; rfl
  intro v3 w3 hown hgrow hnil
  have HO3 := hid hown
  have HB3 := hid (show Below w.heap.size w w3 from (HB2.out.alloc HB2.out.size _).grown hgrow (by have := HB2.out.size; simp; omega) (fun k hk => (HO2.out.lt k hk).1))
  clear hown hgrow hnil
  go_wp2_with fail
  go_ret
  exact ⟨v3, rfl, HO3.out, HB3.out⟩

set_option maxHeartbeats 2000000 in
set_option maxRecDepth 100000 in
theorem chain_nYe (w : World) : Calls Try.prog 9 #[.string ⟨#[115, 116, 121, 108, 101, 45, 115, 114, 99, 45, 101, 108, 101, 109]⟩] w (OwnT [nYe, nSt, nDe] w) := by
  obtain ⟨i0, hi, hz0, hz1, hz2⟩ := info_parts infoS10
  go_enter Try.func9, Try.ntmps9
  go_wp2_with (at_builtin; refine wpList_append_own _ rfl _ _ 22 rfl w.heap.size 9 i0 (.string ⟨#[]⟩) 1 16 Try.underlying22 hi hz0 hz1 hz2 rfl (by decide) _ 0 _ rfl (World.ownsRow_nil _ _ _ _) ⟨w.heap.size, 0, none⟩ 1 1 [.string ⟨#[115, 116, 121, 108, 101, 45, 115, 114, 99, 45, 101, 108, 101, 109]⟩] rfl rfl ?c01 ?c02 (by decide) (by decide) (by simp) ?_)
  case c01 =>
    intro q u hq
    match q, hq with
    | 0, hq => simp at hq; subst hq; simp [Addr.add]
  case c02 => intro u hu; simp at hu; subst hu; rfl
  intro v1 w1 hown hgrow hnil
  have HO1 := hid hown
  have HB1 := hid (show Below w.heap.size w w1 from ((Below.refl _ w).alloc (Nat.le_refl _) _).grown hgrow (by simp) (fun k hk => by simp [Value.ownBlock] at hk))
  clear hown hgrow hnil
  go_wp2_with fail
  refine (wider_nYe _).mono ?_
  rintro e wz ⟨rfl, rfl⟩
  go_wp2_with (at_builtin; refine wpList_append_own _ rfl _ _ 22 rfl w.heap.size 9 i0 (.string ⟨#[]⟩) 1 16 Try.underlying22 hi hz0 hz1 hz2 rfl (by decide) _ 1 _ rfl ((HO1.out.alloc _)) ⟨w1.heap.size, 0, none⟩ 1 1 [.string ⟨#[115, 116, 121, 108, 101, 45, 115, 114, 99]⟩] rfl rfl ?c11 ?c12 (by decide) (by decide) (by have := HB1.out.size; simp; omega) ?_)
  case c11 =>
    intro q u hq
    match q, hq with
    | 0, hq => simp at hq; subst hq; simp [Addr.add]
  case c12 => intro u hu; simp at hu; subst hu; rfl
  intro v2 w2 hown hgrow hnil
  have HO2 := hid hown
  have HB2 := hid (show Below w.heap.size w w2 from (HB1.out.alloc HB1.out.size _).grown hgrow (by have := HB1.out.size; simp; omega) (fun k hk => (HO1.out.lt k hk).1))
  clear hown hgrow hnil
  go_wp2_with (at_builtin; refine wpList_append_own _ rfl _ _ 22 rfl w.heap.size 9 i0 (.string ⟨#[]⟩) 1 16 Try.underlying22 hi hz0 hz1 hz2 rfl (by decide) _ 2 _ rfl ((HO2.out.alloc _)) ⟨w2.heap.size, 0, none⟩ 1 1 [.string ⟨#[100, 101, 102, 97, 117, 108, 116, 45, 115, 114, 99]⟩] rfl rfl ?c21 ?c22 (by decide) (by decide) (by have := HB2.out.size; simp; omega) ?_)
  case c21 =>
    intro q u hq
    match q, hq with
    | 0, hq => simp at hq; subst hq; simp [Addr.add]
  case c22 => intro u hu; simp at hu; subst hu; rfl
  intro v3 w3 hown hgrow hnil
  have HO3 := hid hown
  have HB3 := hid (show Below w.heap.size w w3 from (HB2.out.alloc HB2.out.size _).grown hgrow (by have := HB2.out.size; simp; omega) (fun k hk => (HO2.out.lt k hk).1))
  clear hown hgrow hnil
  go_wp2_with fail
  go_ret
  exact ⟨v3, rfl, HO3.out, HB3.out⟩

set_option maxHeartbeats 2000000 in
set_option maxRecDepth 100000 in
theorem chain_nWk (w : World) : Calls Try.prog 9 #[.string ⟨#[119, 111, 114, 107, 101, 114, 45, 115, 114, 99]⟩] w (OwnT [nWk, nCh, nSc, nDe] w) := by
  obtain ⟨i0, hi, hz0, hz1, hz2⟩ := info_parts infoS10
  go_enter Try.func9, Try.ntmps9
  go_wp2_with (at_builtin; refine wpList_append_own _ rfl _ _ 22 rfl w.heap.size 9 i0 (.string ⟨#[]⟩) 1 16 Try.underlying22 hi hz0 hz1 hz2 rfl (by decide) _ 0 _ rfl (World.ownsRow_nil _ _ _ _) ⟨w.heap.size, 0, none⟩ 1 1 [.string ⟨#[119, 111, 114, 107, 101, 114, 45, 115, 114, 99]⟩] rfl rfl ?c01 ?c02 (by decide) (by decide) (by simp) ?_)
  case c01 =>
    intro q u hq
    match q, hq with
    | 0, hq => simp at hq; subst hq; simp [Addr.add]
  case c02 => intro u hu; simp at hu; subst hu; rfl
  intro v1 w1 hown hgrow hnil
  have HO1 := hid hown
  have HB1 := hid (show Below w.heap.size w w1 from ((Below.refl _ w).alloc (Nat.le_refl _) _).grown hgrow (by simp) (fun k hk => by simp [Value.ownBlock] at hk))
  clear hown hgrow hnil
  go_wp2_with (at_builtin; refine wpList_append_own _ rfl _ _ 22 rfl w.heap.size 9 i0 (.string ⟨#[]⟩) 1 16 Try.underlying22 hi hz0 hz1 hz2 rfl (by decide) _ 1 _ rfl ((HO1.out.alloc _)) ⟨w1.heap.size, 0, none⟩ 1 1 [.string ⟨#[99, 104, 105, 108, 100, 45, 115, 114, 99]⟩] rfl rfl ?c11 ?c12 (by decide) (by decide) (by have := HB1.out.size; simp; omega) ?_)
  case c11 =>
    intro q u hq
    match q, hq with
    | 0, hq => simp at hq; subst hq; simp [Addr.add]
  case c12 => intro u hu; simp at hu; subst hu; rfl
  intro v2 w2 hown hgrow hnil
  have HO2 := hid hown
  have HB2 := hid (show Below w.heap.size w w2 from (HB1.out.alloc HB1.out.size _).grown hgrow (by have := HB1.out.size; simp; omega) (fun k hk => (HO1.out.lt k hk).1))
  clear hown hgrow hnil
  go_wp2_with fail
  refine (wider_nCh _).mono ?_
  rintro e wz ⟨rfl, rfl⟩
  go_wp2_with (at_builtin; refine wpList_append_own _ rfl _ _ 22 rfl w.heap.size 9 i0 (.string ⟨#[]⟩) 1 16 Try.underlying22 hi hz0 hz1 hz2 rfl (by decide) _ 2 _ rfl ((HO2.out.alloc _)) ⟨w2.heap.size, 0, none⟩ 1 1 [.string ⟨#[115, 99, 114, 105, 112, 116, 45, 115, 114, 99]⟩] rfl rfl ?c21 ?c22 (by decide) (by decide) (by have := HB2.out.size; simp; omega) ?_)
  case c21 =>
    intro q u hq
    match q, hq with
    | 0, hq => simp at hq; subst hq; simp [Addr.add]
  case c22 => intro u hu; simp at hu; subst hu; rfl
  intro v3 w3 hown hgrow hnil
  have HO3 := hid hown
  have HB3 := hid (show Below w.heap.size w w3 from (HB2.out.alloc HB2.out.size _).grown hgrow (by have := HB2.out.size; simp; omega) (fun k hk => (HO2.out.lt k hk).1))
  clear hown hgrow hnil
  go_wp2_with (at_builtin; refine wpList_append_own _ rfl _ _ 22 rfl w.heap.size 9 i0 (.string ⟨#[]⟩) 1 16 Try.underlying22 hi hz0 hz1 hz2 rfl (by decide) _ 3 _ rfl ((HO3.out.alloc _)) ⟨w3.heap.size, 0, none⟩ 1 1 [.string ⟨#[100, 101, 102, 97, 117, 108, 116, 45, 115, 114, 99]⟩] rfl rfl ?c31 ?c32 (by decide) (by decide) (by have := HB3.out.size; simp; omega) ?_)
  case c31 =>
    intro q u hq
    match q, hq with
    | 0, hq => simp at hq; subst hq; simp [Addr.add]
  case c32 => intro u hu; simp at hu; subst hu; rfl
  intro v4 w4 hown hgrow hnil
  have HO4 := hid hown
  have HB4 := hid (show Below w.heap.size w w4 from (HB3.out.alloc HB3.out.size _).grown hgrow (by have := HB3.out.size; simp; omega) (fun k hk => (HO3.out.lt k hk).1))
  clear hown hgrow hnil
  go_wp2_with fail
  go_ret
  exact ⟨v4, rfl, HO4.out, HB4.out⟩

set_option maxHeartbeats 2000000 in
set_option maxRecDepth 100000 in
theorem chain_nFr (w : World) : Calls Try.prog 9 #[.string ⟨#[102, 114, 97, 109, 101, 45, 115, 114, 99]⟩] w (OwnT [nFr, nCh, nDe] w) := by
  obtain ⟨i0, hi, hz0, hz1, hz2⟩ := info_parts infoS10
  go_enter Try.func9, Try.ntmps9
  go_wp2_with (at_builtin; refine wpList_append_own _ rfl _ _ 22 rfl w.heap.size 9 i0 (.string ⟨#[]⟩) 1 16 Try.underlying22 hi hz0 hz1 hz2 rfl (by decide) _ 0 _ rfl (World.ownsRow_nil _ _ _ _) ⟨w.heap.size, 0, none⟩ 1 1 [.string ⟨#[102, 114, 97, 109, 101, 45, 115, 114, 99]⟩] rfl rfl ?c01 ?c02 (by decide) (by decide) (by simp) ?_)
  case c01 =>
    intro q u hq
    match q, hq with
    | 0, hq => simp at hq; subst hq; simp [Addr.add]
  case c02 => intro u hu; simp at hu; subst hu; rfl
  intro v1 w1 hown hgrow hnil
  have HO1 := hid hown
  have HB1 := hid (show Below w.heap.size w w1 from ((Below.refl _ w).alloc (Nat.le_refl _) _).grown hgrow (by simp) (fun k hk => by simp [Value.ownBlock] at hk))
  clear hown hgrow hnil
  go_wp2_with fail
  refine (wider_nFr _).mono ?_
  rintro e wz ⟨rfl, rfl⟩
  go_wp2_with (at_builtin; refine wpList_append_own _ rfl _ _ 22 rfl w.heap.size 9 i0 (.string ⟨#[]⟩) 1 16 Try.underlying22 hi hz0 hz1 hz2 rfl (by decide) _ 1 _ rfl ((HO1.out.alloc _)) ⟨w1.heap.size, 0, none⟩ 1 1 [.string ⟨#[99, 104, 105, 108, 100, 45, 115, 114, 99]⟩] rfl rfl ?c11 ?c12 (by decide) (by decide) (by have := HB1.out.size; simp; omega) ?_)
  case c11 =>
    intro q u hq
    match q, hq with
    | 0, hq => simp at hq; subst hq; simp [Addr.add]
  case c12 => intro u hu; simp at hu; subst hu; rfl
  intro v2 w2 hown hgrow hnil
  have HO2 := hid hown
  have HB2 := hid (show Below w.heap.size w w2 from (HB1.out.alloc HB1.out.size _).grown hgrow (by have := HB1.out.size; simp; omega) (fun k hk => (HO1.out.lt k hk).1))
  clear hown hgrow hnil
  go_wp2_with (at_builtin; refine wpList_append_own _ rfl _ _ 22 rfl w.heap.size 9 i0 (.string ⟨#[]⟩) 1 16 Try.underlying22 hi hz0 hz1 hz2 rfl (by decide) _ 2 _ rfl ((HO2.out.alloc _)) ⟨w2.heap.size, 0, none⟩ 1 1 [.string ⟨#[100, 101, 102, 97, 117, 108, 116, 45, 115, 114, 99]⟩] rfl rfl ?c21 ?c22 (by decide) (by decide) (by have := HB2.out.size; simp; omega) ?_)
  case c21 =>
    intro q u hq
    match q, hq with
    | 0, hq => simp at hq; subst hq; simp [Addr.add]
  case c22 => intro u hu; simp at hu; subst hu; rfl
  intro v3 w3 hown hgrow hnil
  have HO3 := hid hown
  have HB3 := hid (show Below w.heap.size w w3 from (HB2.out.alloc HB2.out.size _).grown hgrow (by have := HB2.out.size; simp; omega) (fun k hk => (HO2.out.lt k hk).1))
  clear hown hgrow hnil
  go_wp2_with fail
  go_ret
  exact ⟨v3, rfl, HO3.out, HB3.out⟩

set_option maxHeartbeats 2000000 in
set_option maxRecDepth 100000 in
theorem chain_nCo (w : World) : Calls Try.prog 9 #[.string ⟨#[99, 111, 110, 110, 101, 99, 116, 45, 115, 114, 99]⟩] w (OwnT [nCo, nDe] w) := by
  obtain ⟨i0, hi, hz0, hz1, hz2⟩ := info_parts infoS10
  go_enter Try.func9, Try.ntmps9
  go_wp2_with (at_builtin; refine wpList_append_own _ rfl _ _ 22 rfl w.heap.size 9 i0 (.string ⟨#[]⟩) 1 16 Try.underlying22 hi hz0 hz1 hz2 rfl (by decide) _ 0 _ rfl (World.ownsRow_nil _ _ _ _) ⟨w.heap.size, 0, none⟩ 1 1 [.string ⟨#[99, 111, 110, 110, 101, 99, 116, 45, 115, 114, 99]⟩] rfl rfl ?c01 ?c02 (by decide) (by decide) (by simp) ?_)
  case c01 =>
    intro q u hq
    match q, hq with
    | 0, hq => simp at hq; subst hq; simp [Addr.add]
  case c02 => intro u hu; simp at hu; subst hu; rfl
  intro v1 w1 hown hgrow hnil
  have HO1 := hid hown
  have HB1 := hid (show Below w.heap.size w w1 from ((Below.refl _ w).alloc (Nat.le_refl _) _).grown hgrow (by simp) (fun k hk => by simp [Value.ownBlock] at hk))
  clear hown hgrow hnil
  go_wp2_with (at_builtin; refine wpList_append_own _ rfl _ _ 22 rfl w.heap.size 9 i0 (.string ⟨#[]⟩) 1 16 Try.underlying22 hi hz0 hz1 hz2 rfl (by decide) _ 1 _ rfl ((HO1.out.alloc _)) ⟨w1.heap.size, 0, none⟩ 1 1 [.string ⟨#[100, 101, 102, 97, 117, 108, 116, 45, 115, 114, 99]⟩] rfl rfl ?c11 ?c12 (by decide) (by decide) (by have := HB1.out.size; simp; omega) ?_)
  case c11 =>
    intro q u hq
    match q, hq with
    | 0, hq => simp at hq; subst hq; simp [Addr.add]
  case c12 => intro u hu; simp at hu; subst hu; rfl
  intro v2 w2 hown hgrow hnil
  have HO2 := hid hown
  have HB2 := hid (show Below w.heap.size w w2 from (HB1.out.alloc HB1.out.size _).grown hgrow (by have := HB1.out.size; simp; omega) (fun k hk => (HO1.out.lt k hk).1))
  clear hown hgrow hnil
  go_wp2_with fail
  go_ret
  exact ⟨v2, rfl, HO2.out, HB2.out⟩

set_option maxHeartbeats 2000000 in
set_option maxRecDepth 100000 in
theorem chain_nFo (w : World) : Calls Try.prog 9 #[.string ⟨#[102, 111, 110, 116, 45, 115, 114, 99]⟩] w (OwnT [nFo, nDe] w) := by
  obtain ⟨i0, hi, hz0, hz1, hz2⟩ := info_parts infoS10
  go_enter Try.func9, Try.ntmps9
  go_wp2_with (at_builtin; refine wpList_append_own _ rfl _ _ 22 rfl w.heap.size 9 i0 (.string ⟨#[]⟩) 1 16 Try.underlying22 hi hz0 hz1 hz2 rfl (by decide) _ 0 _ rfl (World.ownsRow_nil _ _ _ _) ⟨w.heap.size, 0, none⟩ 1 1 [.string ⟨#[102, 111, 110, 116, 45, 115, 114, 99]⟩] rfl rfl ?c01 ?c02 (by decide) (by decide) (by simp) ?_)
  case c01 =>
    intro q u hq
    match q, hq with
    | 0, hq => simp at hq; subst hq; simp [Addr.add]
  case c02 => intro u hu; simp at hu; subst hu; rfl
  intro v1 w1 hown hgrow hnil
  have HO1 := hid hown
  have HB1 := hid (show Below w.heap.size w w1 from ((Below.refl _ w).alloc (Nat.le_refl _) _).grown hgrow (by simp) (fun k hk => by simp [Value.ownBlock] at hk))
  clear hown hgrow hnil
  go_wp2_with (at_builtin; refine wpList_append_own _ rfl _ _ 22 rfl w.heap.size 9 i0 (.string ⟨#[]⟩) 1 16 Try.underlying22 hi hz0 hz1 hz2 rfl (by decide) _ 1 _ rfl ((HO1.out.alloc _)) ⟨w1.heap.size, 0, none⟩ 1 1 [.string ⟨#[100, 101, 102, 97, 117, 108, 116, 45, 115, 114, 99]⟩] rfl rfl ?c11 ?c12 (by decide) (by decide) (by have := HB1.out.size; simp; omega) ?_)
  case c11 =>
    intro q u hq
    match q, hq with
    | 0, hq => simp at hq; subst hq; simp [Addr.add]
  case c12 => intro u hu; simp at hu; subst hu; rfl
  intro v2 w2 hown hgrow hnil
  have HO2 := hid hown
  have HB2 := hid (show Below w.heap.size w w2 from (HB1.out.alloc HB1.out.size _).grown hgrow (by have := HB1.out.size; simp; omega) (fun k hk => (HO1.out.lt k hk).1))
  clear hown hgrow hnil
  go_wp2_with fail
  go_ret
  exact ⟨v2, rfl, HO2.out, HB2.out⟩

set_option maxHeartbeats 2000000 in
set_option maxRecDepth 100000 in
theorem chain_nIm (w : World) : Calls Try.prog 9 #[.string ⟨#[105, 109, 103, 45, 115, 114, 99]⟩] w (OwnT [nIm, nDe] w) := by
  obtain ⟨i0, hi, hz0, hz1, hz2⟩ := info_parts infoS10
  go_enter Try.func9, Try.ntmps9
  go_wp2_with (at_builtin; refine wpList_append_own _ rfl _ _ 22 rfl w.heap.size 9 i0 (.string ⟨#[]⟩) 1 16 Try.underlying22 hi hz0 hz1 hz2 rfl (by decide) _ 0 _ rfl (World.ownsRow_nil _ _ _ _) ⟨w.heap.size, 0, none⟩ 1 1 [.string ⟨#[105, 109, 103, 45, 115, 114, 99]⟩] rfl rfl ?c01 ?c02 (by decide) (by decide) (by simp) ?_)
  case c01 =>
    intro q u hq
    match q, hq with
    | 0, hq => simp at hq; subst hq; simp [Addr.add]
  case c02 => intro u hu; simp at hu; subst hu; rfl
  intro v1 w1 hown hgrow hnil
  have HO1 := hid hown
  have HB1 := hid (show Below w.heap.size w w1 from ((Below.refl _ w).alloc (Nat.le_refl _) _).grown hgrow (by simp) (fun k hk => by simp [Value.ownBlock] at hk))
  clear hown hgrow hnil
  go_wp2_with (at_builtin; refine wpList_append_own _ rfl _ _ 22 rfl w.heap.size 9 i0 (.string ⟨#[]⟩) 1 16 Try.underlying22 hi hz0 hz1 hz2 rfl (by decide) _ 1 _ rfl ((HO1.out.alloc _)) ⟨w1.heap.size, 0, none⟩ 1 1 [.string ⟨#[100, 101, 102, 97, 117, 108, 116, 45, 115, 114, 99]⟩] rfl rfl ?c11 ?c12 (by decide) (by decide) (by have := HB1.out.size; simp; omega) ?_)
  case c11 =>
    intro q u hq
    match q, hq with
    | 0, hq => simp at hq; subst hq; simp [Addr.add]
  case c12 => intro u hu; simp at hu; subst hu; rfl
  intro v2 w2 hown hgrow hnil
  have HO2 := hid hown
  have HB2 := hid (show Below w.heap.size w w2 from (HB1.out.alloc HB1.out.size _).grown hgrow (by have := HB1.out.size; simp; omega) (fun k hk => (HO1.out.lt k hk).1))
  clear hown hgrow hnil
  go_wp2_with fail
  go_ret
  exact ⟨v2, rfl, HO2.out, HB2.out⟩

set_option maxHeartbeats 2000000 in
set_option maxRecDepth 100000 in
theorem chain_nMe (w : World) : Calls Try.prog 9 #[.string ⟨#[109, 101, 100, 105, 97, 45, 115, 114, 99]⟩] w (OwnT [nMe, nDe] w) := by
  obtain ⟨i0, hi, hz0, hz1, hz2⟩ := info_parts infoS10
  go_enter Try.func9, Try.ntmps9
  go_wp2_with (at_builtin; refine wpList_append_own _ rfl _ _ 22 rfl w.heap.size 9 i0 (.string ⟨#[]⟩) 1 16 Try.underlying22 hi hz0 hz1 hz2 rfl (by decide) _ 0 _ rfl (World.ownsRow_nil _ _ _ _) ⟨w.heap.size, 0, none⟩ 1 1 [.string ⟨#[109, 101, 100, 105, 97, 45, 115, 114, 99]⟩] rfl rfl ?c01 ?c02 (by decide) (by decide) (by simp) ?_)
  case c01 =>
    intro q u hq
    match q, hq with
    | 0, hq => simp at hq; subst hq; simp [Addr.add]
  case c02 => intro u hu; simp at hu; subst hu; rfl
  intro v1 w1 hown hgrow hnil
  have HO1 := hid hown
  have HB1 := hid (show Below w.heap.size w w1 from ((Below.refl _ w).alloc (Nat.le_refl _) _).grown hgrow (by simp) (fun k hk => by simp [Value.ownBlock] at hk))
  clear hown hgrow hnil
  go_wp2_with (at_builtin; refine wpList_append_own _ rfl _ _ 22 rfl w.heap.size 9 i0 (.string ⟨#[]⟩) 1 16 Try.underlying22 hi hz0 hz1 hz2 rfl (by decide) _ 1 _ rfl ((HO1.out.alloc _)) ⟨w1.heap.size, 0, none⟩ 1 1 [.string ⟨#[100, 101, 102, 97, 117, 108, 116, 45, 115, 114, 99]⟩] rfl rfl ?c11 ?c12 (by decide) (by decide) (by have := HB1.out.size; simp; omega) ?_)
  case c11 =>
    intro q u hq
    match q, hq with
    | 0, hq => simp at hq; subst hq; simp [Addr.add]
  case c12 => intro u hu; simp at hu; subst hu; rfl
  intro v2 w2 hown hgrow hnil
  have HO2 := hid hown
  have HB2 := hid (show Below w.heap.size w w2 from (HB1.out.alloc HB1.out.size _).grown hgrow (by have := HB1.out.size; simp; omega) (fun k hk => (HO1.out.lt k hk).1))
  clear hown hgrow hnil
  go_wp2_with fail
  go_ret
  exact ⟨v2, rfl, HO2.out, HB2.out⟩

set_option maxHeartbeats 2000000 in
set_option maxRecDepth 100000 in
theorem chain_nSc (w : World) : Calls Try.prog 9 #[.string ⟨#[115, 99, 114, 105, 112, 116, 45, 115, 114, 99]⟩] w (OwnT [nSc, nDe] w) := by
  obtain ⟨i0, hi, hz0, hz1, hz2⟩ := info_parts infoS10
  go_enter Try.func9, Try.ntmps9
  go_wp2_with (at_builtin; refine wpList_append_own _ rfl _ _ 22 rfl w.heap.size 9 i0 (.string ⟨#[]⟩) 1 16 Try.underlying22 hi hz0 hz1 hz2 rfl (by decide) _ 0 _ rfl (World.ownsRow_nil _ _ _ _) ⟨w.heap.size, 0, none⟩ 1 1 [.string ⟨#[115, 99, 114, 105, 112, 116, 45, 115, 114, 99]⟩] rfl rfl ?c01 ?c02 (by decide) (by decide) (by simp) ?_)
  case c01 =>
    intro q u hq
    match q, hq with
    | 0, hq => simp at hq; subst hq; simp [Addr.add]
  case c02 => intro u hu; simp at hu; subst hu; rfl
  intro v1 w1 hown hgrow hnil
  have HO1 := hid hown
  have HB1 := hid (show Below w.heap.size w w1 from ((Below.refl _ w).alloc (Nat.le_refl _) _).grown hgrow (by simp) (fun k hk => by simp [Value.ownBlock] at hk))
  clear hown hgrow hnil
  go_wp2_with (at_builtin; refine wpList_append_own _ rfl _ _ 22 rfl w.heap.size 9 i0 (.string ⟨#[]⟩) 1 16 Try.underlying22 hi hz0 hz1 hz2 rfl (by decide) _ 1 _ rfl ((HO1.out.alloc _)) ⟨w1.heap.size, 0, none⟩ 1 1 [.string ⟨#[100, 101, 102, 97, 117, 108, 116, 45, 115, 114, 99]⟩] rfl rfl ?c11 ?c12 (by decide) (by decide) (by have := HB1.out.size; simp; omega) ?_)
  case c11 =>
    intro q u hq
    match q, hq with
    | 0, hq => simp at hq; subst hq; simp [Addr.add]
  case c12 => intro u hu; simp at hu; subst hu; rfl
  intro v2 w2 hown hgrow hnil
  have HO2 := hid hown
  have HB2 := hid (show Below w.heap.size w w2 from (HB1.out.alloc HB1.out.size _).grown hgrow (by have := HB1.out.size; simp; omega) (fun k hk => (HO1.out.lt k hk).1))
  clear hown hgrow hnil
  go_wp2_with fail
  go_ret
  exact ⟨v2, rfl, HO2.out, HB2.out⟩

set_option maxHeartbeats 2000000 in
set_option maxRecDepth 100000 in
theorem chain_nSt (w : World) : Calls Try.prog 9 #[.string ⟨#[115, 116, 121, 108, 101, 45, 115, 114, 99]⟩] w (OwnT [nSt, nDe] w) := by
  obtain ⟨i0, hi, hz0, hz1, hz2⟩ := info_parts infoS10
  go_enter Try.func9, Try.ntmps9
  go_wp2_with (at_builtin; refine wpList_append_own _ rfl _ _ 22 rfl w.heap.size 9 i0 (.string ⟨#[]⟩) 1 16 Try.underlying22 hi hz0 hz1 hz2 rfl (by decide) _ 0 _ rfl (World.ownsRow_nil _ _ _ _) ⟨w.heap.size, 0, none⟩ 1 1 [.string ⟨#[115, 116, 121, 108, 101, 45, 115, 114, 99]⟩] rfl rfl ?c01 ?c02 (by decide) (by decide) (by simp) ?_)
  case c01 =>
    intro q u hq
    match q, hq with
    | 0, hq => simp at hq; subst hq; simp [Addr.add]
  case c02 => intro u hu; simp at hu; subst hu; rfl
  intro v1 w1 hown hgrow hnil
  have HO1 := hid hown
  have HB1 := hid (show Below w.heap.size w w1 from ((Below.refl _ w).alloc (Nat.le_refl _) _).grown hgrow (by simp) (fun k hk => by simp [Value.ownBlock] at hk))
  clear hown hgrow hnil
  go_wp2_with (at_builtin; refine wpList_append_own _ rfl _ _ 22 rfl w.heap.size 9 i0 (.string ⟨#[]⟩) 1 16 Try.underlying22 hi hz0 hz1 hz2 rfl (by decide) _ 1 _ rfl ((HO1.out.alloc _)) ⟨w1.heap.size, 0, none⟩ 1 1 [.string ⟨#[100, 101, 102, 97, 117, 108, 116, 45, 115, 114, 99]⟩] rfl rfl ?c11 ?c12 (by decide) (by decide) (by have := HB1.out.size; simp; omega) ?_)
  case c11 =>
    intro q u hq
    match q, hq with
    | 0, hq => simp at hq; subst hq; simp [Addr.add]
  case c12 => intro u hu; simp at hu; subst hu; rfl
  intro v2 w2 hown hgrow hnil
  have HO2 := hid hown
  have HB2 := hid (show Below w.heap.size w w2 from (HB1.out.alloc HB1.out.size _).grown hgrow (by have := HB1.out.size; simp; omega) (fun k hk => (HO1.out.lt k hk).1))
  clear hown hgrow hnil
  go_wp2_with fail
  go_ret
  exact ⟨v2, rfl, HO2.out, HB2.out⟩

set_option maxHeartbeats 2000000 in
set_option maxRecDepth 100000 in
theorem chain_nCh (w : World) : Calls Try.prog 9 #[.string ⟨#[99, 104, 105, 108, 100, 45, 115, 114, 99]⟩] w (OwnT [nCh, nDe] w) := by
  obtain ⟨i0, hi, hz0, hz1, hz2⟩ := info_parts infoS10
  go_enter Try.func9, Try.ntmps9
  go_wp2_with (at_builtin; refine wpList_append_own _ rfl _ _ 22 rfl w.heap.size 9 i0 (.string ⟨#[]⟩) 1 16 Try.underlying22 hi hz0 hz1 hz2 rfl (by decide) _ 0 _ rfl (World.ownsRow_nil _ _ _ _) ⟨w.heap.size, 0, none⟩ 1 1 [.string ⟨#[99, 104, 105, 108, 100, 45, 115, 114, 99]⟩] rfl rfl ?c01 ?c02 (by decide) (by decide) (by simp) ?_)
  case c01 =>
    intro q u hq
    match q, hq with
    | 0, hq => simp at hq; subst hq; simp [Addr.add]
  case c02 => intro u hu; simp at hu; subst hu; rfl
  intro v1 w1 hown hgrow hnil
  have HO1 := hid hown
  have HB1 := hid (show Below w.heap.size w w1 from ((Below.refl _ w).alloc (Nat.le_refl _) _).grown hgrow (by simp) (fun k hk => by simp [Value.ownBlock] at hk))
  clear hown hgrow hnil
  go_wp2_with (at_builtin; refine wpList_append_own _ rfl _ _ 22 rfl w.heap.size 9 i0 (.string ⟨#[]⟩) 1 16 Try.underlying22 hi hz0 hz1 hz2 rfl (by decide) _ 1 _ rfl ((HO1.out.alloc _)) ⟨w1.heap.size, 0, none⟩ 1 1 [.string ⟨#[100, 101, 102, 97, 117, 108, 116, 45, 115, 114, 99]⟩] rfl rfl ?c11 ?c12 (by decide) (by decide) (by have := HB1.out.size; simp; omega) ?_)
  case c11 =>
    intro q u hq
    match q, hq with
    | 0, hq => simp at hq; subst hq; simp [Addr.add]
  case c12 => intro u hu; simp at hu; subst hu; rfl
  intro v2 w2 hown hgrow hnil
  have HO2 := hid hown
  have HB2 := hid (show Below w.heap.size w w2 from (HB1.out.alloc HB1.out.size _).grown hgrow (by have := HB1.out.size; simp; omega) (fun k hk => (HO1.out.lt k hk).1))
  clear hown hgrow hnil
  go_wp2_with fail
  go_ret
  exact ⟨v2, rfl, HO2.out, HB2.out⟩

set_option maxHeartbeats 2000000 in
set_option maxRecDepth 100000 in
theorem chain_nOb (w : World) : Calls Try.prog 9 #[.string ⟨#[111, 98, 106, 101, 99, 116, 45, 115, 114, 99]⟩] w (OwnT [nOb, nDe] w) := by
  obtain ⟨i0, hi, hz0, hz1, hz2⟩ := info_parts infoS10
  go_enter Try.func9, Try.ntmps9
  go_wp2_with (at_builtin; refine wpList_append_own _ rfl _ _ 22 rfl w.heap.size 9 i0 (.string ⟨#[]⟩) 1 16 Try.underlying22 hi hz0 hz1 hz2 rfl (by decide) _ 0 _ rfl (World.ownsRow_nil _ _ _ _) ⟨w.heap.size, 0, none⟩ 1 1 [.string ⟨#[111, 98, 106, 101, 99, 116, 45, 115, 114, 99]⟩] rfl rfl ?c01 ?c02 (by decide) (by decide) (by simp) ?_)
  case c01 =>
    intro q u hq
    match q, hq with
    | 0, hq => simp at hq; subst hq; simp [Addr.add]
  case c02 => intro u hu; simp at hu; subst hu; rfl
  intro v1 w1 hown hgrow hnil
  have HO1 := hid hown
  have HB1 := hid (show Below w.heap.size w w1 from ((Below.refl _ w).alloc (Nat.le_refl _) _).grown hgrow (by simp) (fun k hk => by simp [Value.ownBlock] at hk))
  clear hown hgrow hnil
  go_wp2_with (at_builtin; refine wpList_append_own _ rfl _ _ 22 rfl w.heap.size 9 i0 (.string ⟨#[]⟩) 1 16 Try.underlying22 hi hz0 hz1 hz2 rfl (by decide) _ 1 _ rfl ((HO1.out.alloc _)) ⟨w1.heap.size, 0, none⟩ 1 1 [.string ⟨#[100, 101, 102, 97, 117, 108, 116, 45, 115, 114, 99]⟩] rfl rfl ?c11 ?c12 (by decide) (by decide) (by have := HB1.out.size; simp; omega) ?_)
  case c11 =>
    intro q u hq
    match q, hq with
    | 0, hq => simp at hq; subst hq; simp [Addr.add]
  case c12 => intro u hu; simp at hu; subst hu; rfl
  intro v2 w2 hown hgrow hnil
  have HO2 := hid hown
  have HB2 := hid (show Below w.heap.size w w2 from (HB1.out.alloc HB1.out.size _).grown hgrow (by have := HB1.out.size; simp; omega) (fun k hk => (HO1.out.lt k hk).1))
  clear hown hgrow hnil
  go_wp2_with fail
  go_ret
  exact ⟨v2, rfl, HO2.out, HB2.out⟩

set_option maxHeartbeats 2000000 in
set_option maxRecDepth 100000 in
theorem chain_nDe (w : World) : Calls Try.prog 9 #[.string ⟨#[100, 101, 102, 97, 117, 108, 116, 45, 115, 114, 99]⟩] w (OwnT [nDe] w) := by
  obtain ⟨i0, hi, hz0, hz1, hz2⟩ := info_parts infoS10
  go_enter Try.func9, Try.ntmps9
  go_wp2_with (at_builtin; refine wpList_append_own _ rfl _ _ 22 rfl w.heap.size 9 i0 (.string ⟨#[]⟩) 1 16 Try.underlying22 hi hz0 hz1 hz2 rfl (by decide) _ 0 _ rfl (World.ownsRow_nil _ _ _ _) ⟨w.heap.size, 0, none⟩ 1 1 [.string ⟨#[100, 101, 102, 97, 117, 108, 116, 45, 115, 114, 99]⟩] rfl rfl ?c01 ?c02 (by decide) (by decide) (by simp) ?_)
  case c01 =>
    intro q u hq
    match q, hq with
    | 0, hq => simp at hq; subst hq; simp [Addr.add]
  case c02 => intro u hu; simp at hu; subst hu; rfl
  intro v1 w1 hown hgrow hnil
  have HO1 := hid hown
  have HB1 := hid (show Below w.heap.size w w1 from ((Below.refl _ w).alloc (Nat.le_refl _) _).grown hgrow (by simp) (fun k hk => by simp [Value.ownBlock] at hk))
  clear hown hgrow hnil
  go_wp2_with fail
  go_ret
  exact ⟨v1, rfl, HO1.out, HB1.out⟩

theorem chain_none (s : List UInt8) (h0 : s ≠ nSe) (h1 : s ≠ nYe) (h2 : s ≠ nWk) (h3 : s ≠ nFr) (h4 : s ≠ nCo) (h5 : s ≠ nFo) (h6 : s ≠ nIm) (h7 : s ≠ nMe) (h8 : s ≠ nSc) (h9 : s ≠ nSt) (h10 : s ≠ nCh) (h11 : s ≠ nOb) (h12 : s ≠ nDe) : chainV s = [] := by
  unfold chainV
  rw [if_neg h0, if_neg h1, if_neg h2, if_neg h3, if_neg h4, if_neg h5, if_neg h6, if_neg h7, if_neg h8, if_neg h9, if_neg h10, if_neg h11, if_neg h12]

set_option maxHeartbeats 2000000 in
theorem chain10 (s : ByteArray) (w : World) : Calls Try.prog 9 #[.string s] w (OwnT (chainV s.data.toList) w) := by
  by_cases h0 : s.data.toList = nSe
  · have hs : s = ⟨#[115, 99, 114, 105, 112, 116, 45, 115, 114, 99, 45, 101, 108, 101, 109]⟩ := by rw [← Lib.mk_data s, h0]
    rw [show chainV s.data.toList = [nSe, nSc, nDe] by rw [h0]; decide +kernel, hs]
    exact chain_nSe w
  by_cases h1 : s.data.toList = nYe
  · have hs : s = ⟨#[115, 116, 121, 108, 101, 45, 115, 114, 99, 45, 101, 108, 101, 109]⟩ := by rw [← Lib.mk_data s, h1]
    rw [show chainV s.data.toList = [nYe, nSt, nDe] by rw [h1]; decide +kernel, hs]
    exact chain_nYe w
  by_cases h2 : s.data.toList = nWk
  · have hs : s = ⟨#[119, 111, 114, 107, 101, 114, 45, 115, 114, 99]⟩ := by rw [← Lib.mk_data s, h2]
    rw [show chainV s.data.toList = [nWk, nCh, nSc, nDe] by rw [h2]; decide +kernel, hs]
    exact chain_nWk w
  by_cases h3 : s.data.toList = nFr
  · have hs : s = ⟨#[102, 114, 97, 109, 101, 45, 115, 114, 99]⟩ := by rw [← Lib.mk_data s, h3]
    rw [show chainV s.data.toList = [nFr, nCh, nDe] by rw [h3]; decide +kernel, hs]
    exact chain_nFr w
  by_cases h4 : s.data.toList = nCo
  · have hs : s = ⟨#[99, 111, 110, 110, 101, 99, 116, 45, 115, 114, 99]⟩ := by rw [← Lib.mk_data s, h4]
    rw [show chainV s.data.toList = [nCo, nDe] by rw [h4]; decide +kernel, hs]
    exact chain_nCo w
  by_cases h5 : s.data.toList = nFo
  · have hs : s = ⟨#[102, 111, 110, 116, 45, 115, 114, 99]⟩ := by rw [← Lib.mk_data s, h5]
    rw [show chainV s.data.toList = [nFo, nDe] by rw [h5]; decide +kernel, hs]
    exact chain_nFo w
  by_cases h6 : s.data.toList = nIm
  · have hs : s = ⟨#[105, 109, 103, 45, 115, 114, 99]⟩ := by rw [← Lib.mk_data s, h6]
    rw [show chainV s.data.toList = [nIm, nDe] by rw [h6]; decide +kernel, hs]
    exact chain_nIm w
  by_cases h7 : s.data.toList = nMe
  · have hs : s = ⟨#[109, 101, 100, 105, 97, 45, 115, 114, 99]⟩ := by rw [← Lib.mk_data s, h7]
    rw [show chainV s.data.toList = [nMe, nDe] by rw [h7]; decide +kernel, hs]
    exact chain_nMe w
  by_cases h8 : s.data.toList = nSc
  · have hs : s = ⟨#[115, 99, 114, 105, 112, 116, 45, 115, 114, 99]⟩ := by rw [← Lib.mk_data s, h8]
    rw [show chainV s.data.toList = [nSc, nDe] by rw [h8]; decide +kernel, hs]
    exact chain_nSc w
  by_cases h9 : s.data.toList = nSt
  · have hs : s = ⟨#[115, 116, 121, 108, 101, 45, 115, 114, 99]⟩ := by rw [← Lib.mk_data s, h9]
    rw [show chainV s.data.toList = [nSt, nDe] by rw [h9]; decide +kernel, hs]
    exact chain_nSt w
  by_cases h10 : s.data.toList = nCh
  · have hs : s = ⟨#[99, 104, 105, 108, 100, 45, 115, 114, 99]⟩ := by rw [← Lib.mk_data s, h10]
    rw [show chainV s.data.toList = [nCh, nDe] by rw [h10]; decide +kernel, hs]
    exact chain_nCh w
  by_cases h11 : s.data.toList = nOb
  · have hs : s = ⟨#[111, 98, 106, 101, 99, 116, 45, 115, 114, 99]⟩ := by rw [← Lib.mk_data s, h11]
    rw [show chainV s.data.toList = [nOb, nDe] by rw [h11]; decide +kernel, hs]
    exact chain_nOb w
  by_cases h12 : s.data.toList = nDe
  · have hs : s = ⟨#[100, 101, 102, 97, 117, 108, 116, 45, 115, 114, 99]⟩ := by rw [← Lib.mk_data s, h12]
    rw [show chainV s.data.toList = [nDe] by rw [h12]; decide +kernel, hs]
    exact chain_nDe w
  rw [chain_none s.data.toList h0 h1 h2 h3 h4 h5 h6 h7 h8 h9 h10 h11 h12]
  have e0 := beq_no10 s nSe h0
  have e1 := beq_no10 s nYe h1
  have e2 := beq_no10 s nWk h2
  have e3 := beq_no10 s nFr h3
  have e4 := beq_no10 s nCo h4
  have e5 := beq_no10 s nFo h5
  have e6 := beq_no10 s nIm h6
  have e7 := beq_no10 s nMe h7
  have e8 := beq_no10 s nSc h8
  have e9 := beq_no10 s nSt h9
  have e10 := beq_no10 s nCh h10
  have e11 := beq_no10 s nOb h11
  have e12 := beq_no10 s nDe h12
  clear h0 h1 h2 h3 h4 h5 h6 h7 h8 h9 h10 h11 h12
  go_enter Try.func9, Try.ntmps9
  go_wp2_with fail
  go_ret
  exact ⟨_, rfl, World.ownsRow_nil _ _ _ _, Below.refl _ _⟩

set_option maxHeartbeats 1000000 in
theorem for10 (d : Int) (w : World) : Calls Try.prog 11 #[.int .i64 d] w fun e w' => e = .returned (.string ⟨(forV d).toArray⟩) ∧ w = w' := by
  by_cases h1 : d = 1
  · subst h1
    go_enter Try.func11, Try.ntmps11
    go_wp2
    go_ret
    exact ⟨rfl, rfl⟩
  by_cases h2 : d = 2
  · subst h2
    go_enter Try.func11, Try.ntmps11
    go_wp2
    go_ret
    exact ⟨rfl, rfl⟩
  by_cases h3 : d = 3
  · subst h3
    go_enter Try.func11, Try.ntmps11
    go_wp2
    go_ret
    exact ⟨rfl, rfl⟩
  by_cases h4 : d = 4
  · subst h4
    go_enter Try.func11, Try.ntmps11
    go_wp2
    go_ret
    exact ⟨rfl, rfl⟩
  by_cases h5 : d = 5
  · subst h5
    go_enter Try.func11, Try.ntmps11
    go_wp2
    go_ret
    exact ⟨rfl, rfl⟩
  by_cases h6 : d = 6
  · subst h6
    go_enter Try.func11, Try.ntmps11
    go_wp2
    go_ret
    exact ⟨rfl, rfl⟩
  have HF := hid (show forV d = [] by unfold forV; rw [if_neg h1, if_neg h2, if_neg h3, if_neg h4, if_neg h5, if_neg h6])
  have e1 : (d == 1) = false := by rw [beq_eq_false_iff_ne]; exact h1
  have e2 : (d == 2) = false := by rw [beq_eq_false_iff_ne]; exact h2
  have e3 : (d == 3) = false := by rw [beq_eq_false_iff_ne]; exact h3
  have e4 : (d == 4) = false := by rw [beq_eq_false_iff_ne]; exact h4
  have e5 : (d == 5) = false := by rw [beq_eq_false_iff_ne]; exact h5
  have e6 : (d == 6) = false := by rw [beq_eq_false_iff_ne]; exact h6
  clear h1 h2 h3 h4 h5 h6
  go_enter Try.func11, Try.ntmps11
  go_wp2
  go_ret
  rw [HF.out]
  exact ⟨rfl, rfl⟩

end Go.Proofs.Ytplabofdcnpcpaa
