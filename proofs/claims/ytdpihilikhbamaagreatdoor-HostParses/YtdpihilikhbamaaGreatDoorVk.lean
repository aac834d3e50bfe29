/-
  The walk of host.joined.
-/
import Derived.Test.YtdpihilikhbamaaGreatDoorVj
import Derived.Test.YtdpihilikhbamaaGreatDoorVi
import Derived.OwnWalk
set_option linter.unusedSimpArgs false
set_option linter.unusedVariables false
namespace Go.Proofs.YtdpihilikhbamaaGreatDoor
open Go.RowKit

theorem infoStr : (Tryz.prog.info? 9).map (fun i => (i.zero, i.size, i.bytes)) = some (some (.string ByteArray.empty), 1, 16) := by kernel_rfl

def hexB (n : Nat) : ByteArray := ⟨(hex16 n).toArray⟩

theorem hexB_data (n : Nat) : (hexB n).data.toList = hex16 n := rfl

/-- Block g is a row of as many texts as x has numbers; the first k are written. -/
def Strs (w : World) (g : Nat) (x : List Nat) (k : Nat) : Prop :=
  ∃ cur : Array Value, w.heap[g]? = some (.cells cur 9 (0, 0)) ∧ cur.size = x.length ∧ ∀ j (h : j < x.length), j < k → cur[j]? = some (.string (hexB x[j]))

theorem Strs.kept {w w' : World} {g : Nat} {x : List Nat} {k : Nat} (h : Strs w g x k) (hb : Below w.heap.size w w') : Strs w' g x k := by
  obtain ⟨cur, hg, h2⟩ := h
  exact ⟨cur, row_kept hg hb, h2⟩

theorem Strs.cell {w : World} {g : Nat} {x : List Nat} {k : Nat} (h : Strs w g x k) (j : Nat) (hj : j < x.length) : ∃ v, w.cell? ⟨g, j, none⟩ = some v := by
  obtain ⟨cur, hg, hs, _⟩ := h
  rw [cell_of_row w g j cur _ _ hg]
  exact ⟨cur[j], by simp [hs, hj]⟩

theorem Strs.frozen {w : World} {g : Nat} {x : List Nat} {k : Nat} (h : Strs w g x k) (j : Nat) : w.frozen? ⟨g, j, none⟩ = false := by
  obtain ⟨cur, hg, _⟩ := h
  simp [World.frozen?, hg]

theorem Strs.set {w : World} {g : Nat} {x : List Nat} {k : Nat} (h : Strs w g x k) (hk : k < x.length) : Strs (w.setCell ⟨g, k, none⟩ (.string (hexB x[k]))) g x (k + 1) := by
  obtain ⟨cur, hg, hs, hc⟩ := h
  refine ⟨_, Lib.heap_setCell_same hg _, by simpa using hs, ?_⟩
  intro j hj hj2
  by_cases e : k = j
  · subst e
    have : k < cur.size := by omega
    simp [this]
  · simp [Array.getElem?_setIfInBounds, e]
    exact hc j hj (by omega)

theorem hex16_le (n : Nat) : (hex16 n).length ≤ 5 := by
  have key : ∀ (f m : Nat) (acc : List UInt8), (digsN 16 f m acc).length ≤ acc.length + f := by
    intro f
    induction f with
    | zero => intro m acc; simp [digsN]
    | succ f ih =>
      intro m acc
      rw [digsN]
      split
      · simp
      · have := ih (m / 16) (digC (m % 16) :: acc)
        simp at this
        omega
  have := key 4 n []
  simp at this
  unfold hex16
  omega

theorem joined_le (x : List Nat) : (joined x).length ≤ 6 * x.length := by
  unfold joined
  induction x with
  | nil => simp [Lib.join, List.intercalate]
  | cons a x ih =>
    have ha := hex16_le a
    cases x with
    | nil => simp [Lib.join_one]; omega
    | cons b x =>
      have e : Lib.join ((a :: b :: x).map hex16) [58] = hex16 a ++ [58] ++ Lib.join ((b :: x).map hex16) [58] := by
        simp [Lib.join, List.intercalate, List.intersperse]
      rw [e]
      simp only [List.length_append, List.length_cons, List.length_nil] at ih ⊢
      omega

/-- The numbers x lie in memory from ⟨b, o⟩ on. -/
def Nums (w : World) (b o : Nat) (x : List Nat) : Prop := ∀ j (h : j < x.length), w.cell? ⟨b, o + j, none⟩ = some (.int .u16 (x[j] : Int))

theorem Nums.kept {w w' : World} {b o : Nat} {x : List Nat} (h : Nums w b o x) (hb : Below w.heap.size w w') : Nums w' b o x := fun j hj => by
  rw [hb.cell (World.block_lt_of_cell? w _ (h j hj))]; exact h j hj

set_option maxHeartbeats 2000000 in
set_option maxRecDepth 100000 in
theorem joined_any (b o cap : Nat) (x : List Nat) (w : World) (hg : Gd w) (hx : x.length ≤ 8) (hcap : x.length ≤ cap) (h16 : ∀ n ∈ x, n < 65536) (hc : Nums w b o x) :
    Calls Tryz.prog 67 #[.slice (some ⟨b, o, none⟩) x.length cap] w fun e w' => e = .returned (.string ⟨(joined x).toArray⟩) ∧ Below w.heap.size w w' := by
  obtain ⟨i0, hi, hz0, hz1, hz2⟩ := info_parts infoStr
  have HG := hid hg
  have HC := hid hc
  have H16 := hid h16
  clear hg hc h16
  go_enter Tryz.func67, Tryz.ntmps67
  go_wp2_with (at_make; refine wpList_make_full _ rfl _ _ 48 rfl w.heap.size 9 i0 (.string ByteArray.empty) 1 Tryz.underlying48 hi hz0 hz1 .i64 .i64 _ _ x.length rfl rfl rfl rfl (by rw [hz2]; omega) (by unfold maxLen; omega) (Nat.le_refl _) ?_)
  intro w0 hown0 hgrow0
  have hb0 : Below w.heap.size w w0 := (Below.refl _ w).grown hgrow0 (Nat.le_refl _) (fun k hk => by simp at hk)
  have hst : Strs w0 w.heap.size x 0 := by
    rcases hown0.2 with ⟨hv, _⟩ | ⟨g, cap', cur, hv, _, hcur, _, _, hsz, _⟩
    · cases hv
    · cases hv
      exact ⟨cur, hcur, by simpa using hsz, fun j _ h => absurd h (Nat.not_lt_zero _)⟩
  clear hown0 hgrow0
  have HS0 := hid hst
  clear hst
  go_wp2
  go_loopg [11] x.length (fun g iv wr => ∃ k : Nat, k + g = x.length ∧ iv = .int .i64 k ∧ Strs wr w.heap.size x k ∧ Below w.heap.size w wr)
  case atStart => exact ⟨0, by omega, rfl, HS0.out, hb0⟩
  case round =>
    obtain ⟨k, hkg, rfl, hS, hbw⟩ := hrel
    have HS := hid hS
    clear hS
    cases gk with
    | zero =>
      have hkx : ¬ ((k : Int) < (x.length : Int)) := by omega
      have hlen : (x.map hexB).length = x.length := by simp
      have hjn : Lib.join ((x.map hexB).map (·.data.toList)) (⟨#[58]⟩ : ByteArray).data.toList = joined x := by
        rw [List.map_map]; rfl
      have hbk : w.heap.size < wr.heap.size := by
        obtain ⟨cur, hg, _⟩ := HS.out
        rcases Nat.lt_or_ge w.heap.size wr.heap.size with h | h
        · exact h
        · rw [Array.getElem?_eq_none h] at hg; cases hg
      have hct := Tryz.strings_Join w.heap.size 0 x.length (x.map hexB) ⟨#[58]⟩ wr (by
        intro j t hj
        obtain ⟨cur, hg, hs, hcc⟩ := HS.out
        rw [Nat.zero_add, cell_of_row wr _ j cur _ _ hg]
        rw [List.getElem?_map] at hj
        obtain ⟨m, hm, rfl⟩ := Option.map_eq_some_iff.1 hj
        obtain ⟨hj2, rfl⟩ := List.getElem?_eq_some_iff.1 hm
        exact hcc j hj2 (by omega)) hbk (by rw [hlen]; omega) (by rw [hlen]; omega) (by rw [hjn]; have := joined_le x; omega)
      rw [hjn, hlen] at hct
      have HCt := hid hct
      clear hct hlen hjn
      go_wp2_with (go_at_call 80; refine HCt.out.mono ?_; rintro e w1 ⟨rfl, hb1⟩)
      go_ret
      exact ⟨rfl, below2 hbw hb1⟩
    | succ g =>
      have hk : k < x.length := by omega
      have hk' : (k : Int) < (x.length : Int) := by omega
      have hcell := (HC.out.kept hbw) k hk
      have hk16 := H16.out x[k] (List.getElem_mem hk)
      obtain ⟨m, hm⟩ : ∃ m, x[k] = m := ⟨_, rfl⟩
      rw [hm] at hcell hk16
      have HM := hid hm
      have HGw := hid (HG.out.kept hbw)
      clear hm
      go_wp2_with fail
      refine (formatUint16 _ _ HGw.out hk16).mono ?_
      rintro e w1 ⟨rfl, hb1⟩
      have HS1 := hid (HS.out.kept hb1)
      obtain ⟨v0, hc0⟩ := HS1.out.cell k hk
      have hfz := HS1.out.frozen k
      have HS2 := hid (show Strs (w1.setCell ⟨w.heap.size, k, none⟩ (.string ⟨(hex16 m).toArray⟩)) w.heap.size x (k + 1) by
        have := HS1.out.set hk
        rw [HM.out] at this
        exact this)
      have HB := hid ((below2 hbw hb1).setCell (p := ⟨w.heap.size, k, none⟩) (Nat.le_refl _) (.string ⟨(hex16 m).toArray⟩))
      clear hb1 hcell
      go_wp2
      go_roundg g
      case measure => omega
      case rel => exact ⟨k + 1, by omega, by go_num, HS2.out, HB.out⟩

end Go.Proofs.YtdpihilikhbamaaGreatDoor
