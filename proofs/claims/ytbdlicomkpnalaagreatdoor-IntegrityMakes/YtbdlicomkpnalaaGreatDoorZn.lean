/-
  Plain facts about numbers as parts of 16 bits, the lowest first.
  The walk of ostiaryref8.times.
  The walk of ostiaryref8.below.
  Plain facts about a root's bits.
  The walk of ostiaryref8.root.
  The walk of ostiaryref8.New.
-/
import Derived.Test.YtbdlicomkpnalaaGreatDoorZa
import Derived.BigQuiet
import Derived.Deep.QuietTactic
import Derived.WalkSmall
import Derived.Deep.RegionHeld
import Derived.Laws.AppendOwn
set_option linter.unusedSimpArgs false
set_option linter.unusedVariables false
namespace Go.Proofs.YtbdlicomkpnalaaGreatDoor
open Go.RowKit

/-- The number that such parts are. -/
def vlV : List Nat → Nat
  | [] => 0
  | o :: r => o + 65536 * vlV r

def Lmb (O : List Nat) : Prop := O.length = 16 ∧ ∀ j, O.getD j 0 < 65536

theorem vl_app : ∀ (a b : List Nat), vlV (a ++ b) = vlV a + 65536 ^ a.length * vlV b
  | [], b => by simp [vlV]
  | o :: r, b => by
    rw [List.cons_append, vlV, vlV, vl_app r b, List.length_cons, Nat.pow_succ]
    rw [Nat.mul_add, Nat.mul_comm (65536 ^ r.length) 65536, Nat.mul_assoc]
    omega

theorem vl_lt : ∀ (a : List Nat), (∀ x ∈ a, x < 65536) → vlV a < 65536 ^ a.length
  | [], _ => by simp [vlV]
  | o :: r, h => by
    have h1 := h o (by simp)
    have h2 := vl_lt r (fun x hx => h x (by simp [hx]))
    rw [vlV, List.length_cons, Nat.pow_succ]
    omega

theorem lmb_mem {O : List Nat} (h : Lmb O) : ∀ x ∈ O, x < 65536 := by
  intro x hx
  obtain ⟨i, hi, rfl⟩ := List.mem_iff_getElem.1 hx
  have := h.2 i
  simpa [List.getD, hi] using this

theorem take_step (O : List Nat) (k : Nat) (hk : k < O.length) : vlV (O.take (k + 1)) = vlV (O.take k) + 65536 ^ k * O.getD k 0 := by
  have e : O.take (k + 1) = O.take k ++ [O.getD k 0] := by rw [List.take_add_one]; simp [List.getD, hk]
  rw [e, vl_app]
  simp [vlV, Nat.min_eq_left (Nat.le_of_lt hk)]

theorem vl_split (O : List Nat) (k : Nat) (hk : k ≤ O.length) : vlV O = vlV (O.take k) + 65536 ^ k * vlV (O.drop k) := by
  have := vl_app (O.take k) (O.drop k)
  rwa [List.take_append_drop, List.length_take, Nat.min_eq_left hk] at this

theorem vl_set (O : List Nat) (j d : Nat) (hj : j < O.length) : vlV (O.set j d) + 65536 ^ j * O.getD j 0 = vlV O + 65536 ^ j * d := by
  have e : O.set j d = O.take j ++ d :: O.drop (j + 1) := by rw [List.set_eq_take_append_cons_drop, if_pos hj]
  have e2 : O = O.take j ++ O.getD j 0 :: O.drop (j + 1) := by
    conv => lhs; rw [← List.take_append_drop j O, List.drop_eq_getElem_cons hj]
    simp [List.getD, hj]
  have h1 : vlV (O.set j d) = vlV (O.take j) + 65536 ^ j * (d + 65536 * vlV (O.drop (j + 1))) := by
    rw [e, vl_app, List.length_take, Nat.min_eq_left (Nat.le_of_lt hj)]; rfl
  have h2 : vlV O = vlV (O.take j) + 65536 ^ j * (O.getD j 0 + 65536 * vlV (O.drop (j + 1))) := by
    conv => lhs; rw [e2]
    rw [vl_app, List.length_take, Nat.min_eq_left (Nat.le_of_lt hj)]; rfl
  rw [h1, h2, Nat.mul_add, Nat.mul_add]
  omega

theorem lmb_set {O : List Nat} (h : Lmb O) (j d : Nat) (hd : d < 65536) : Lmb (O.set j d) := by
  refine ⟨by simp [h.1], fun i => ?_⟩
  have := h.2 i
  simp only [List.getD, List.getElem?_set] at *
  split
  · split
    · simpa using hd
    · simp
  · exact this

theorem get_set (O : List Nat) (i j d : Nat) (hne : i ≠ j) : (O.set j d).getD i 0 = O.getD i 0 := by
  simp only [List.getD, List.getElem?_set]
  rw [if_neg (fun e => hne e.symm)]

/-- One step of a row of the product. -/
theorem row_step (i k A b c o V V' VP T X : Nat) (hX : X = o + A * b + c) (h1 : V + 65536 ^ (i + k) * c = VP + A * (65536 ^ i * T)) (h2 : V' + 65536 ^ (i + k) * o = V + 65536 ^ (i + k) * (X % 65536)) :
    V' + 65536 ^ (i + (k + 1)) * (X / 65536) = VP + A * (65536 ^ i * (T + 65536 ^ k * b)) := by
  have e1 : 65536 ^ (i + (k + 1)) * (X / 65536) = 65536 ^ (i + k) * (65536 * (X / 65536)) := by
    rw [← Nat.add_assoc, Nat.pow_succ, Nat.mul_assoc]
  have e2 : A * (65536 ^ i * (T + 65536 ^ k * b)) = A * (65536 ^ i * T) + 65536 ^ (i + k) * (A * b) := by
    rw [Nat.mul_add, Nat.mul_add, Nat.pow_add]
    congr 1
    rw [← Nat.mul_assoc (65536 ^ i), Nat.mul_left_comm]
  rw [e1, e2]
  generalize 65536 ^ (i + k) = q at *
  have e3 : q * X = q * (65536 * (X / 65536)) + q * (X % 65536) := by rw [← Nat.mul_add, Nat.div_add_mod]
  rw [hX, Nat.mul_add, Nat.mul_add] at e3
  rw [hX] at h2
  rw [hX]
  omega

theorem prod_lt (o A b c : Nat) (ho : o < 65536) (hA : A < 65536) (hb : b < 65536) (hc : c < 65536) : A * b ≤ 4294836225 ∧ o + A * b + c < 4294967296 := by
  have : A * b ≤ 65535 * 65535 := Nat.mul_le_mul (by omega) (by omega)
  omega

/-- Two numbers as parts: the one that is greater at the first unlike part from above. -/
theorem vl_cmp (O W : List Nat) (i : Nat) (hO : Lmb O) (hW : Lmb W) (hi : i < 16) (hab : ∀ j, i < j → j < 16 → O.getD j 0 = W.getD j 0) (hne : O.getD i 0 ≠ W.getD i 0) : (vlV O ≤ vlV W ↔ O.getD i 0 < W.getD i 0) := by
  have hd : O.drop (i + 1) = W.drop (i + 1) := by
    apply List.ext_getElem?
    intro j
    rw [List.getElem?_drop, List.getElem?_drop]
    rcases Nat.lt_or_ge (i + 1 + j) 16 with h | h
    · have := hab (i + 1 + j) (by omega) h
      have h1 : i + 1 + j < O.length := by rw [hO.1]; exact h
      have h2 : i + 1 + j < W.length := by rw [hW.1]; exact h
      simpa [List.getD, h1, h2] using this
    · rw [List.getElem?_eq_none (by rw [hO.1]; exact h), List.getElem?_eq_none (by rw [hW.1]; exact h)]
  have h1 := vl_split O (i + 1) (by rw [hO.1]; omega)
  have h2 := vl_split W (i + 1) (by rw [hW.1]; omega)
  rw [take_step O i (by rw [hO.1]; exact hi)] at h1
  rw [take_step W i (by rw [hW.1]; exact hi)] at h2
  have l1 : vlV (O.take i) < 65536 ^ i := by
    have := vl_lt (O.take i) (fun x hx => lmb_mem hO x (List.mem_of_mem_take hx))
    rwa [List.length_take, hO.1, Nat.min_eq_left (by omega)] at this
  have l2 : vlV (W.take i) < 65536 ^ i := by
    have := vl_lt (W.take i) (fun x hx => lmb_mem hW x (List.mem_of_mem_take hx))
    rwa [List.length_take, hW.1, Nat.min_eq_left (by omega)] at this
  rw [h1, h2, hd]
  generalize 65536 ^ (i + 1) * vlV (W.drop (i + 1)) = z
  generalize O.getD i 0 = a at *
  generalize W.getD i 0 = b at *
  generalize 65536 ^ i = p at *
  constructor
  · intro h
    rcases Nat.lt_or_ge a b with h3 | h3
    · exact h3
    · have h4 : b + 1 ≤ a := by omega
      have h5 := Nat.mul_le_mul_left p h4
      rw [Nat.mul_add] at h5
      omega
  · intro h
    have h5 := Nat.mul_le_mul_left p (show a + 1 ≤ b from h)
    rw [Nat.mul_add] at h5
    omega

theorem vl_same (O W : List Nat) (hO : Lmb O) (hW : Lmb W) (hab : ∀ j, j < 16 → O.getD j 0 = W.getD j 0) : O = W := by
  apply List.ext_getElem?
  intro j
  rcases Nat.lt_or_ge j 16 with h | h
  · have := hab j h
    have h1 : j < O.length := by rw [hO.1]; exact h
    have h2 : j < W.length := by rw [hW.1]; exact h
    simpa [List.getD, h1, h2] using this
  · rw [List.getElem?_eq_none (by rw [hO.1]; exact h), List.getElem?_eq_none (by rw [hW.1]; exact h)]

/-- A part alone. -/
def onlyV (at' p : Nat) : List Nat := (List.replicate 16 0).set at' p
theorem only_lmb (at' p : Nat) (hp : p < 65536) : Lmb (onlyV at' p) := by
  apply lmb_set _ _ _ hp
  refine ⟨by simp, fun j => ?_⟩
  simp only [List.getD, List.getElem?_replicate]
  split <;> simp
theorem vl_zero : ∀ n, vlV (List.replicate n 0) = 0
  | 0 => rfl
  | n + 1 => by rw [List.replicate_succ, vlV, vl_zero n]
theorem only_vl (at' p : Nat) (h : at' < 16) : vlV (onlyV at' p) = 65536 ^ at' * p := by
  have := vl_set (List.replicate 16 0) at' p (by simpa using h)
  rw [vl_zero] at this
  have e : (List.replicate 16 0).getD at' 0 = 0 := by simp only [List.getD, List.getElem?_replicate]; split <;> rfl
  rw [e] at this
  simpa [onlyV] using this
theorem only_get (at' p i : Nat) (h : at' < 16) : (onlyV at' p).getD i 0 = if i = at' then p else 0 := by
  unfold onlyV
  by_cases hi : i = at'
  · subst hi; simp [List.getD, h]
  · rw [get_set _ _ _ _ hi, if_neg hi]
    simp only [List.getD, List.getElem?_replicate]; split <;> rfl

end Go.Proofs.YtbdlicomkpnalaaGreatDoor

namespace Go.Proofs.YtbdlicomkpnalaaGreatDoor
open Go.RowKit

def zr16 : List Nat := zrs 16
theorem size16 (l : List Nat) (hl : l.length = 16) : (Tryz.prog.info? 100).map (·.size) = some (cW .u64 l).length := by rw [cW_len, hl]; kernel_rfl
theorem size16a (l : List Nat) (hl : l.length = 16) : (Tryz.prog.info? 100).map (·.size) = some (cW .u64 l).toArray.size := by rw [List.size_toArray]; exact size16 l hl

theorem lmb_zero : Lmb zr16 := by
  refine ⟨by simp [zr16, zrs_len], fun j => ?_⟩
  simp only [zr16, zrs, List.getD, List.getElem?_replicate]
  split <;> simp

theorem and16 (X : Nat) (hX : X < 18446744073709551616) : bits .and .u64 (X : Int) 65535 = ((X % 65536 : Nat) : Int) := by
  have := u64_and_nat X 65535 hX (by decide)
  rw [show ((65535 : Nat) : Int) = 65535 from rfl] at this
  rw [this, show (65535 : Nat) = 2 ^ 16 - 1 by decide, Nat.and_two_pow_sub_one_eq_mod]

/-- What the rows of a product lie in. -/
def Tms (w wr : World) (A B O : List Nat) : Prop :=
  Rw wr w.heap.size .u64 100 A ∧ Rw wr (w.heap.size + 1) .u64 100 B ∧ Rw wr (w.heap.size + 1 + 1) .u64 100 zr16 ∧ Rw wr (w.heap.size + 1 + 1 + 1) .u64 100 O ∧ Below w.heap.size w wr

theorem Tms.set {w wr : World} {A B O : List Nat} (h : Tms w wr A B O) (j x : Nat) : Tms w (wr.setCell ⟨w.heap.size + 1 + 1 + 1, j, none⟩ (.int .u64 (x : Int))) A B (O.set j x) :=
  ⟨h.1.far (by omega), h.2.1.far (by omega), h.2.2.1.far (by omega), h.2.2.2.1.set j x, h.2.2.2.2.setCell (p := ⟨w.heap.size + 1 + 1 + 1, j, none⟩) (by show w.heap.size ≤ w.heap.size + 1 + 1 + 1; omega) _⟩
theorem Tms.later {w wr X : World} {A B O : List Nat} (h : Tms w wr A B O) (hb : Below wr.heap.size wr X) : Tms w X A B O :=
  ⟨h.1.kept hb, h.2.1.kept hb, h.2.2.1.kept hb, h.2.2.2.1.kept hb, h.2.2.2.2.trans (hb.mono h.2.2.2.2.size)⟩

set_option maxHeartbeats 4000000 in
set_option maxRecDepth 100000 in
theorem times_any (A B : List Nat) (m n : Nat) (w : World) (hA : Lmb A) (hB : Lmb B) (hmn : m + n ≤ 16) (hm0 : 0 < m) (hn0 : 0 < n) :
    Calls Tryz.prog 68 #[.agg (cW .u64 A).toArray, .int .i64 (m : Int), .agg (cW .u64 B).toArray, .int .i64 (n : Int)] w fun e w' => ∃ O, e = .returned (.agg (cW .u64 O).toArray) ∧ Lmb O ∧ vlV O = vlV (A.take m) * vlV (B.take n) ∧ Below w.heap.size w w' := by
  have HA := hid hA
  have HB := hid hB
  clear hA hB
  go_enter Tryz.func68, Tryz.ntmps68
  go_wp2_with fail
  go_loopw [10] (fun v10 wr => ∃ (i : Nat) (P : List Nat), i ≤ m ∧ v10 = .int .i64 i ∧ Hid (Lmb P ∧ (∀ j, i + n ≤ j → P.getD j 0 = 0) ∧ vlV P = vlV (A.take i) * vlV (B.take n)) ∧ Hid (Tms w wr A B P)) (fun v10 _ => m - (intOf v10).toNat)
  case atStart =>
    refine ⟨0, zr16, Nat.zero_le _, rfl, ⟨lmb_zero, fun j _ => by simp only [zr16, zrs, List.getD, List.getElem?_replicate]; split <;> rfl, by simp [vlV, zr16, zrs, vl_zero]⟩, ?_⟩
    refine ⟨((Rw.laid (l := A) rfl rfl).more _ |>.more _).more _, ((Rw.laid (l := B) (World.size_alloc _ _).symm rfl).more _).more _, (Rw.laid (l := zr16) (by simp) (by rfl)).more _, Rw.laid (l := zr16) (by simp) (by rfl), ?_⟩
    exact ((((Below.refl _ w).alloc (Nat.le_refl _) _).alloc (by simp) _).alloc (by simp; omega) _).alloc (by simp; omega) _
  case round =>
    obtain ⟨i, P, hi, rfl, HP, HT⟩ := hrel
    by_cases hlt : i < m
    · have hlI : (i : Int) < (m : Int) := by omega
      obtain ⟨a, ha⟩ : ∃ a, a = A.getD i 0 := ⟨_, rfl⟩
      have hab : a < 65536 := by rw [ha]; exact HA.out.2 i
      have Ha := hid ha
      clear ha
      go_wp2_with fail
      go_loopw [11, 12] (fun v11 v12 wr => ∃ (k c : Nat) (O : List Nat), k ≤ n ∧ v12 = .int .i64 k ∧ v11 = .int .u64 (c : Int) ∧ c < 65536 ∧ Hid (Lmb O ∧ (∀ j, i + n ≤ j → O.getD j 0 = 0) ∧ vlV O + 65536 ^ (i + k) * c = vlV P + a * (65536 ^ i * vlV (B.take k))) ∧ Hid (Tms w wr A B O)) (fun _ v12 _ => n - (intOf v12).toNat)
      case atStart => exact ⟨0, 0, P, Nat.zero_le _, rfl, rfl, by omega, ⟨HP.out.1, HP.out.2.1, by simp [vlV]⟩, HT.out⟩
      case round =>
        clear HT
        obtain ⟨k, c, O, hk, rfl, rfl, hc, HO, HT⟩ := hrel
        by_cases hlk : k < n
        · have hlK : (k : Int) < (n : Int) := by omega
          obtain ⟨ik, hik⟩ : ∃ x, x = i + k := ⟨_, rfl⟩
          obtain ⟨o, ho⟩ : ∃ x, x = O.getD ik 0 := ⟨_, rfl⟩
          obtain ⟨b, hb⟩ : ∃ x, x = B.getD k 0 := ⟨_, rfl⟩
          have hob : o < 65536 := by rw [ho]; exact HO.out.1.2 ik
          have hbb : b < 65536 := by rw [hb]; exact HB.out.2 k
          have co : wr.cell? ⟨w.heap.size + 1 + 1 + 1, ik, none⟩ = some (.int .u64 (o : Int)) := by rw [ho]; exact HT.out.2.2.2.1.cell ik (by rw [HO.out.1.1]; omega)
          have cf := HT.out.2.2.2.1.free ik
          have ca : wr.cell? ⟨w.heap.size, i, none⟩ = some (.int .u64 (a : Int)) := by rw [Ha.out]; exact HT.out.1.cell i (by rw [HA.out.1]; omega)
          have cb : wr.cell? ⟨w.heap.size + 1, k, none⟩ = some (.int .u64 (b : Int)) := by rw [hb]; exact HT.out.2.1.cell k (by rw [HB.out.1]; omega)
          obtain ⟨ab, hab2⟩ : ∃ x, x = a * b := ⟨_, rfl⟩
          obtain ⟨s1, hs1⟩ : ∃ x, x = o + ab := ⟨_, rfl⟩
          obtain ⟨X, hX⟩ : ∃ x, x = s1 + c := ⟨_, rfl⟩
          obtain ⟨d, hd⟩ : ∃ x, x = X % 65536 := ⟨_, rfl⟩
          obtain ⟨c2, hc2⟩ : ∃ x, x = X / 65536 := ⟨_, rfl⟩
          have hpl := prod_lt o a b c hob hab hbb hc
          rw [← hab2] at hpl
          have habI : (a : Int) * (b : Int) = (ab : Int) := by rw [hab2]; exact (Int.natCast_mul a b).symm
          have f1 : IntKind.u64.wrap ((a : Int) * (b : Int)) = (ab : Int) := by rw [habI, IntKind.wrap_u64]; omega
          have f2 : IntKind.u64.wrap ((o : Int) + (ab : Int)) = (s1 : Int) := by rw [IntKind.wrap_u64]; omega
          have f3 : IntKind.u64.wrap ((s1 : Int) + (c : Int)) = (X : Int) := by rw [IntKind.wrap_u64]; omega
          have f4 : IntKind.i64.wrap ((i : Int) + (k : Int)) = (ik : Int) := by rw [hik, wrap_i64_id _ (by omega) (by omega)]; omega
          have f5 : (i : Int) + (k : Int) = (ik : Int) := by omega
          have f6 : bits .and .u64 (X : Int) 65535 = (d : Int) := by rw [hd]; exact and16 X (by omega)
          have f7 : (X : Int) / 65536 = (c2 : Int) := by omega
          have hik16 : (ik : Int) < 16 := by omega
          have hi16 : (i : Int) < 16 := by omega
          have hk16 : (k : Int) < 16 := by omega
          have HN := hid (show Lmb (O.set ik d) ∧ (∀ j, i + n ≤ j → (O.set ik d).getD j 0 = 0) ∧ vlV (O.set ik d) + 65536 ^ (i + (k + 1)) * c2 = vlV P + a * (65536 ^ i * vlV (B.take (k + 1))) by
            refine ⟨lmb_set HO.out.1 ik d (by omega), fun j hj => by rw [get_set _ _ _ _ (by omega)]; exact HO.out.2.1 j hj, ?_⟩
            rw [take_step B k (by rw [HB.out.1]; omega), ← hb, hc2]
            refine row_step i k a b c o (vlV O) _ (vlV P) (vlV (B.take k)) X (by rw [hX, hs1, hab2]) HO.out.2.2 ?_
            have := vl_set O ik d (by rw [HO.out.1.1]; omega)
            rw [← ho, hik, hd] at this
            rw [← hik] at this ⊢
            rw [hd]
            exact this)
          have HC2 := hid (show c2 < 65536 by omega)
          have HTN := hid (fun (X : World) (hb : Below wr.heap.size wr X) => (HT.out.later hb).set ik d)
          clear hik ho hb hab2 hs1 hX hd hc2 hpl habI
          go_wp2_with fail
          go_quiet (fail)
          have hbq : Below wr.heap.size wr (wr.drewN nq) := below_drewN (Below.refl _ _) nq
          have HTQ := hid (HTN.out _ hbq)
          have co' := kept_cell co hbq
          have cf' : (wr.drewN nq).frozen? ⟨w.heap.size + 1 + 1 + 1, ik, none⟩ = false := (kept_both co cf hbq).2
          generalize wr.drewN nq = wq at *
          clear co cf ca cb hbq HTN
          go_wp2_with fail
          go_roundw
          case rel =>
            first
              | exact ⟨k + 1, c2, O.set ik d, by omega, by go_num, by first | rfl | go_num, HC2.out, HN.out, HTQ.out⟩
              | ((repeat apply Exists.intro); refine ⟨?_, rfl⟩; exact ⟨k + 1, c2, O.set ik d, by omega, by go_num, by first | rfl | go_num, HC2.out, HN.out, HTQ.out⟩)
          case measure => simp [intOf]; omega
        · obtain rfl : k = n := by omega
          obtain ⟨ik, hik⟩ : ∃ x, x = i + k := ⟨_, rfl⟩
          have hz : O.getD ik 0 = 0 := HO.out.2.1 ik (by omega)
          have co : wr.cell? ⟨w.heap.size + 1 + 1 + 1, ik, none⟩ = some (.int .u64 0) := by
            have := HT.out.2.2.2.1.cell ik (by rw [HO.out.1.1]; omega)
            rw [hz] at this
            exact this
          have cf := HT.out.2.2.2.1.free ik
          have f5 : (i : Int) + (k : Int) = (ik : Int) := by omega
          have hik16 : (ik : Int) < 16 := by omega
          have HN := hid (show Lmb (O.set ik c) ∧ (∀ j, i + 1 + k ≤ j → (O.set ik c).getD j 0 = 0) ∧ vlV (O.set ik c) = vlV (A.take (i + 1)) * vlV (B.take k) by
            refine ⟨lmb_set HO.out.1 ik c hc, fun j hj => by rw [get_set _ _ _ _ (by omega)]; exact HO.out.2.1 j (by omega), ?_⟩
            have h1 := vl_set O ik c (by rw [HO.out.1.1]; omega)
            rw [hz, Nat.mul_zero, Nat.add_zero, hik, HO.out.2.2, HP.out.2.2] at h1
            rw [take_step A i (by rw [HA.out.1]; omega), ← Ha.out, Nat.add_mul, hik, h1]
            congr 1
            rw [Nat.mul_left_comm, ← Nat.mul_assoc])
          have HTQ := hid (HT.out.set ik c)
          clear hz HT HO hik hk hlk
          go_wp2_with fail
          go_roundw
          case rel =>
            first
              | exact ⟨i + 1, O.set ik c, by omega, by go_num, HN.out, HTQ.out⟩
              | ((repeat apply Exists.intro); refine ⟨?_, rfl⟩; exact ⟨i + 1, O.set ik c, by omega, by go_num, HN.out, HTQ.out⟩)
          case measure => simp [intOf]; omega
    · obtain rfl : i = m := by omega
      have hlI : ¬ ((i : Int) < (i : Int)) := by omega
      have hP8 := HP.out.1.1
      have HRR := hid (HT.out.2.2.1.put P (by rw [hP8]; rfl))
      have HBT := hid (below_setCells (b := w.heap.size + 1 + 1) (by omega) (cW .u64 P) 0 wr HT.out.2.2.2.2)
      have HH := hid (HT.out.2.2.1.there (cW .u64 P).toArray.size (by rw [List.size_toArray, cW_len, hP8]; rfl))
      have HRG := hid HT.out.2.2.2.1.range
      have hone := all_oneCell_toArray (cW_one .u64 P)
      have hi8 := size16 P hP8
      have hi8' := size16a P hP8
      clear hP8 hi hlt HT
      go_wp2_with (first | refine wpList_load_mid rfl 100 (.tmp 9) rfl (w.heap.size + 1 + 1 + 1) 0 rfl (cW .u64 P) _ HRG.out Tryz.underlying100 rfl hi8 ?_ | refine wpList_store_mid rfl 100 (.tmp 8) (.tmp 58) rfl (w.heap.size + 1 + 1) 0 (cW .u64 P).toArray rfl rfl HH.out hi8' hone ?_)
      exact bodyPost_ret (Rw.result rfl _ _ (w.heap.size + 1 + 1) .u64 100 P rfl HRR.out Tryz.underlying100 rfl hi8) rfl ⟨P, rfl, HP.out.1, HP.out.2.2, HBT.out⟩

end Go.Proofs.YtbdlicomkpnalaaGreatDoor

namespace Go.Proofs.YtbdlicomkpnalaaGreatDoor
open Go.RowKit

theorem vl_nought : ∀ (l : List Nat), (∀ x ∈ l, x = 0) → vlV l = 0
  | [], _ => rfl
  | o :: r, h => by rw [vlV, h o (by simp), vl_nought r (fun x hx => h x (by simp [hx]))]

theorem vl_five {A : List Nat} (hA : Lmb A) (hz : ∀ j, 5 ≤ j → A.getD j 0 = 0) : vlV (A.take 5) = vlV A ∧ vlV A < 65536 ^ 5 := by
  have h1 := vl_split A 5 (by rw [hA.1]; omega)
  have h2 : vlV (A.drop 5) = 0 := by
    apply vl_nought
    intro x hx
    obtain ⟨i, hi, rfl⟩ := List.mem_iff_getElem.1 hx
    have hi' : 5 + i < A.length := by rw [List.length_drop] at hi; omega
    have := hz (5 + i) (by omega)
    simpa [List.getD, hi'] using this
  have h3 := vl_lt (A.take 5) (fun x hx => lmb_mem hA x (List.mem_of_mem_take hx))
  rw [List.length_take, hA.1, show min 5 16 = 5 by decide] at h3
  rw [h2, Nat.mul_zero, Nat.add_zero] at h1
  exact ⟨h1.symm, by rw [h1]; exact h3⟩

theorem vl_ten {O : List Nat} (hO : Lmb O) (h : vlV O < 65536 ^ 10) : vlV (O.take 10) = vlV O := by
  have h1 := vl_split O 10 (by rw [hO.1]; omega)
  rcases Nat.eq_zero_or_pos (vlV (O.drop 10)) with h2 | h2
  · rw [h2] at h1; omega
  · have := Nat.mul_le_mul_left (65536 ^ 10) h2
    omega

def tst (cube : Bool) (p x : Nat) : Bool := if cube then decide (x * x * x ≤ 65536 ^ 12 * p) else decide (x * x ≤ 65536 ^ 8 * p)

theorem wpListw {P : Program} {ops : Array Oper} {Q : Exit → Act → World → Prop} {rest : List Oper} {a : Act} {w w' : World} (e : w = w') (h : wpList P ops Q rest a w) : wpList P ops Q rest a w' := e ▸ h

theorem ret_bb {a b : Bool} (h : a = b) : Ending.returned (.bool a) = .returned (.bool b) := by rw [h]

set_option maxHeartbeats 4000000 in
set_option maxRecDepth 100000 in
theorem below_false (A : List Nat) (p : Nat) (w : World) (hA : Lmb A) (hz : ∀ j, 5 ≤ j → A.getD j 0 = 0) (hp : p < 65536) :
    Calls Tryz.prog 50 #[.agg (cW .u64 A).toArray, .int .u64 (p : Int), .bool false] w fun e w' => e = .returned (.bool (tst false p (vlV A))) ∧ Below w.heap.size w w' := by
  obtain ⟨h5, h5l⟩ := vl_five hA hz
  have HA := hid hA
  have H5 := hid h5
  have H5L := hid h5l
  have hi8 := size16 A hA.1
  have HRA := hid (range_row (Rw.new w .u64 100 A))
  clear hA hz h5 h5l
  go_enter Tryz.func50, Tryz.ntmps50
  go_wp2_with (refine wpList_load_mid rfl 100 (.tmp 3) rfl w.heap.size 0 rfl (cW .u64 A) _ HRA.out Tryz.underlying100 rfl hi8 ?_)
  refine (times_any A A 5 5 _ HA.out HA.out (by omega) (by omega) (by omega)).mono ?_
  rintro e w1 ⟨O, rfl, hO, hv, hb1⟩
  rw [H5.out] at hv
  have HRK := hid ((Rw.new w .u64 100 A).kept hb1)
  have HB1 := hid (below2 ((Below.refl _ w).alloc (Nat.le_refl _) _) hb1)
  have HO := hid hO
  have HV := hid hv
  clear hb1 hO hv HRA
  have HZ := hid (Rw.new w1 .u64 100 zr16)
  have HH := hid (HZ.out.there (cW .u64 O).toArray.size (by rw [List.size_toArray, cW_len, HO.out.1]; rfl))
  have hone := all_oneCell_toArray (cW_one .u64 O)
  have hi1 := size16a O HO.out.1
  have hi2 := size16 O HO.out.1
  obtain ⟨W2, hW2⟩ : ∃ W2, W2 = (w1.alloc (.cells (cW .u64 zr16).toArray 100)).setCells w1.heap.size 0 (cW .u64 O) := ⟨_, rfl⟩
  have hBW : Below w1.heap.size w1 W2 := by rw [hW2]; exact below_setCells (Nat.le_refl _) _ _ _ ((Below.refl _ _).alloc (Nat.le_refl _) _)
  have HR2 := hid (show Rw W2 w1.heap.size .u64 100 O by rw [hW2]; exact HZ.out.put O (by rw [HO.out.1]; rfl))
  have HA2 := hid (HRK.out.kept hBW)
  have HB2 := hid (below2 HB1.out hBW)
  have HW2 := hid hW2
  have hgw : w.heap.size ≤ w1.heap.size := HB1.out.size
  have HRGA := hid HA2.out.range
  have HRGO := hid HR2.out.range
  clear hW2 hBW
  go_wp2_with (first | (refine wpList_store_mid rfl 100 (.tmp 7) (.tmp 13) rfl w1.heap.size 0 (cW .u64 O).toArray rfl rfl HH.out hi1 hone ?_; refine wpListw HW2.out ?_))
  have HTS := hid (show decide (vlV O ≤ 65536 ^ 8 * p) = tst false p (vlV A) by unfold tst; rw [HV.out]; rfl)
  have HOO : Hid (Lmb O) := HO

  obtain ⟨G, hG⟩ : ∃ G, G = w1.heap.size := ⟨_, rfl⟩
  rw [← hG] at HR2 ⊢
  clear hG
  go_loopw [9] (fun v9 wr => ∃ (i : Nat) (z : Int), i ≤ 16 ∧ z = (i : Int) - 1 ∧ v9 = .int .i64 z ∧ Hid (∀ j, i ≤ j → j < 16 → O.getD j 0 = (onlyV 8 p).getD j 0) ∧ wr = W2) (fun v9 _ => (intOf v9 + 1).toNat)
  case atStart => exact ⟨16, 15, by omega, rfl, rfl, fun j h1 h2 => by omega, rfl⟩
  case round =>
    obtain ⟨i, z, hi, hz, rfl, HAB, rfl⟩ := hrel
    rcases Nat.eq_zero_or_pos i with h0 | h0
    · have hz1 : z = -1 := by omega
      have HFI := hid (show true = tst false p (vlV A) by
        have : O = onlyV 8 p := vl_same _ _ HO.out (only_lmb 8 p hp) (fun j hj => HAB.out j (by omega) hj)
        rw [← HTS.out, this, only_vl 8 p (by decide)]
        simp)
      subst hz1
      clear hz HAB h0 hi
      go_wp2_with fail
      go_ret
      exact ⟨ret_bb HFI.out, HB2.out⟩
    · obtain ⟨q, hq⟩ : ∃ q, q = i - 1 := ⟨_, rfl⟩
      obtain rfl : z = (q : Int) := by omega
      obtain ⟨o, ho⟩ : ∃ o, o = O.getD q 0 := ⟨_, rfl⟩
      have cs : wr.cell? ⟨G, q, none⟩ = some (.int .u64 (o : Int)) := by rw [ho]; exact HR2.out.cell q (by rw [HO.out.1]; omega)
      have hq16 : (q : Int) < 16 := by omega
      have hq0 : (0 : Int) ≤ (q : Int) := by omega
      have hon := only_get 8 p q (by decide)
      have HCM := hid (fun (h : o ≠ (onlyV 8 p).getD q 0) => vl_cmp O (onlyV 8 p) q HO.out (only_lmb 8 p hp) (by omega) (fun j h1 h2 => HAB.out j (by omega) h2) (by rw [← ho]; exact h))
      have HNX := hid (fun (h : o = (onlyV 8 p).getD q 0) => (show ∀ j, q ≤ j → j < 16 → O.getD j 0 = (onlyV 8 p).getD j 0 from fun j h1 h2 => by
        rcases Nat.eq_or_lt_of_le h1 with rfl | h3
        · rw [← ho]; exact h
        · exact HAB.out j (by omega) h2))
      have Ho := hid ho
      have HQ := hid (show q + 1 = i by omega)
      clear ho hz HAB hq
      by_cases hat : q = 8
      · have hatI : ((q : Int) == 8) = true := by simp [hat]
        rw [if_pos hat] at hon
        rw [hon] at HCM HNX
        clear hon hat
        by_cases hop : o = p
        · have hne : ((o : Int) != (p : Int)) = false := by simp [hop]
          have HN2 := hid (HNX.out hop)
          clear hop
          go_wp2_with fail
          go_roundw
          case rel =>
            first
              | exact ⟨q, (q : Int) - 1, by omega, rfl, by first | rfl | go_num, HN2.out, by first | rfl | trivial⟩
              | ((repeat apply Exists.intro); refine ⟨?_, rfl⟩; exact ⟨q, (q : Int) - 1, by omega, rfl, by first | rfl | go_num, HN2.out, by first | rfl | trivial⟩)
          case measure => simp [intOf]
        · have hne : ((o : Int) != (p : Int)) = true := by simp; omega
          have HFI := hid (show decide (o < p) = tst false p (vlV A) by
            have := HCM.out hop
            rw [← HTS.out, decide_eq_decide, only_vl 8 p (by decide), ← Ho.out] at *
            omega)
          clear hop
          go_wp2_with fail
          go_ret
          exact ⟨ret_bb HFI.out, HB2.out⟩
      · have hatI : ((q : Int) == 8) = false := by simp; omega
        rw [if_neg hat] at hon
        rw [hon] at HCM HNX
        clear hon hat
        by_cases hop : o = 0
        · have hne : ((o : Int) != 0) = false := by simp [hop]
          have HN2 := hid (HNX.out hop)
          clear hop
          go_wp2_with fail
          go_roundw
          case rel =>
            first
              | exact ⟨q, (q : Int) - 1, by omega, rfl, by first | rfl | go_num, HN2.out, by first | rfl | trivial⟩
              | ((repeat apply Exists.intro); refine ⟨?_, rfl⟩; exact ⟨q, (q : Int) - 1, by omega, rfl, by first | rfl | go_num, HN2.out, by first | rfl | trivial⟩)
          case measure => simp [intOf]
        · have hne : ((o : Int) != 0) = true := by simp; omega
          have HFI := hid (show decide ((o : Int) < 0) = tst false p (vlV A) by
            have := HCM.out hop
            rw [← HTS.out, decide_eq_decide, only_vl 8 p (by decide), ← Ho.out] at *
            omega)
          clear hop
          go_wp2_with fail
          go_ret
          exact ⟨ret_bb HFI.out, HB2.out⟩


set_option maxHeartbeats 4000000 in
set_option maxRecDepth 100000 in
theorem below_true (A : List Nat) (p : Nat) (w : World) (hA : Lmb A) (hz : ∀ j, 5 ≤ j → A.getD j 0 = 0) (hp : p < 65536) :
    Calls Tryz.prog 50 #[.agg (cW .u64 A).toArray, .int .u64 (p : Int), .bool true] w fun e w' => e = .returned (.bool (tst true p (vlV A))) ∧ Below w.heap.size w w' := by
  obtain ⟨h5, h5l⟩ := vl_five hA hz
  have HA := hid hA
  have H5 := hid h5
  have H5L := hid h5l
  have hi8 := size16 A hA.1
  have HRA := hid (range_row (Rw.new w .u64 100 A))
  clear hA hz h5 h5l
  go_enter Tryz.func50, Tryz.ntmps50
  go_wp2_with (refine wpList_load_mid rfl 100 (.tmp 3) rfl w.heap.size 0 rfl (cW .u64 A) _ HRA.out Tryz.underlying100 rfl hi8 ?_)
  refine (times_any A A 5 5 _ HA.out HA.out (by omega) (by omega) (by omega)).mono ?_
  rintro e w1 ⟨O, rfl, hO, hv, hb1⟩
  rw [H5.out] at hv
  have HRK := hid ((Rw.new w .u64 100 A).kept hb1)
  have HB1 := hid (below2 ((Below.refl _ w).alloc (Nat.le_refl _) _) hb1)
  have HO := hid hO
  have HV := hid hv
  clear hb1 hO hv HRA
  have HZ := hid (Rw.new w1 .u64 100 zr16)
  have HH := hid (HZ.out.there (cW .u64 O).toArray.size (by rw [List.size_toArray, cW_len, HO.out.1]; rfl))
  have hone := all_oneCell_toArray (cW_one .u64 O)
  have hi1 := size16a O HO.out.1
  have hi2 := size16 O HO.out.1
  obtain ⟨W2, hW2⟩ : ∃ W2, W2 = (w1.alloc (.cells (cW .u64 zr16).toArray 100)).setCells w1.heap.size 0 (cW .u64 O) := ⟨_, rfl⟩
  have hBW : Below w1.heap.size w1 W2 := by rw [hW2]; exact below_setCells (Nat.le_refl _) _ _ _ ((Below.refl _ _).alloc (Nat.le_refl _) _)
  have HR2 := hid (show Rw W2 w1.heap.size .u64 100 O by rw [hW2]; exact HZ.out.put O (by rw [HO.out.1]; rfl))
  have HA2 := hid (HRK.out.kept hBW)
  have HB2 := hid (below2 HB1.out hBW)
  have HW2 := hid hW2
  have hgw : w.heap.size ≤ w1.heap.size := HB1.out.size
  have HRGA := hid HA2.out.range
  have HRGO := hid HR2.out.range
  clear hW2 hBW
  go_wp2_with (first | (refine wpList_store_mid rfl 100 (.tmp 7) (.tmp 13) rfl w1.heap.size 0 (cW .u64 O).toArray rfl rfl HH.out hi1 hone ?_; refine wpListw HW2.out ?_) | refine wpList_load_mid rfl 100 (.tmp 7) rfl w1.heap.size 0 rfl (cW .u64 O) _ HRGO.out Tryz.underlying100 rfl hi2 ?_ | refine wpList_load_mid rfl 100 (.tmp 3) rfl w.heap.size 0 rfl (cW .u64 A) _ HRGA.out Tryz.underlying100 rfl hi8 ?_)
  refine (times_any O A 10 5 W2 HO.out HA.out (by omega) (by omega) (by omega)).mono ?_
  rintro e w3 ⟨O3, rfl, hO3, hv3, hb3⟩
  have hlt10 : vlV O < 65536 ^ 10 := by
    rw [HV.out]
    exact Nat.lt_of_lt_of_eq (Nat.mul_lt_mul'' H5L.out H5L.out) (by decide)
  rw [vl_ten HO.out hlt10, H5.out, HV.out] at hv3
  have HO3 := hid hO3
  have HV3 := hid hv3
  have HR3 := hid (HR2.out.kept hb3)
  have HB3 := hid (below2 HB2.out hb3)
  clear hO3 hv3 hb3 hlt10 HR2 HA2 HB2 HRGA HRGO HH hone hi1 hi2 HW2
  have HH := hid (HR3.out.there (cW .u64 O3).toArray.size (by rw [List.size_toArray, cW_len, HO3.out.1, HO.out.1]))
  have hone := all_oneCell_toArray (cW_one .u64 O3)
  have hi1 := size16a O3 HO3.out.1
  obtain ⟨W4, hW4⟩ : ∃ W4, W4 = w3.setCells w1.heap.size 0 (cW .u64 O3) := ⟨_, rfl⟩
  have HR4 := hid (show Rw W4 w1.heap.size .u64 100 O3 by rw [hW4]; exact HR3.out.put O3 (by rw [HO3.out.1, HO.out.1]))
  have HB4 := hid (show Below w.heap.size w W4 by rw [hW4]; exact below_setCells hgw _ _ _ HB3.out)
  have HW4 := hid hW4
  clear hW4
  go_wp2_with (first | (refine wpList_store_mid rfl 100 (.tmp 7) (.tmp 17) rfl w1.heap.size 0 (cW .u64 O3).toArray rfl rfl HH.out hi1 hone ?_; refine wpListw HW4.out ?_))
  have HTS := hid (show decide (vlV O3 ≤ 65536 ^ 12 * p) = tst true p (vlV A) by unfold tst; rw [HV3.out]; rfl)

  obtain ⟨G, hG⟩ : ∃ G, G = w1.heap.size := ⟨_, rfl⟩
  rw [← hG] at HR4 ⊢
  clear hG
  go_loopw [9] (fun v9 wr => ∃ (i : Nat) (z : Int), i ≤ 16 ∧ z = (i : Int) - 1 ∧ v9 = .int .i64 z ∧ Hid (∀ j, i ≤ j → j < 16 → O3.getD j 0 = (onlyV 12 p).getD j 0) ∧ wr = W4) (fun v9 _ => (intOf v9 + 1).toNat)
  case atStart => exact ⟨16, 15, by omega, rfl, rfl, fun j h1 h2 => by omega, rfl⟩
  case round =>
    obtain ⟨i, z, hi, hz, rfl, HAB, rfl⟩ := hrel
    rcases Nat.eq_zero_or_pos i with h0 | h0
    · have hz1 : z = -1 := by omega
      have HFI := hid (show true = tst true p (vlV A) by
        have : O3 = onlyV 12 p := vl_same _ _ HO3.out (only_lmb 12 p hp) (fun j hj => HAB.out j (by omega) hj)
        rw [← HTS.out, this, only_vl 12 p (by decide)]
        simp)
      subst hz1
      clear hz HAB h0 hi
      go_wp2_with fail
      go_ret
      exact ⟨ret_bb HFI.out, HB4.out⟩
    · obtain ⟨q, hq⟩ : ∃ q, q = i - 1 := ⟨_, rfl⟩
      obtain rfl : z = (q : Int) := by omega
      obtain ⟨o, ho⟩ : ∃ o, o = O3.getD q 0 := ⟨_, rfl⟩
      have cs : wr.cell? ⟨G, q, none⟩ = some (.int .u64 (o : Int)) := by rw [ho]; exact HR4.out.cell q (by rw [HO3.out.1]; omega)
      have hq16 : (q : Int) < 16 := by omega
      have hq0 : (0 : Int) ≤ (q : Int) := by omega
      have hon := only_get 12 p q (by decide)
      have HCM := hid (fun (h : o ≠ (onlyV 12 p).getD q 0) => vl_cmp O3 (onlyV 12 p) q HO3.out (only_lmb 12 p hp) (by omega) (fun j h1 h2 => HAB.out j (by omega) h2) (by rw [← ho]; exact h))
      have HNX := hid (fun (h : o = (onlyV 12 p).getD q 0) => (show ∀ j, q ≤ j → j < 16 → O3.getD j 0 = (onlyV 12 p).getD j 0 from fun j h1 h2 => by
        rcases Nat.eq_or_lt_of_le h1 with rfl | h3
        · rw [← ho]; exact h
        · exact HAB.out j (by omega) h2))
      have Ho := hid ho
      have HQ := hid (show q + 1 = i by omega)
      clear ho hz HAB hq
      by_cases hat : q = 12
      · have hatI : ((q : Int) == 12) = true := by simp [hat]
        rw [if_pos hat] at hon
        rw [hon] at HCM HNX
        clear hon hat
        by_cases hop : o = p
        · have hne : ((o : Int) != (p : Int)) = false := by simp [hop]
          have HN2 := hid (HNX.out hop)
          clear hop
          go_wp2_with fail
          go_roundw
          case rel =>
            first
              | exact ⟨q, (q : Int) - 1, by omega, rfl, by first | rfl | go_num, HN2.out, by first | rfl | trivial⟩
              | ((repeat apply Exists.intro); refine ⟨?_, rfl⟩; exact ⟨q, (q : Int) - 1, by omega, rfl, by first | rfl | go_num, HN2.out, by first | rfl | trivial⟩)
          case measure => simp [intOf]
        · have hne : ((o : Int) != (p : Int)) = true := by simp; omega
          have HFI := hid (show decide (o < p) = tst true p (vlV A) by
            have := HCM.out hop
            rw [← HTS.out, decide_eq_decide, only_vl 12 p (by decide), ← Ho.out] at *
            omega)
          clear hop
          go_wp2_with fail
          go_ret
          exact ⟨ret_bb HFI.out, HB4.out⟩
      · have hatI : ((q : Int) == 12) = false := by simp; omega
        rw [if_neg hat] at hon
        rw [hon] at HCM HNX
        clear hon hat
        by_cases hop : o = 0
        · have hne : ((o : Int) != 0) = false := by simp [hop]
          have HN2 := hid (HNX.out hop)
          clear hop
          go_wp2_with fail
          go_roundw
          case rel =>
            first
              | exact ⟨q, (q : Int) - 1, by omega, rfl, by first | rfl | go_num, HN2.out, by first | rfl | trivial⟩
              | ((repeat apply Exists.intro); refine ⟨?_, rfl⟩; exact ⟨q, (q : Int) - 1, by omega, rfl, by first | rfl | go_num, HN2.out, by first | rfl | trivial⟩)
          case measure => simp [intOf]
        · have hne : ((o : Int) != 0) = true := by simp; omega
          have HFI := hid (show decide ((o : Int) < 0) = tst true p (vlV A) by
            have := HCM.out hop
            rw [← HTS.out, decide_eq_decide, only_vl 12 p (by decide), ← Ho.out] at *
            omega)
          clear hop
          go_wp2_with fail
          go_ret
          exact ⟨ret_bb HFI.out, HB4.out⟩


theorem below_any (cube : Bool) (A : List Nat) (p : Nat) (w : World) (hA : Lmb A) (hz : ∀ j, 5 ≤ j → A.getD j 0 = 0) (hp : p < 65536) :
    Calls Tryz.prog 50 #[.agg (cW .u64 A).toArray, .int .u64 (p : Int), .bool cube] w fun e w' => e = .returned (.bool (tst cube p (vlV A))) ∧ Below w.heap.size w w' := by
  cases cube
  · exact below_false A p w hA hz hp
  · exact below_true A p w hA hz hp

end Go.Proofs.YtbdlicomkpnalaaGreatDoor

namespace Go.Proofs.YtbdlicomkpnalaaGreatDoor
open Go.RowKit

/-- The greatest number of so many bits that meets the test, bit by bit from above. -/
def rtV (t : Nat → Bool) : Nat → Nat → Nat
  | 0, lo => lo
  | k + 1, lo => force (if t (lo + 2 ^ k) then lo + 2 ^ k else lo) fun x => rtV t k x

def rootV (cube : Bool) (p : Nat) : Nat := rtV (tst cube p) 72 0 % 2 ^ 64

theorem or_bit (a r : Nat) (h : a % 2 ^ (r + 1) = 0) : a ||| 2 ^ r = a + 2 ^ r := by
  have h2 : a = (a / 2 ^ (r + 1)) * 2 ^ (r + 1) := by
    have := Nat.div_add_mod a (2 ^ (r + 1))
    rw [h, Nat.add_zero, Nat.mul_comm] at this
    exact this.symm
  have h3 := Nat.shiftLeft_add_eq_or_of_lt (i := r + 1) (b := 2 ^ r) (Nat.pow_lt_pow_right (by decide) (Nat.lt_succ_self r)) (a / 2 ^ (r + 1))
  rw [Nat.shiftLeft_eq, ← h2] at h3
  exact h3.symm

/-- All bits below k are noughts. -/
def LowZ (O : List Nat) (k : Nat) : Prop := (∀ j, (j + 1) * 16 ≤ k → O.getD j 0 = 0) ∧ (k % 16 ≠ 0 → O.getD (k / 16) 0 % 2 ^ (k % 16) = 0)

theorem low_at {O : List Nat} {k : Nat} (h : LowZ O (k + 1)) : O.getD (k / 16) 0 % 2 ^ (k % 16 + 1) = 0 := by
  by_cases hr : k % 16 = 15
  · have h1 := h.1 (k / 16) (by omega)
    rw [h1]; simp
  · have h2 := h.2 (by omega)
    rwa [show (k + 1) % 16 = k % 16 + 1 by omega, show (k + 1) / 16 = k / 16 by omega] at h2

theorem low_down {O : List Nat} {k : Nat} (h : LowZ O (k + 1)) : LowZ O k := by
  refine ⟨fun j hj => h.1 j (by omega), fun hr => ?_⟩
  have := low_at h
  have e : O.getD (k / 16) 0 % 2 ^ (k % 16 + 1) % 2 ^ (k % 16) = 0 := by rw [this]; simp
  rwa [Nat.mod_mod_of_dvd _ (Nat.pow_dvd_pow 2 (Nat.le_succ _))] at e

theorem low_set {O : List Nat} {k : Nat} (hl : k / 16 < O.length) (h : LowZ O (k + 1)) : LowZ (O.set (k / 16) (O.getD (k / 16) 0 + 2 ^ (k % 16))) k := by
  refine ⟨fun j hj => ?_, fun hr => ?_⟩
  · rw [get_set _ _ _ _ (by omega)]; exact h.1 j (by omega)
  · have e : (O.set (k / 16) (O.getD (k / 16) 0 + 2 ^ (k % 16))).getD (k / 16) 0 = O.getD (k / 16) 0 + 2 ^ (k % 16) := by simp [List.getD, hl]
    rw [e, Nat.add_mod_right]
    have := low_at h
    have e2 : O.getD (k / 16) 0 % 2 ^ (k % 16 + 1) % 2 ^ (k % 16) = 0 := by rw [this]; simp
    rwa [Nat.mod_mod_of_dvd _ (Nat.pow_dvd_pow 2 (Nat.le_succ _))] at e2

theorem bit_room {a r : Nat} (h : a % 2 ^ (r + 1) = 0) (ha : a < 65536) (hr : r < 16) : a + 2 ^ r < 65536 := by
  obtain ⟨q, hq⟩ := Nat.dvd_of_mod_eq_zero h
  obtain ⟨s, hs⟩ : ∃ s, s + (r + 1) = 16 := ⟨16 - (r + 1), by omega⟩
  have e : 2 ^ (r + 1) * 2 ^ s = 65536 := by rw [← Nat.pow_add, show r + 1 + s = 16 by omega]
  have hlt : q < 2 ^ s := by
    rcases Nat.lt_or_ge q (2 ^ s) with h1 | h1
    · exact h1
    · have := Nat.mul_le_mul_left (2 ^ (r + 1)) h1
      rw [e, ← hq] at this
      omega
  have h2 := Nat.mul_le_mul_left (2 ^ (r + 1)) (show q + 1 ≤ 2 ^ s from hlt)
  rw [e, Nat.mul_add, Nat.mul_one, ← hq, Nat.pow_succ] at h2
  have := Nat.two_pow_pos r
  omega

theorem vl_bit (O : List Nat) (k : Nat) (hl : k / 16 < O.length) : vlV (O.set (k / 16) (O.getD (k / 16) 0 + 2 ^ (k % 16))) = vlV O + 2 ^ k := by
  have h := vl_set O (k / 16) (O.getD (k / 16) 0 + 2 ^ (k % 16)) hl
  rw [Nat.mul_add] at h
  have e : 65536 ^ (k / 16) * 2 ^ (k % 16) = 2 ^ k := by
    rw [show (65536 : Nat) = 2 ^ 16 by decide, ← Nat.pow_mul, ← Nat.pow_add, Nat.div_add_mod]
  rw [e] at h
  omega

theorem vl_low4 {O : List Nat} (hO : Lmb O) : vlV O % 2 ^ 64 = O.getD 0 0 + 65536 * (O.getD 1 0 + 65536 * (O.getD 2 0 + 65536 * O.getD 3 0)) := by
  have h1 := vl_split O 4 (by rw [hO.1]; omega)
  have h2 : vlV (O.take 4) = O.getD 0 0 + 65536 * (O.getD 1 0 + 65536 * (O.getD 2 0 + 65536 * O.getD 3 0)) := by
    have l := hO.1
    rw [take_step O 3 (by omega), take_step O 2 (by omega), take_step O 1 (by omega), take_step O 0 (by omega)]
    simp [vlV]
    omega
  have a0 := hO.2 0
  have a1 := hO.2 1
  have a2 := hO.2 2
  have a3 := hO.2 3
  rw [h1, h2, show (65536 : Nat) ^ 4 = 2 ^ 64 by decide, Nat.add_mul_mod_self_left]
  exact Nat.mod_eq_of_lt (by omega)

theorem or_up (a b n : Nat) (ha : a < 2 ^ n) : a ||| b * 2 ^ n = a + b * 2 ^ n := by
  have := Nat.shiftLeft_add_eq_or_of_lt (i := n) (b := a) ha b
  rw [Nat.shiftLeft_eq] at this
  rw [Nat.or_comm, ← this, Nat.add_comm]

end Go.Proofs.YtbdlicomkpnalaaGreatDoor

namespace Go.Proofs.YtbdlicomkpnalaaGreatDoor
open Go.RowKit

theorem ret_u8 {a b : Int} (h : a = b) : Ending.returned (.int .u64 a) = .returned (.int .u64 b) := by rw [h]

/-- What the search lies in. -/
def Srt (w wr : World) (O : List Nat) (i T : Nat) (cube : Bool) (p : Nat) : Prop :=
  Lmb O ∧ (∀ j, 5 ≤ j → O.getD j 0 = 0) ∧ LowZ O i ∧ rtV (tst cube p) i (vlV O) = T ∧ Rw wr w.heap.size .u64 100 O ∧ Below w.heap.size w wr

set_option maxHeartbeats 4000000 in
set_option maxRecDepth 100000 in
theorem root_any (cube : Bool) (p : Nat) (w : World) (hp : p < 65536) :
    Calls Tryz.prog 24 #[.int .u64 (p : Int), .bool cube] w fun e w' => e = .returned (.int .u64 ((rootV cube p : Nat) : Int)) ∧ Below w.heap.size w w' := by
  obtain ⟨T, hT⟩ : ∃ T, T = rtV (tst cube p) 72 0 := ⟨_, rfl⟩
  have HT := hid hT
  have HRV := hid (show rootV cube p = T % 2 ^ 64 by rw [hT]; rfl)
  rw [HRV.out]
  clear hT
  go_enter Tryz.func24, Tryz.ntmps24
  go_wp2_with fail
  go_loopw [6] (fun v6 wr => ∃ (i : Nat) (z : Int) (O : List Nat), i ≤ 72 ∧ z = (i : Int) - 1 ∧ v6 = .int .i64 z ∧ Hid (Srt w wr O i T cube p)) (fun v6 _ => (intOf v6 + 1).toNat)
  case atStart =>
    refine ⟨72, 71, zr16, by omega, rfl, rfl, lmb_zero, fun j _ => ?_, ⟨fun j _ => ?_, fun _ => ?_⟩, ?_, ?_, ?_⟩
    · simp only [zr16, zrs, List.getD, List.getElem?_replicate]; split <;> rfl
    · simp only [zr16, zrs, List.getD, List.getElem?_replicate]; split <;> rfl
    · have : zr16.getD (72 / 16) 0 = 0 := by decide
      rw [this]
    · have : vlV zr16 = 0 := by decide
      rw [this]; exact HT.out.symm
    · exact Rw.laid rfl (by rfl)
    · exact (Below.refl _ w).alloc (Nat.le_refl _) _
  case round =>
    obtain ⟨i, z, O, hi, hz, rfl, HS⟩ := hrel
    rcases Nat.eq_zero_or_pos i with h0 | h0
    · obtain rfl : z = -1 := by omega
      obtain ⟨hO, _, _, hr, hR, hB⟩ := HS.out
      subst h0
      obtain ⟨x0, hx0⟩ : ∃ x, x = O.getD 0 0 := ⟨_, rfl⟩
      obtain ⟨x1, hx1⟩ : ∃ x, x = O.getD 1 0 := ⟨_, rfl⟩
      obtain ⟨x2, hx2⟩ : ∃ x, x = O.getD 2 0 := ⟨_, rfl⟩
      obtain ⟨x3, hx3⟩ : ∃ x, x = O.getD 3 0 := ⟨_, rfl⟩
      have b0 : x0 < 65536 := by rw [hx0]; exact hO.2 0
      have b1 : x1 < 65536 := by rw [hx1]; exact hO.2 1
      have b2 : x2 < 65536 := by rw [hx2]; exact hO.2 2
      have b3 : x3 < 65536 := by rw [hx3]; exact hO.2 3
      have c0 : wr.cell? ⟨w.heap.size, 0, none⟩ = some (.int .u64 (x0 : Int)) := by rw [hx0]; exact hR.cell 0 (by rw [hO.1]; omega)
      have c1 : wr.cell? ⟨w.heap.size, 1, none⟩ = some (.int .u64 (x1 : Int)) := by rw [hx1]; exact hR.cell 1 (by rw [hO.1]; omega)
      have c2 : wr.cell? ⟨w.heap.size, 2, none⟩ = some (.int .u64 (x2 : Int)) := by rw [hx2]; exact hR.cell 2 (by rw [hO.1]; omega)
      have c3 : wr.cell? ⟨w.heap.size, 3, none⟩ = some (.int .u64 (x3 : Int)) := by rw [hx3]; exact hR.cell 3 (by rw [hO.1]; omega)
      have hv : T % 2 ^ 64 = x0 + 65536 * (x1 + 65536 * (x2 + 65536 * x3)) := by rw [← hr, hx0, hx1, hx2, hx3]; exact vl_low4 hO
      obtain ⟨y1, hy1⟩ : ∃ y, y = x1 * 65536 := ⟨_, rfl⟩
      obtain ⟨y2, hy2⟩ : ∃ y, y = x2 * 4294967296 := ⟨_, rfl⟩
      obtain ⟨y3, hy3⟩ : ∃ y, y = x3 * 281474976710656 := ⟨_, rfl⟩
      obtain ⟨z1, hz1⟩ : ∃ y, y = x0 + y1 := ⟨_, rfl⟩
      obtain ⟨z2, hz2⟩ : ∃ y, y = z1 + y2 := ⟨_, rfl⟩
      obtain ⟨z3, hz3⟩ : ∃ y, y = z2 + y3 := ⟨_, rfl⟩
      have f1 : IntKind.u64.wrap ((x1 : Int) * 65536) = (y1 : Int) := by rw [IntKind.wrap_u64]; omega
      have f2 : IntKind.u64.wrap ((x2 : Int) * 4294967296) = (y2 : Int) := by rw [IntKind.wrap_u64]; omega
      have f3 : IntKind.u64.wrap ((x3 : Int) * 281474976710656) = (y3 : Int) := by rw [IntKind.wrap_u64]; omega
      have o1 : bits .or .u64 (x0 : Int) (y1 : Int) = (z1 : Int) := by
        rw [u64_or_nat _ _ (by omega) (by omega), hz1, hy1]
        have := or_up x0 x1 16 b0
        rw [show (2 : Nat) ^ 16 = 65536 by decide] at this
        rw [this]
      have o2 : bits .or .u64 (z1 : Int) (y2 : Int) = (z2 : Int) := by
        rw [u64_or_nat _ _ (by omega) (by omega), hz2, hy2]
        have := or_up z1 x2 32 (by omega)
        rw [show (2 : Nat) ^ 32 = 4294967296 by decide] at this
        rw [this]
      have o3 : bits .or .u64 (z2 : Int) (y3 : Int) = (z3 : Int) := by
        rw [u64_or_nat _ _ (by omega) (by omega), hz3, hy3]
        have := or_up z2 x3 48 (by omega)
        rw [show (2 : Nat) ^ 48 = 281474976710656 by decide] at this
        rw [this]
      have HV := hid (show z3 = T % 2 ^ 64 by rw [hv]; omega)
      have HB := hid hB
      clear hO hr hR hB hx0 hx1 hx2 hx3 hv hy1 hy2 hy3 hz1 hz2 hz3 HS hz hi
      go_wp2_with fail
      go_ret
      exact ⟨ret_u8 (by rw [← HV.out]), HB.out⟩
    · obtain ⟨k, hk⟩ : ∃ k, k = i - 1 := ⟨_, rfl⟩
      obtain rfl : i = k + 1 := by omega
      obtain rfl : z = (k : Int) := by omega
      obtain ⟨hO, hz5, hlo, hr, hR, hB⟩ := HS.out
      obtain ⟨j, hj⟩ : ∃ j, j = k / 16 := ⟨_, rfl⟩
      obtain ⟨r, hrr⟩ : ∃ r, r = k % 16 := ⟨_, rfl⟩
      obtain ⟨o, ho⟩ : ∃ o, o = O.getD j 0 := ⟨_, rfl⟩
      obtain ⟨b, hb⟩ : ∃ b, b = 2 ^ r := ⟨_, rfl⟩
      obtain ⟨y, hy⟩ : ∃ y, y = o + b := ⟨_, rfl⟩
      have hlo2 := low_at hlo
      rw [← hj, ← hrr, ← ho] at hlo2
      have hy16 : y < 65536 := by rw [hy, hb]; exact bit_room hlo2 (by rw [ho]; exact hO.2 j) (by omega)
      have t1 : (k : Int).tdiv 16 = (j : Int) := by rw [Int.tdiv_eq_ediv_of_nonneg (by omega)]; omega
      have t2 : (k : Int).tmod 16 = (r : Int) := by rw [Int.tmod_eq_emod_of_nonneg (by omega)]; omega
      have t1' : (k : Int) / 16 = (j : Int) := by omega
      have t2' : (k : Int) % 16 = (r : Int) := by omega
      have hb16 : b < 65536 := by rw [hb]; exact Nat.pow_lt_pow_right (by decide) (show r < 16 by omega)
      have t3 : (2 : Int) ^ r = (b : Int) := by rw [hb, Int.natCast_pow]; rfl
      have t4 : bits .or .u64 (o : Int) (b : Int) = (y : Int) := by
        rw [u64_or_nat _ _ (by rw [ho]; have := hO.2 j; omega) (by omega), hy, hb]
        rw [or_bit o r hlo2]
      have hj16 : (j : Int) < 16 := by omega
      have hr64 : r < 16 := by omega
      have hkk : (0 : Int) ≤ (k : Int) := by omega
      obtain ⟨O2, hO2⟩ : ∃ O2, O2 = O.set j y := ⟨_, rfl⟩
      have HO2 := hid (show Lmb O2 ∧ (∀ j', 5 ≤ j' → O2.getD j' 0 = 0) ∧ LowZ O2 k ∧ vlV O2 = vlV O + 2 ^ k by
        rw [hO2]
        refine ⟨lmb_set hO j y hy16, fun j' hj' => by rw [get_set _ _ _ _ (by omega)]; exact hz5 j' hj', ?_, ?_⟩
        · have := low_set (k := k) (O := O) (by rw [hO.1]; omega) hlo
          rw [← hj, ← hrr, ← ho, ← hb, ← hy] at this
          exact this
        · have := vl_bit O k (by rw [hO.1]; omega)
          rw [← hj, ← hrr, ← ho, ← hb, ← hy] at this
          exact this)
      have HRT := hid (show rtV (tst cube p) k (if tst cube p (vlV O2) then vlV O2 else vlV O) = T by
        rw [← hr, rtV, force_eq, HO2.out.2.2.2])
      have HOZ := hid (show LowZ O k from low_down hlo)
      -- the copy
      have HRG := hid hR.range
      have hi8 := size16 O hO.1
      have hi8a := size16a O hO.1
      have hone := all_oneCell_toArray (cW_one .u64 O)
      have HZ := hid (Rw.new wr .u64 100 zr16)
      have HH := hid (HZ.out.there (cW .u64 O).toArray.size (by rw [List.size_toArray, cW_len, hO.1]; rfl))
      obtain ⟨W2, hW2⟩ : ∃ W2, W2 = (wr.alloc (.cells (cW .u64 zr16).toArray 100)).setCells wr.heap.size 0 (cW .u64 O) := ⟨_, rfl⟩
      have hbW : Below wr.heap.size wr W2 := by rw [hW2]; exact below_setCells (Nat.le_refl _) _ _ _ ((Below.refl _ _).alloc (Nat.le_refl _) _)
      have hR2 : Rw W2 wr.heap.size .u64 100 O := by rw [hW2]; exact HZ.out.put O (by rw [hO.1]; rfl)
      have HW2 := hid hW2
      have cs : W2.cell? ⟨wr.heap.size, j, none⟩ = some (.int .u64 (o : Int)) := by rw [ho]; exact hR2.cell j (by rw [hO.1]; omega)
      have cf := hR2.free j
      obtain ⟨W3, hW3⟩ : ∃ W3, W3 = W2.setCell ⟨wr.heap.size, j, none⟩ (.int .u64 (y : Int)) := ⟨_, rfl⟩
      have hR3 : Rw W3 wr.heap.size .u64 100 O2 := by rw [hW3, hO2]; exact hR2.set j y
      have hbW3 : Below wr.heap.size wr W3 := by rw [hW3]; exact hbW.setCell (p := ⟨wr.heap.size, j, none⟩) (Nat.le_refl _) _
      have HW3 := hid hW3.symm
      have hi9 := size16 O2 HO2.out.1.1
      have hi9a := size16a O2 HO2.out.1.1
      have hone2 := all_oneCell_toArray (cW_one .u64 O2)
      have HRG3 := hid (show (W2.setCell ⟨wr.heap.size, j, none⟩ (.int .u64 (y : Int))).rangeAt wr.heap.size 0 (cW .u64 O2) by rw [← hW3]; exact hR3.range)
      have HR3 := hid hR3
      have HBW3 := hid hbW3
      have hgw : w.heap.size ≤ wr.heap.size := hB.size
      have hgn : w.heap.size ≠ wr.heap.size := by have := hR.lt; omega
      have HR0 := hid hR
      have HB0 := hid hB
      have HOL := hid hO.1
      have HOA : Hid (Lmb O ∧ ∀ j, 5 ≤ j → O.getD j 0 = 0) := ⟨hO, hz5⟩
      clear hO hz5 hlo hr hR hB hj hrr ho hb hy hlo2 hO2 hW2 hbW hR2 hW3 hR3 hbW3 HS hz hk h0
      go_wp2_with (first | refine wpList_load_mid rfl 100 (.tmp 5) rfl w.heap.size 0 rfl (cW .u64 O) _ HRG.out Tryz.underlying100 rfl hi8 ?_ | (refine wpList_store_mid rfl 100 (.tmp 7) (.tmp 12) rfl wr.heap.size 0 (cW .u64 O).toArray rfl rfl HH.out hi8a hone ?_; refine wpListw HW2.out ?_) | refine wpList_load_mid rfl 100 (.tmp 7) rfl wr.heap.size 0 rfl (cW .u64 O2) _ HRG3.out Tryz.underlying100 rfl hi9 ?_)
      rw [HW3.out]
      refine (below_any cube O2 p W3 HO2.out.1 HO2.out.2.1 hp).mono ?_
      rintro e w4 ⟨rfl, hb4⟩
      have HR4 := hid (HR3.out.kept hb4)
      have HR04 := hid ((HR0.out.kept HBW3.out).kept hb4)
      have HB4 := hid (below2 (below2 HB0.out HBW3.out) hb4)
      obtain ⟨x, hx⟩ : ∃ x, x = wr.heap.size := ⟨_, rfl⟩
      rw [← hx] at HR4 hgn hgw ⊢
      have HRT2 := hid HRT.out
      clear hb4 HRG3 HW3 HW2 HRG hi8 hi8a hone HZ HH cs cf HR3 HBW3 HR0 HB0 hx HRT
      cases hq : tst cube p (vlV O2) with
      | true =>
        have HRN := hid (show Srt w (w4.setCells w.heap.size 0 (cW .u64 O2)) O2 k T cube p from ⟨HO2.out.1, HO2.out.2.1, HO2.out.2.2.1, by have := HRT2.out; rw [hq] at this; exact this, HR04.out.put O2 (by rw [HO2.out.1.1, HOL.out]), below_setCells (Nat.le_refl _) _ _ _ HB4.out⟩)
        have HH := hid (HR04.out.there (cW .u64 O2).toArray.size (by rw [List.size_toArray, cW_len, HO2.out.1.1, HOL.out]))
        have HRG := hid HR4.out.range
        clear hq HRT2
        go_wp2_with (first | refine wpList_load_mid rfl 100 (.tmp 7) rfl x 0 rfl (cW .u64 O2) _ HRG.out Tryz.underlying100 rfl hi9 ?_ | refine wpList_store_mid rfl 100 (.tmp 5) (.tmp 29) rfl w.heap.size 0 (cW .u64 O2).toArray rfl rfl HH.out hi9a hone2 ?_)
        go_roundw
        case rel =>
          first
            | exact ⟨k, (k : Int) - 1, O2, by omega, rfl, by first | rfl | go_num, HRN.out⟩
            | ((repeat apply Exists.intro); refine ⟨?_, rfl⟩; exact ⟨k, (k : Int) - 1, O2, by omega, rfl, by first | rfl | go_num, HRN.out⟩)
        case measure => simp [intOf]
      | false =>
        have HRN := hid (fun (hO : Lmb O) (h5 : ∀ j, 5 ≤ j → O.getD j 0 = 0) => (show Srt w w4 O k T cube p from ⟨hO, h5, HOZ.out, by have := HRT2.out; rw [hq] at this; exact this, HR04.out, HB4.out⟩))
        have HRN2 := hid (HRN.out HOA.out.1 HOA.out.2)
        clear hq HRT2 HRN
        go_wp2_with fail
        go_roundw
        case rel =>
          first
            | exact ⟨k, (k : Int) - 1, O, by omega, rfl, by first | rfl | go_num, HRN2.out⟩
            | ((repeat apply Exists.intro); refine ⟨?_, rfl⟩; exact ⟨k, (k : Int) - 1, O, by omega, rfl, by first | rfl | go_num, HRN2.out⟩)
        case measure => simp [intOf]

end Go.Proofs.YtbdlicomkpnalaaGreatDoor

namespace Go.Proofs.YtbdlicomkpnalaaGreatDoor
open Go.RowKit

theorem infoU64 : (Tryz.prog.info? 54).map (fun i => (i.zero, i.size, i.bytes)) = some (some (.int .u64 0), 1, 8) := by kernel_rfl

def isPV (p : Nat) (l : List Nat) : Bool := l.all fun q => p % q != 0
def PR : List Nat := [2, 3, 5, 7, 11, 13, 17, 19, 23, 29, 31, 37, 41, 43, 47, 53, 59, 61, 67, 71, 73, 79, 83, 89, 97, 101, 103, 107, 109, 113, 127, 131, 137, 139, 149, 151, 157, 163, 167, 173, 179, 181, 191, 193, 197, 199, 211, 223, 227, 229, 233, 239, 241, 251, 257, 263, 269, 271, 277, 281, 283, 293, 307, 311, 313, 317, 331, 337, 347, 349, 353, 359, 367, 373, 379, 383, 389, 397, 401, 409]
/-- The search goes on while there are fewer than eighty, and ends with these. -/
def chkP : Nat → Nat → List Nat → Bool
  | 0, _, l => l == PR
  | n + 1, p, l => decide (l.length < 80) && chkP n (p + 1) (if isPV p l then l ++ [p] else l)
theorem chk_start : chkP 408 2 [] = true := by decide +kernel

def tabV : List Nat := PR.map (rootV true) ++ (PR.take 16).map (rootV false)
theorem tab_eq : tabV = cbr ++ sqr := by decide +kernel

theorem own_len {w : World} {B : Nat} {e : TypeId} {v : Value} {l : List Value} {n : Nat} (h : w.ownsRow B e 1 v n l) : ∃ a cap, v = .slice a n cap := by
  rcases h.2 with ⟨rfl, rfl⟩ | ⟨g, cap, cur, rfl, _⟩
  · exact ⟨_, _, rfl⟩
  · exact ⟨_, _, rfl⟩

theorem own_other {w : World} {B : Nat} {e f : TypeId} {size : Nat} {v : Value} {n : Nat} {xs : List Value} {p : Nat} {cs : Array Value} {fr : Nat × Nat} (h : w.ownsRow B e size v n xs) (hp : w.heap[p]? = some (.cells cs f fr)) (hne : f ≠ e) : v.ownBlock ≠ some p := by
  intro hg
  rcases h.2 with ⟨rfl, _⟩ | ⟨g', cap, cur, rfl, hb, hgg, rest⟩
  · simp [Value.ownBlock] at hg
  · simp [Value.ownBlock] at hg
    subst hg
    rw [hp] at hgg
    injection hgg with hc
    injection hc with _ hc _
    exact hne hc

theorem own_at {w : World} {B : Nat} {e : TypeId} {v : Value} {l : List Nat} (h : w.ownsRow B e 1 v l.length (cW .u64 l)) (i : Nat) (hi : i < l.length) : ∃ g cap, v = .slice (some ⟨g, 0, none⟩) l.length cap ∧ w.cell? ⟨g, i, none⟩ = some (.int .u64 (l.getD i 0 : Nat)) := by
  rcases h.2 with ⟨rfl, h0⟩ | ⟨g, cap, cur, rfl, _⟩
  · omega
  · refine ⟨g, cap, rfl, ?_⟩
    have := h.cells (g := g) rfl i (.int .u64 (l.getD i 0 : Nat)) (by simp [cW, hi])
    simpa [Addr.add_lit] using this

/-- Behind some numbers of the search. -/
def NwR (w wr : World) (v : Value) (l : List Nat) : Prop :=
  (∀ q ∈ l, 2 ≤ q ∧ q < 65536) ∧ wr.ownsRow w.heap.size 54 1 v l.length (cW .u64 l) ∧ Rw wr w.heap.size .u64 58 (zrs 96) ∧ Below w.heap.size w wr

def NwT (w wr : World) (g k : Nat) : Prop :=
  (∀ i, i < 80 → wr.cell? ⟨g, i, none⟩ = some (.int .u64 (PR.getD i 0 : Nat))) ∧ Rw wr w.heap.size .u64 58 (fillV tabV k 96) ∧ Below w.heap.size w wr

theorem tab_len : tabV.length = 96 := by simp [tabV]; decide
theorem pr_lt : ∀ k, PR.getD k 0 < 65536 := by
  intro k
  by_cases h : k < 80
  · have : ∀ k : Fin 80, PR.getD k.1 0 < 65536 := by decide
    exact this ⟨k, h⟩
  · rw [List.getD_eq_getElem?_getD, List.getElem?_eq_none (by show 80 ≤ k; omega)]; decide
theorem tab_true (k : Nat) (hk : k < 80) : tabV.getD k 0 = rootV true (PR.getD k 0) := by
  have h80 : PR.length = 80 := rfl
  simp only [tabV, List.getD_eq_getElem?_getD]
  rw [List.getElem?_append_left (by rw [List.length_map, h80]; exact hk), List.getElem?_map, List.getElem?_eq_getElem (by rw [h80]; exact hk)]
  rfl
theorem tab_false (k : Nat) (hk : k < 16) : tabV.getD (80 + k) 0 = rootV false (PR.getD k 0) := by
  have h80 : PR.length = 80 := rfl
  simp only [tabV, List.getD_eq_getElem?_getD]
  rw [List.getElem?_append_right (by rw [List.length_map, h80]; omega), List.length_map, h80, Nat.add_sub_cancel_left, List.getElem?_map, List.getElem?_take_of_lt hk, List.getElem?_eq_getElem (by rw [h80]; omega)]
  rfl
theorem NwT.put {w wr X : World} {g k : Nat} (h : NwT w wr g k) (hg : g ≠ w.heap.size) (o : Nat) (ho : o < 96) (U : Nat) (hU : tabV.getD o 0 = U) {u : Value} (hu : u = .int .u64 (U : Int) := by rfl) (hko : k = o := by rfl) (hq : Below (wr.setCell ⟨w.heap.size, o, none⟩ u).heap.size (wr.setCell ⟨w.heap.size, o, none⟩ u) X) : NwT w X g (o + 1) := by
  subst hko hu
  refine ⟨fun i hi => kept_cell (far_cell (h.1 i hi) hg) hq, ?_, ?_⟩
  · rw [← fill_step tabV k 96 ho tab_len U hU]
    exact (h.2.1.set k U).kept hq
  · exact (h.2.2.setCell (p := ⟨w.heap.size, k, none⟩) (Nat.le_refl _) _).trans (hq.mono (by rw [size_setCell]; exact h.2.2.size))

set_option maxHeartbeats 4000000 in
set_option maxRecDepth 100000 in
theorem new_any (w : World) :
    Calls Tryz.prog 9 #[] w fun e w' => e = .returned (.pointer (some ⟨w.heap.size, 0, none⟩)) ∧ Rw w' w.heap.size .u64 58 tabV ∧ Below w.heap.size w w' := by
  obtain ⟨i0, hi, hz0, hz1, hz2⟩ := info_parts infoU64
  go_enter Tryz.func9, Tryz.ntmps9
  go_wp2_with fail
  go_loopw [2, 3] (fun v2 v3 wr => ∃ (n p : Nat) (l : List Nat), p + n = 410 ∧ 2 ≤ p ∧ v3 = .int .u64 (p : Int) ∧ Hid (chkP n p l = true) ∧ Hid (NwR w wr v2 l)) (fun _ v3 _ => 410 - (intOf v3).toNat)
  case atStart => exact ⟨408, 2, [], rfl, by omega, rfl, chk_start, fun q hq => by simp at hq, World.ownsRow_nil _ _ _ _, Rw.laid rfl (by rfl), (Below.refl _ w).alloc (Nat.le_refl _) _⟩
  case round =>
    obtain ⟨n, p, l, hpn, hp2, rfl, HCK, HNW⟩ := hrel
    obtain ⟨va, vc, hva⟩ := own_len HNW.out.2.1
    subst hva
    cases n with
    | succ n =>
      have hck := HCK.out
      rw [chkP, Bool.and_eq_true, decide_eq_true_eq] at hck
      have hlen : (l.length : Int) < 80 := by omega
      have HCN := hid hck.2
      clear hck HCK
      go_wp2_with fail
      go_loopw [4, 5] (fun v4 v5 wq => ∃ (i : Nat) (b : Bool), i ≤ l.length ∧ v5 = .int .i64 i ∧ v4 = .bool b ∧ Hid (b = isPV p (l.take i)) ∧ wq = wr) (fun _ v5 _ => l.length - (intOf v5).toNat)
      case atStart => exact ⟨0, true, Nat.zero_le _, rfl, rfl, rfl, rfl⟩
      case round =>
        obtain ⟨i, b, hil, rfl, rfl, HB, rfl⟩ := hrel
        by_cases hlt : i < l.length
        · have hltI : (i : Int) < (l.length : Int) := by omega
          obtain ⟨g, cap, hv, hcell⟩ := own_at HNW.out.2.1 i hlt
          obtain ⟨rfl, _, rfl⟩ := Value.slice.inj hv
          obtain ⟨q, hq⟩ : ∃ q, q = l.getD i 0 := ⟨_, rfl⟩
          rw [← hq] at hcell
          have hqm : q ∈ l := by rw [hq]; simp [List.getD, hlt]
          have hq2 := HNW.out.1 q hqm
          have hqne : ((q : Int) == 0) = false := by simp; omega
          obtain ⟨m, hm⟩ : ∃ m, m = p % q := ⟨_, rfl⟩
          have hmI : (p : Int).tmod (q : Int) = (m : Int) := by rw [hm, Int.tmod_eq_emod_of_nonneg (by omega)]; exact (Int.natCast_emod p q).symm
          have hmI2 : (p : Int) % (q : Int) = (m : Int) := by rw [hm]; exact (Int.natCast_emod p q).symm
          have HBN := hid (show (b && (m != 0)) = isPV p (l.take (i + 1)) by
            have e : l.take (i + 1) = l.take i ++ [q] := by rw [List.take_add_one, hq]; simp [List.getD, hlt]
            rw [HB.out, e]
            unfold isPV
            rw [List.all_append, hm]
            simp)
          clear hq hqm hm hv
          cases b with
          | true =>
            have HBT := hid (show ((m : Int) != 0) = isPV p (l.take (i + 1)) by
              have := HBN.out
              rw [Bool.true_and] at this
              rw [← this, Bool.eq_iff_iff]
              simp)
            go_wp2_with fail
            exact ⟨⟨i + 1, (m : Int) != 0, by omega, by go_num, rfl, HBT.out, by first | rfl | trivial⟩, by simp [intOf]; omega⟩
          | false =>
            go_wp2_with fail
            go_roundw
            case rel =>
              first
                | exact ⟨i + 1, false, by omega, by go_num, rfl, by have := HBN.out; rw [Bool.false_and] at this; exact this, by first | rfl | trivial⟩
                | ((repeat apply Exists.intro); refine ⟨?_, rfl⟩; exact ⟨i + 1, false, by omega, by go_num, rfl, by have := HBN.out; rw [Bool.false_and] at this; exact this, by first | rfl | trivial⟩)
            case measure => simp [intOf]; omega
        · have hltI : ¬ ((i : Int) < (l.length : Int)) := by omega
          have HBF := hid (show b = isPV p l by rw [HB.out, List.take_of_length_le (by omega)])
          clear HB hlt hil
          cases b with
          | true =>
            have HCN2 := hid (show chkP n (p + 1) (l ++ [p]) = true by have := HCN.out; rw [if_pos HBF.out.symm] at this; exact this)
            have hl80 : l.length ≤ 80 := by omega
            have hne := own_other HNW.out.2.1 HNW.out.2.2.1 (by decide)
            clear HBF HCN
            go_wp2_with (at_builtin; refine wpList_append_own _ rfl _ _ 59 rfl w.heap.size 54 i0 (.int .u64 0) 1 8 Tryz.underlying59 hi hz0 hz1 hz2 rfl (by decide) _ _ _ rfl (own_kept HNW.out.2.1 ((Below.refl _ _).alloc (Nat.le_refl _) _)) ⟨wr.heap.size, 0, none⟩ 1 1 [.int .u64 (p : Int)] rfl rfl (cell_one_new _ _ _) (by simp [Value.oneCell']) (by unfold maxLen; omega) (by omega) (by have := HNW.out.2.2.2.size; simp; omega) ?_; intro v' w2 hown hgrow hnil)
            have HNW2 := hid (show NwR w w2 v' (l ++ [p]) by
              refine ⟨fun q hq => ?_, ?_, ?_, ?_⟩
              · rcases List.mem_append.1 hq with h | h
                · exact HNW.out.1 q h
                · rw [List.mem_singleton.1 h]; omega
              · have e : cW .u64 (l ++ [p]) = cW .u64 l ++ [.int .u64 (p : Int)] := by simp [cW]
                rw [e, List.length_append]
                exact hown
              · have h1 : Rw (wr.alloc (.cells #[.int .u64 (p : Int)] 54)) w.heap.size .u64 58 (zrs 96) := HNW.out.2.2.1.more _
                unfold Rw
                rw [hgrow.block w.heap.size h1.lt (fun e => hne e.symm)]
                exact h1
              · exact (HNW.out.2.2.2.alloc HNW.out.2.2.2.size _).grown hgrow (by have := HNW.out.2.2.2.size; simp; omega) (fun k hk => (HNW.out.2.1.lt k hk).1))
            clear hown hgrow hnil hne
            go_wp2_with fail
            go_roundw
            case rel =>
              first
                | exact ⟨n, p + 1, l ++ [p], by omega, by omega, by go_num, HCN2.out, HNW2.out⟩
                | ((repeat apply Exists.intro); refine ⟨?_, rfl⟩; exact ⟨n, p + 1, l ++ [p], by omega, by omega, by go_num, HCN2.out, HNW2.out⟩)
            case measure => simp [intOf]; omega
          | false =>
            have HCN2 := hid (show chkP n (p + 1) l = true by have := HCN.out; rw [if_neg (by rw [← HBF.out]; decide)] at this; exact this)
            clear HBF HCN
            go_wp2_with fail
            go_roundw
            case rel =>
              first
                | exact ⟨n, p + 1, l, by omega, by omega, by go_num, HCN2.out, HNW.out⟩
                | ((repeat apply Exists.intro); refine ⟨?_, rfl⟩; exact ⟨n, p + 1, l, by omega, by omega, by go_num, HCN2.out, HNW.out⟩)
            case measure => simp [intOf]; omega
    | zero =>
      obtain rfl : l = PR := by have := HCK.out; rw [chkP] at this; exact eq_of_beq this
      have hlen : ¬ ((PR.length : Int) < 80) := by decide
      obtain ⟨g, cap, hv, _⟩ := own_at HNW.out.2.1 0 (by decide)
      obtain ⟨rfl, _, rfl⟩ := Value.slice.inj hv
      have hgn : g ≠ w.heap.size := fun e => own_other HNW.out.2.1 HNW.out.2.2.1 (by decide) (by rw [e]; rfl)
      have HT0 := hid (show NwT w wr g 0 from ⟨fun i hi => by
        obtain ⟨g', cap', hv', hc'⟩ := own_at HNW.out.2.1 i (by exact hi)
        obtain ⟨e1, _, _⟩ := Value.slice.inj hv'
        injection e1 with e1
        injection e1 with e1
        rw [e1]
        exact hc', by rw [fill_zero]; exact HNW.out.2.2.1, HNW.out.2.2.2⟩)
      obtain ⟨LN, hLN⟩ : ∃ n, n = PR.length := ⟨_, rfl⟩
      have hLN80 : LN = 80 := by rw [hLN]; rfl
      rw [← hLN] at hlen ⊢
      clear HCK HNW hLN hv
      subst hLN80
      go_wp2_with fail
      go_loopw [6] (fun vi wq => ∃ k : Nat, k ≤ 80 ∧ vi = .int .i64 k ∧ Hid (NwT w wq g (k))) (fun vi _ => 80 - (intOf vi).toNat)
      case atStart => exact ⟨0, by omega, rfl, HT0.out⟩
      case round =>
        clear HT0
        obtain ⟨k, hk, rfl, HT⟩ := hrel
        by_cases hlt : k < 80
        · have hltI : (k : Int) < 80 := by omega
          obtain ⟨q, hq⟩ : ∃ q, q = PR.getD k 0 := ⟨_, rfl⟩
          have hqb : q < 65536 := by rw [hq]; exact pr_lt k
          have c0 : wr.cell? ⟨g, k, none⟩ = some (.int .u64 (q : Int)) := by rw [hq]; exact HT.out.1 k (by omega)
          obtain ⟨y, hy⟩ : ∃ y, y = (fillV tabV (k) 96).getD (k) 0 := ⟨_, rfl⟩
          have cs : wr.cell? ⟨w.heap.size, k, none⟩ = some (.int .u64 (y : Int)) := by rw [hy]; exact HT.out.2.1.cell (k) (by rw [fill_len _ _ _ (by omega) tab_len]; omega)
          have cf := HT.out.2.1.free (k)
          obtain ⟨U, hU⟩ : ∃ U, U = rootV true q := ⟨_, rfl⟩
          have HU := hid (show tabV.getD (k) 0 = U by rw [hU, hq]; exact tab_true k (by omega))
          have HCL := hid (fun X : World => (show Calls Tryz.prog 24 #[.int .u64 (q : Int), .bool true] X fun e w' => e = .returned (.int .u64 (U : Int)) ∧ Below X.heap.size X w' by rw [hU]; exact root_any true q X hqb))
          have hgk : (⟨w.heap.size, k, none⟩ : Addr) ≠ ⟨g, k, none⟩ := by intro h; exact hgn (congrArg Addr.block h).symm
          have HK1 := hid (fun (X Y : World) (hb : Below X.heap.size X Y) (h0 : But1 wr ⟨w.heap.size, k, none⟩ (.int .u64 (U : Int)) X) => (show (fun wx : World => But1 wr ⟨w.heap.size, k, none⟩ (.int .u64 (U : Int)) wx ∧ wx.cell? ⟨g, k, none⟩ = some (.int .u64 (q : Int))) Y from let h := h0.next hb; ⟨h, h.cell c0 hgk⟩))
          have HK2 := hid (fun (X : World) (h0 : But1 wr ⟨w.heap.size, k, none⟩ (.int .u64 (U : Int)) X) => (show (fun wx : World => But1 wr ⟨w.heap.size, k, none⟩ (.int .u64 (U : Int)) wx ∧ wx.cell? ⟨g, k, none⟩ = some (.int .u64 (q : Int))) (X.setCell ⟨w.heap.size, k, none⟩ (.int .u64 (U : Int))) from let h := h0.put; ⟨h, h.cell c0 hgk⟩))
          have HK0 := hid (show (fun wx : World => But1 wr ⟨w.heap.size, k, none⟩ (.int .u64 (U : Int)) wx ∧ wx.cell? ⟨g, k, none⟩ = some (.int .u64 (q : Int))) wr.drew from let h := But1.start wr _ _; ⟨h, h.cell c0 hgk⟩)
          clear hq hy hU hgk hqb
          go_wp2_with fail
          go_region_held (fun wx : World => But1 wr ⟨w.heap.size, k, none⟩ (.int .u64 (U : Int)) wx ∧ wx.cell? ⟨g, k, none⟩ = some (.int .u64 (q : Int)))
            (first | exact HK0.out | exact HK1.out _ _ (by assumption) (by (try dsimp only at *); go_split_ands; assumption) | exact HK2.out _ (by (try dsimp only at *); go_split_ands; assumption))
            (first | (go_at_call 24; refine (HCL.out _).mono ?_; rintro e wa ⟨rfl, hba⟩; obtain ⟨csa, cfa⟩ := kept_both (a := ⟨w.heap.size, k, none⟩) (v := .int .u64 (y : Int)) (by first | exact cs | assumption) (by first | exact cf | assumption) hba))
          all_goals
            go_wp2_with fail
            go_roundw
            case rel =>
              (try dsimp only at *)
              go_split_ands
              have hq := But1.fin (wr := wr) (by assumption)
              have e3 := HT.out.put hgn k (by omega) U HU.out rfl rfl hq
              first
                | exact ⟨k + 1, by omega, by go_num, e3⟩
                | ((repeat apply Exists.intro); refine ⟨?_, rfl⟩; exact ⟨k + 1, by omega, by go_num, e3⟩)
                | ((repeat apply Exists.intro); exact ⟨⟨k + 1, by omega, by go_num, e3⟩, rfl⟩)
            case measure => simp [intOf]; omega
        · obtain rfl : k = 80 := by omega
          clear hk hlt
          have hltI : ¬ ((80 : Int) < 80) := by omega
          go_wp2_with fail
          have HT1 := hid HT.out
          clear HT
          have HT0 := HT1
          clear HT1
          go_loopw [7] (fun vi wq => ∃ k : Nat, k ≤ 16 ∧ vi = .int .i64 k ∧ Hid (NwT w wq g (80 + k))) (fun vi _ => 16 - (intOf vi).toNat)
          case atStart => exact ⟨0, by omega, rfl, HT0.out⟩
          case round =>
            clear HT0
            obtain ⟨k, hk, rfl, HT⟩ := hrel
            by_cases hlt : k < 16
            · have hltI : (k : Int) < 16 := by omega
              obtain ⟨q, hq⟩ : ∃ q, q = PR.getD k 0 := ⟨_, rfl⟩
              have hqb : q < 65536 := by rw [hq]; exact pr_lt k
              have c0 : wr.cell? ⟨g, k, none⟩ = some (.int .u64 (q : Int)) := by rw [hq]; exact HT.out.1 k (by omega)
              obtain ⟨y, hy⟩ : ∃ y, y = (fillV tabV (80 + k) 96).getD (80 + k) 0 := ⟨_, rfl⟩
              have cs : wr.cell? ⟨w.heap.size, 80 + k, none⟩ = some (.int .u64 (y : Int)) := by rw [hy]; exact HT.out.2.1.cell (80 + k) (by rw [fill_len _ _ _ (by omega) tab_len]; omega)
              have cf := HT.out.2.1.free (80 + k)
              obtain ⟨U, hU⟩ : ∃ U, U = rootV false q := ⟨_, rfl⟩
              have HU := hid (show tabV.getD (80 + k) 0 = U by rw [hU, hq]; exact tab_false k (by omega))
              have HCL := hid (fun X : World => (show Calls Tryz.prog 24 #[.int .u64 (q : Int), .bool false] X fun e w' => e = .returned (.int .u64 (U : Int)) ∧ Below X.heap.size X w' by rw [hU]; exact root_any false q X hqb))
              have hgk : (⟨w.heap.size, 80 + k, none⟩ : Addr) ≠ ⟨g, k, none⟩ := by intro h; exact hgn (congrArg Addr.block h).symm
              have HK1 := hid (fun (X Y : World) (hb : Below X.heap.size X Y) (h0 : But1 wr ⟨w.heap.size, 80 + k, none⟩ (.int .u64 (U : Int)) X) => (show (fun wx : World => But1 wr ⟨w.heap.size, 80 + k, none⟩ (.int .u64 (U : Int)) wx ∧ wx.cell? ⟨g, k, none⟩ = some (.int .u64 (q : Int))) Y from let h := h0.next hb; ⟨h, h.cell c0 hgk⟩))
              have HK2 := hid (fun (X : World) (h0 : But1 wr ⟨w.heap.size, 80 + k, none⟩ (.int .u64 (U : Int)) X) => (show (fun wx : World => But1 wr ⟨w.heap.size, 80 + k, none⟩ (.int .u64 (U : Int)) wx ∧ wx.cell? ⟨g, k, none⟩ = some (.int .u64 (q : Int))) (X.setCell ⟨w.heap.size, 80 + k, none⟩ (.int .u64 (U : Int))) from let h := h0.put; ⟨h, h.cell c0 hgk⟩))
              have HK0 := hid (show (fun wx : World => But1 wr ⟨w.heap.size, 80 + k, none⟩ (.int .u64 (U : Int)) wx ∧ wx.cell? ⟨g, k, none⟩ = some (.int .u64 (q : Int))) wr.drew from let h := But1.start wr _ _; ⟨h, h.cell c0 hgk⟩)
              clear hq hy hU hgk hqb
              go_wp2_with fail
              go_region_held (fun wx : World => But1 wr ⟨w.heap.size, 80 + k, none⟩ (.int .u64 (U : Int)) wx ∧ wx.cell? ⟨g, k, none⟩ = some (.int .u64 (q : Int)))
                (first | exact HK0.out | exact HK1.out _ _ (by assumption) (by (try dsimp only at *); go_split_ands; assumption) | exact HK2.out _ (by (try dsimp only at *); go_split_ands; assumption))
                (first | (go_at_call 24; refine (HCL.out _).mono ?_; rintro e wa ⟨rfl, hba⟩; obtain ⟨csa, cfa⟩ := kept_both (a := ⟨w.heap.size, 80 + k, none⟩) (v := .int .u64 (y : Int)) (by first | exact cs | assumption) (by first | exact cf | assumption) hba))
              all_goals
                go_wp2_with fail
                go_roundw
                case rel =>
                  (try dsimp only at *)
                  go_split_ands
                  have hq := But1.fin (wr := wr) (by assumption)
                  have e3 := HT.out.put hgn (80 + k) (by omega) U HU.out rfl rfl hq
                  first
                    | exact ⟨k + 1, by omega, by go_num, e3⟩
                    | ((repeat apply Exists.intro); refine ⟨?_, rfl⟩; exact ⟨k + 1, by omega, by go_num, e3⟩)
                    | ((repeat apply Exists.intro); exact ⟨⟨k + 1, by omega, by go_num, e3⟩, rfl⟩)
                case measure => simp [intOf]; omega
            · obtain rfl : k = 16 := by omega
              clear hk hlt
              have hltI : ¬ ((16 : Int) < 16) := by omega
              go_wp2_with fail
              have hR := HT.out.2.1
              rw [fill_all tabV 96 tab_len] at hR
              exact bodyPost_ret (by first | rfl | kernel_rfl) rfl ⟨rfl, hR, HT.out.2.2⟩

end Go.Proofs.YtbdlicomkpnalaaGreatDoor
