/-
  The walk of ostiaryref8.New.
-/
import Derived.Test.YtbdlicomkpnalaaDoorZIe
import Derived.Deep.RegionHeld
import Derived.Laws.AppendOwn
set_option linter.unusedSimpArgs false
set_option linter.unusedVariables false
namespace Go.Proofs.YtbdlicomkpnalaaDoor
open Go.RowKit

theorem infoU64 : (Tryd.prog.info? 60).map (fun i => (i.zero, i.size, i.bytes)) = some (some (.int .u64 0), 1, 8) := by kernel_rfl

def isPV (p : Nat) (l : List Nat) : Bool := l.all fun q => p % q != 0
def PR : List Nat := [2, 3, 5, 7, 11, 13, 17, 19, 23, 29, 31, 37, 41, 43, 47, 53, 59, 61, 67, 71, 73, 79, 83, 89, 97, 101, 103, 107, 109, 113, 127, 131, 137, 139, 149, 151, 157, 163, 167, 173, 179, 181, 191, 193, 197, 199, 211, 223, 227, 229, 233, 239, 241, 251, 257, 263, 269, 271, 277, 281, 283, 293, 307, 311, 313, 317, 331, 337, 347, 349, 353, 359, 367, 373, 379, 383, 389, 397, 401, 409]
/-- The search goes on while there are fewer than eighty, and ends with these. -/
def chkP : Nat → Nat → List Nat → Bool
  | 0, _, l => l == PR
  | n + 1, p, l => decide (l.length < 80) && chkP n (p + 1) (if isPV p l then l ++ [p] else l)
theorem chk_start : chkP 408 2 [] = true := by decide +kernel

def tabV : List Nat := PR.map (rootV true) ++ (PR.take 16).map (rootV false)
theorem tab_eq : tabV = cbr ++ sqr := by decide +kernel

theorem own_len {w : World} {B : Nat} {e : TypeId} {v : Value} {l : List Value} {n : Nat} (h : w.ownsRow B e 1 v n l) : ∃ a cap, v = .slice a n cap := by
  rcases h.2 with ⟨rfl, rfl⟩ | ⟨g, cap, cur, rfl, _⟩
  · exact ⟨_, _, rfl⟩
  · exact ⟨_, _, rfl⟩

theorem own_other {w : World} {B : Nat} {e f : TypeId} {size : Nat} {v : Value} {n : Nat} {xs : List Value} {p : Nat} {cs : Array Value} {fr : Nat × Nat} (h : w.ownsRow B e size v n xs) (hp : w.heap[p]? = some (.cells cs f fr)) (hne : f ≠ e) : v.ownBlock ≠ some p := by
  intro hg
  rcases h.2 with ⟨rfl, _⟩ | ⟨g', cap, cur, rfl, hb, hgg, rest⟩
  · simp [Value.ownBlock] at hg
  · simp [Value.ownBlock] at hg
    subst hg
    rw [hp] at hgg
    injection hgg with hc
    injection hc with _ hc _
    exact hne hc

theorem own_at {w : World} {B : Nat} {e : TypeId} {v : Value} {l : List Nat} (h : w.ownsRow B e 1 v l.length (cW .u64 l)) (i : Nat) (hi : i < l.length) : ∃ g cap, v = .slice (some ⟨g, 0, none⟩) l.length cap ∧ w.cell? ⟨g, i, none⟩ = some (.int .u64 (l.getD i 0 : Nat)) := by
  rcases h.2 with ⟨rfl, h0⟩ | ⟨g, cap, cur, rfl, _⟩
  · omega
  · refine ⟨g, cap, rfl, ?_⟩
    have := h.cells (g := g) rfl i (.int .u64 (l.getD i 0 : Nat)) (by simp [cW, hi])
    simpa [Addr.add_lit] using this

/-- Behind some numbers of the search. -/
def NwR (w wr : World) (v : Value) (l : List Nat) : Prop :=
  (∀ q ∈ l, 2 ≤ q ∧ q < 65536) ∧ wr.ownsRow w.heap.size 60 1 v l.length (cW .u64 l) ∧ Rw wr w.heap.size .u64 64 (zrs 96) ∧ Below w.heap.size w wr

def NwT (w wr : World) (g k : Nat) : Prop :=
  (∀ i, i < 80 → wr.cell? ⟨g, i, none⟩ = some (.int .u64 (PR.getD i 0 : Nat))) ∧ Rw wr w.heap.size .u64 64 (fillV tabV k 96) ∧ Below w.heap.size w wr

theorem tab_len : tabV.length = 96 := by simp [tabV]; decide
theorem pr_lt : ∀ k, PR.getD k 0 < 65536 := by
  intro k
  by_cases h : k < 80
  · have : ∀ k : Fin 80, PR.getD k.1 0 < 65536 := by decide
    exact this ⟨k, h⟩
  · rw [List.getD_eq_getElem?_getD, List.getElem?_eq_none (by show 80 ≤ k; omega)]; decide
theorem tab_true (k : Nat) (hk : k < 80) : tabV.getD k 0 = rootV true (PR.getD k 0) := by
  have h80 : PR.length = 80 := rfl
  simp only [tabV, List.getD_eq_getElem?_getD]
  rw [List.getElem?_append_left (by rw [List.length_map, h80]; exact hk), List.getElem?_map, List.getElem?_eq_getElem (by rw [h80]; exact hk)]
  rfl
theorem tab_false (k : Nat) (hk : k < 16) : tabV.getD (80 + k) 0 = rootV false (PR.getD k 0) := by
  have h80 : PR.length = 80 := rfl
  simp only [tabV, List.getD_eq_getElem?_getD]
  rw [List.getElem?_append_right (by rw [List.length_map, h80]; omega), List.length_map, h80, Nat.add_sub_cancel_left, List.getElem?_map, List.getElem?_take_of_lt hk, List.getElem?_eq_getElem (by rw [h80]; omega)]
  rfl
theorem NwT.put {w wr X : World} {g k : Nat} (h : NwT w wr g k) (hg : g ≠ w.heap.size) (o : Nat) (ho : o < 96) (U : Nat) (hU : tabV.getD o 0 = U) {u : Value} (hu : u = .int .u64 (U : Int) := by rfl) (hko : k = o := by rfl) (hq : Below (wr.setCell ⟨w.heap.size, o, none⟩ u).heap.size (wr.setCell ⟨w.heap.size, o, none⟩ u) X) : NwT w X g (o + 1) := by
  subst hko hu
  refine ⟨fun i hi => kept_cell (far_cell (h.1 i hi) hg) hq, ?_, ?_⟩
  · rw [← fill_step tabV k 96 ho tab_len U hU]
    exact (h.2.1.set k U).kept hq
  · exact (h.2.2.setCell (p := ⟨w.heap.size, k, none⟩) (Nat.le_refl _) _).trans (hq.mono (by rw [size_setCell]; exact h.2.2.size))

set_option maxHeartbeats 4000000 in
set_option maxRecDepth 100000 in
theorem new_any (w : World) :
    Calls Tryd.prog 9 #[] w fun e w' => e = .returned (.pointer (some ⟨w.heap.size, 0, none⟩)) ∧ Rw w' w.heap.size .u64 64 tabV ∧ Below w.heap.size w w' := by
  obtain ⟨i0, hi, hz0, hz1, hz2⟩ := info_parts infoU64
  go_enter Tryd.func9, Tryd.ntmps9
  go_wp2_with fail
  go_loopw [2, 3] (fun v2 v3 wr => ∃ (n p : Nat) (l : List Nat), p + n = 410 ∧ 2 ≤ p ∧ v3 = .int .u64 (p : Int) ∧ Hid (chkP n p l = true) ∧ Hid (NwR w wr v2 l)) (fun _ v3 _ => 410 - (intOf v3).toNat)
  case atStart => exact ⟨408, 2, [], rfl, by omega, rfl, chk_start, fun q hq => by simp at hq, World.ownsRow_nil _ _ _ _, Rw.laid rfl (by rfl), (Below.refl _ w).alloc (Nat.le_refl _) _⟩
  case round =>
    obtain ⟨n, p, l, hpn, hp2, rfl, HCK, HNW⟩ := hrel
    obtain ⟨va, vc, hva⟩ := own_len HNW.out.2.1
    subst hva
    cases n with
    | succ n =>
      have hck := HCK.out
      rw [chkP, Bool.and_eq_true, decide_eq_true_eq] at hck
      have hlen : (l.length : Int) < 80 := by omega
      have HCN := hid hck.2
      clear hck HCK
      go_wp2_with fail
      go_loopw [4, 5] (fun v4 v5 wq => ∃ (i : Nat) (b : Bool), i ≤ l.length ∧ v5 = .int .i64 i ∧ v4 = .bool b ∧ Hid (b = isPV p (l.take i)) ∧ wq = wr) (fun _ v5 _ => l.length - (intOf v5).toNat)
      case atStart => exact ⟨0, true, Nat.zero_le _, rfl, rfl, rfl, rfl⟩
      case round =>
        obtain ⟨i, b, hil, rfl, rfl, HB, rfl⟩ := hrel
        by_cases hlt : i < l.length
        · have hltI : (i : Int) < (l.length : Int) := by omega
          obtain ⟨g, cap, hv, hcell⟩ := own_at HNW.out.2.1 i hlt
          obtain ⟨rfl, _, rfl⟩ := Value.slice.inj hv
          obtain ⟨q, hq⟩ : ∃ q, q = l.getD i 0 := ⟨_, rfl⟩
          rw [← hq] at hcell
          have hqm : q ∈ l := by rw [hq]; simp [List.getD, hlt]
          have hq2 := HNW.out.1 q hqm
          have hqne : ((q : Int) == 0) = false := by simp; omega
          obtain ⟨m, hm⟩ : ∃ m, m = p % q := ⟨_, rfl⟩
          have hmI : (p : Int).tmod (q : Int) = (m : Int) := by rw [hm, Int.tmod_eq_emod_of_nonneg (by omega)]; exact (Int.natCast_emod p q).symm
          have hmI2 : (p : Int) % (q : Int) = (m : Int) := by rw [hm]; exact (Int.natCast_emod p q).symm
          have HBN := hid (show (b && (m != 0)) = isPV p (l.take (i + 1)) by
            have e : l.take (i + 1) = l.take i ++ [q] := by rw [List.take_add_one, hq]; simp [List.getD, hlt]
            rw [HB.out, e]
            unfold isPV
            rw [List.all_append, hm]
            simp)
          clear hq hqm hm hv
          cases b with
          | true =>
            have HBT := hid (show ((m : Int) != 0) = isPV p (l.take (i + 1)) by
              have := HBN.out
              rw [Bool.true_and] at this
              rw [← this, Bool.eq_iff_iff]
              simp)
            go_wp2_with fail
            exact ⟨⟨i + 1, (m : Int) != 0, by omega, by go_num, rfl, HBT.out, by first | rfl | trivial⟩, by simp [intOf]; omega⟩
          | false =>
            go_wp2_with fail
            go_roundw
            case rel =>
              first
                | exact ⟨i + 1, false, by omega, by go_num, rfl, by have := HBN.out; rw [Bool.false_and] at this; exact this, by first | rfl | trivial⟩
                | ((repeat apply Exists.intro); refine ⟨?_, rfl⟩; exact ⟨i + 1, false, by omega, by go_num, rfl, by have := HBN.out; rw [Bool.false_and] at this; exact this, by first | rfl | trivial⟩)
            case measure => simp [intOf]; omega
        · have hltI : ¬ ((i : Int) < (l.length : Int)) := by omega
          have HBF := hid (show b = isPV p l by rw [HB.out, List.take_of_length_le (by omega)])
          clear HB hlt hil
          cases b with
          | true =>
            have HCN2 := hid (show chkP n (p + 1) (l ++ [p]) = true by have := HCN.out; rw [if_pos HBF.out.symm] at this; exact this)
            have hl80 : l.length ≤ 80 := by omega
            have hne := own_other HNW.out.2.1 HNW.out.2.2.1 (by decide)
            clear HBF HCN
            go_wp2_with (at_builtin; refine wpList_append_own _ rfl _ _ 65 rfl w.heap.size 60 i0 (.int .u64 0) 1 8 Tryd.underlying65 hi hz0 hz1 hz2 rfl (by decide) _ _ _ rfl (own_kept HNW.out.2.1 ((Below.refl _ _).alloc (Nat.le_refl _) _)) ⟨wr.heap.size, 0, none⟩ 1 1 [.int .u64 (p : Int)] rfl rfl (cell_one_new _ _ _) (by simp [Value.oneCell']) (by unfold maxLen; omega) (by omega) (by have := HNW.out.2.2.2.size; simp; omega) ?_; intro v' w2 hown hgrow hnil)
            have HNW2 := hid (show NwR w w2 v' (l ++ [p]) by
              refine ⟨fun q hq => ?_, ?_, ?_, ?_⟩
              · rcases List.mem_append.1 hq with h | h
                · exact HNW.out.1 q h
                · rw [List.mem_singleton.1 h]; omega
              · have e : cW .u64 (l ++ [p]) = cW .u64 l ++ [.int .u64 (p : Int)] := by simp [cW]
                rw [e, List.length_append]
                exact hown
              · have h1 : Rw (wr.alloc (.cells #[.int .u64 (p : Int)] 60)) w.heap.size .u64 64 (zrs 96) := HNW.out.2.2.1.more _
                unfold Rw
                rw [hgrow.block w.heap.size h1.lt (fun e => hne e.symm)]
                exact h1
              · exact (HNW.out.2.2.2.alloc HNW.out.2.2.2.size _).grown hgrow (by have := HNW.out.2.2.2.size; simp; omega) (fun k hk => (HNW.out.2.1.lt k hk).1))
            clear hown hgrow hnil hne
            go_wp2_with fail
            go_roundw
            case rel =>
              first
                | exact ⟨n, p + 1, l ++ [p], by omega, by omega, by go_num, HCN2.out, HNW2.out⟩
                | ((repeat apply Exists.intro); refine ⟨?_, rfl⟩; exact ⟨n, p + 1, l ++ [p], by omega, by omega, by go_num, HCN2.out, HNW2.out⟩)
            case measure => simp [intOf]; omega
          | false =>
            have HCN2 := hid (show chkP n (p + 1) l = true by have := HCN.out; rw [if_neg (by rw [← HBF.out]; decide)] at this; exact this)
            clear HBF HCN
            go_wp2_with fail
            go_roundw
            case rel =>
              first
                | exact ⟨n, p + 1, l, by omega, by omega, by go_num, HCN2.out, HNW.out⟩
                | ((repeat apply Exists.intro); refine ⟨?_, rfl⟩; exact ⟨n, p + 1, l, by omega, by omega, by go_num, HCN2.out, HNW.out⟩)
            case measure => simp [intOf]; omega
    | zero =>
      obtain rfl : l = PR := by have := HCK.out; rw [chkP] at this; exact eq_of_beq this
      have hlen : ¬ ((PR.length : Int) < 80) := by decide
      obtain ⟨g, cap, hv, _⟩ := own_at HNW.out.2.1 0 (by decide)
      obtain ⟨rfl, _, rfl⟩ := Value.slice.inj hv
      have hgn : g ≠ w.heap.size := fun e => own_other HNW.out.2.1 HNW.out.2.2.1 (by decide) (by rw [e]; rfl)
      have HT0 := hid (show NwT w wr g 0 from ⟨fun i hi => by
        obtain ⟨g', cap', hv', hc'⟩ := own_at HNW.out.2.1 i (by exact hi)
        obtain ⟨e1, _, _⟩ := Value.slice.inj hv'
        injection e1 with e1
        injection e1 with e1
        rw [e1]
        exact hc', by rw [fill_zero]; exact HNW.out.2.2.1, HNW.out.2.2.2⟩)
      obtain ⟨LN, hLN⟩ : ∃ n, n = PR.length := ⟨_, rfl⟩
      have hLN80 : LN = 80 := by rw [hLN]; rfl
      rw [← hLN] at hlen ⊢
      clear HCK HNW hLN hv
      subst hLN80
      go_wp2_with fail
      go_loopw [6] (fun vi wq => ∃ k : Nat, k ≤ 80 ∧ vi = .int .i64 k ∧ Hid (NwT w wq g (k))) (fun vi _ => 80 - (intOf vi).toNat)
      case atStart => exact ⟨0, by omega, rfl, HT0.out⟩
      case round =>
        clear HT0
        obtain ⟨k, hk, rfl, HT⟩ := hrel
        by_cases hlt : k < 80
        · have hltI : (k : Int) < 80 := by omega
          obtain ⟨q, hq⟩ : ∃ q, q = PR.getD k 0 := ⟨_, rfl⟩
          have hqb : q < 65536 := by rw [hq]; exact pr_lt k
          have c0 : wr.cell? ⟨g, k, none⟩ = some (.int .u64 (q : Int)) := by rw [hq]; exact HT.out.1 k (by omega)
          obtain ⟨y, hy⟩ : ∃ y, y = (fillV tabV (k) 96).getD (k) 0 := ⟨_, rfl⟩
          have cs : wr.cell? ⟨w.heap.size, k, none⟩ = some (.int .u64 (y : Int)) := by rw [hy]; exact HT.out.2.1.cell (k) (by rw [fill_len _ _ _ (by omega) tab_len]; omega)
          have cf := HT.out.2.1.free (k)
          obtain ⟨U, hU⟩ : ∃ U, U = rootV true q := ⟨_, rfl⟩
          have HU := hid (show tabV.getD (k) 0 = U by rw [hU, hq]; exact tab_true k (by omega))
          have HCL := hid (fun X : World => (show Calls Tryd.prog 30 #[.int .u64 (q : Int), .bool true] X fun e w' => e = .returned (.int .u64 (U : Int)) ∧ Below X.heap.size X w' by rw [hU]; exact root_any true q X hqb))
          have hgk : (⟨w.heap.size, k, none⟩ : Addr) ≠ ⟨g, k, none⟩ := by intro h; exact hgn (congrArg Addr.block h).symm
          have HK1 := hid (fun (X Y : World) (hb : Below X.heap.size X Y) (h0 : But1 wr ⟨w.heap.size, k, none⟩ (.int .u64 (U : Int)) X) => (show (fun wx : World => But1 wr ⟨w.heap.size, k, none⟩ (.int .u64 (U : Int)) wx ∧ wx.cell? ⟨g, k, none⟩ = some (.int .u64 (q : Int))) Y from let h := h0.next hb; ⟨h, h.cell c0 hgk⟩))
          have HK2 := hid (fun (X : World) (h0 : But1 wr ⟨w.heap.size, k, none⟩ (.int .u64 (U : Int)) X) => (show (fun wx : World => But1 wr ⟨w.heap.size, k, none⟩ (.int .u64 (U : Int)) wx ∧ wx.cell? ⟨g, k, none⟩ = some (.int .u64 (q : Int))) (X.setCell ⟨w.heap.size, k, none⟩ (.int .u64 (U : Int))) from let h := h0.put; ⟨h, h.cell c0 hgk⟩))
          have HK0 := hid (show (fun wx : World => But1 wr ⟨w.heap.size, k, none⟩ (.int .u64 (U : Int)) wx ∧ wx.cell? ⟨g, k, none⟩ = some (.int .u64 (q : Int))) wr.drew from let h := But1.start wr _ _; ⟨h, h.cell c0 hgk⟩)
          clear hq hy hU hgk hqb
          go_wp2_with fail
          go_region_held (fun wx : World => But1 wr ⟨w.heap.size, k, none⟩ (.int .u64 (U : Int)) wx ∧ wx.cell? ⟨g, k, none⟩ = some (.int .u64 (q : Int)))
            (first | exact HK0.out | exact HK1.out _ _ (by assumption) (by (try dsimp only at *); go_split_ands; assumption) | exact HK2.out _ (by (try dsimp only at *); go_split_ands; assumption))
            (first | (go_at_call 30; refine (HCL.out _).mono ?_; rintro e wa ⟨rfl, hba⟩; obtain ⟨csa, cfa⟩ := kept_both (a := ⟨w.heap.size, k, none⟩) (v := .int .u64 (y : Int)) (by first | exact cs | assumption) (by first | exact cf | assumption) hba))
          all_goals
            go_wp2_with fail
            go_roundw
            case rel =>
              (try dsimp only at *)
              go_split_ands
              have hq := But1.fin (wr := wr) (by assumption)
              have e3 := HT.out.put hgn k (by omega) U HU.out rfl rfl hq
              first
                | exact ⟨k + 1, by omega, by go_num, e3⟩
                | ((repeat apply Exists.intro); refine ⟨?_, rfl⟩; exact ⟨k + 1, by omega, by go_num, e3⟩)
                | ((repeat apply Exists.intro); exact ⟨⟨k + 1, by omega, by go_num, e3⟩, rfl⟩)
            case measure => simp [intOf]; omega
        · obtain rfl : k = 80 := by omega
          clear hk hlt
          have hltI : ¬ ((80 : Int) < 80) := by omega
          go_wp2_with fail
          have HT1 := hid HT.out
          clear HT
          have HT0 := HT1
          clear HT1
          go_loopw [7] (fun vi wq => ∃ k : Nat, k ≤ 16 ∧ vi = .int .i64 k ∧ Hid (NwT w wq g (80 + k))) (fun vi _ => 16 - (intOf vi).toNat)
          case atStart => exact ⟨0, by omega, rfl, HT0.out⟩
          case round =>
            clear HT0
            obtain ⟨k, hk, rfl, HT⟩ := hrel
            by_cases hlt : k < 16
            · have hltI : (k : Int) < 16 := by omega
              obtain ⟨q, hq⟩ : ∃ q, q = PR.getD k 0 := ⟨_, rfl⟩
              have hqb : q < 65536 := by rw [hq]; exact pr_lt k
              have c0 : wr.cell? ⟨g, k, none⟩ = some (.int .u64 (q : Int)) := by rw [hq]; exact HT.out.1 k (by omega)
              obtain ⟨y, hy⟩ : ∃ y, y = (fillV tabV (80 + k) 96).getD (80 + k) 0 := ⟨_, rfl⟩
              have cs : wr.cell? ⟨w.heap.size, 80 + k, none⟩ = some (.int .u64 (y : Int)) := by rw [hy]; exact HT.out.2.1.cell (80 + k) (by rw [fill_len _ _ _ (by omega) tab_len]; omega)
              have cf := HT.out.2.1.free (80 + k)
              obtain ⟨U, hU⟩ : ∃ U, U = rootV false q := ⟨_, rfl⟩
              have HU := hid (show tabV.getD (80 + k) 0 = U by rw [hU, hq]; exact tab_false k (by omega))
              have HCL := hid (fun X : World => (show Calls Tryd.prog 30 #[.int .u64 (q : Int), .bool false] X fun e w' => e = .returned (.int .u64 (U : Int)) ∧ Below X.heap.size X w' by rw [hU]; exact root_any false q X hqb))
              have hgk : (⟨w.heap.size, 80 + k, none⟩ : Addr) ≠ ⟨g, k, none⟩ := by intro h; exact hgn (congrArg Addr.block h).symm
              have HK1 := hid (fun (X Y : World) (hb : Below X.heap.size X Y) (h0 : But1 wr ⟨w.heap.size, 80 + k, none⟩ (.int .u64 (U : Int)) X) => (show (fun wx : World => But1 wr ⟨w.heap.size, 80 + k, none⟩ (.int .u64 (U : Int)) wx ∧ wx.cell? ⟨g, k, none⟩ = some (.int .u64 (q : Int))) Y from let h := h0.next hb; ⟨h, h.cell c0 hgk⟩))
              have HK2 := hid (fun (X : World) (h0 : But1 wr ⟨w.heap.size, 80 + k, none⟩ (.int .u64 (U : Int)) X) => (show (fun wx : World => But1 wr ⟨w.heap.size, 80 + k, none⟩ (.int .u64 (U : Int)) wx ∧ wx.cell? ⟨g, k, none⟩ = some (.int .u64 (q : Int))) (X.setCell ⟨w.heap.size, 80 + k, none⟩ (.int .u64 (U : Int))) from let h := h0.put; ⟨h, h.cell c0 hgk⟩))
              have HK0 := hid (show (fun wx : World => But1 wr ⟨w.heap.size, 80 + k, none⟩ (.int .u64 (U : Int)) wx ∧ wx.cell? ⟨g, k, none⟩ = some (.int .u64 (q : Int))) wr.drew from let h := But1.start wr _ _; ⟨h, h.cell c0 hgk⟩)
              clear hq hy hU hgk hqb
              go_wp2_with fail
              go_region_held (fun wx : World => But1 wr ⟨w.heap.size, 80 + k, none⟩ (.int .u64 (U : Int)) wx ∧ wx.cell? ⟨g, k, none⟩ = some (.int .u64 (q : Int)))
                (first | exact HK0.out | exact HK1.out _ _ (by assumption) (by (try dsimp only at *); go_split_ands; assumption) | exact HK2.out _ (by (try dsimp only at *); go_split_ands; assumption))
                (first | (go_at_call 30; refine (HCL.out _).mono ?_; rintro e wa ⟨rfl, hba⟩; obtain ⟨csa, cfa⟩ := kept_both (a := ⟨w.heap.size, 80 + k, none⟩) (v := .int .u64 (y : Int)) (by first | exact cs | assumption) (by first | exact cf | assumption) hba))
              all_goals
                go_wp2_with fail
                go_roundw
                case rel =>
                  (try dsimp only at *)
                  go_split_ands
                  have hq := But1.fin (wr := wr) (by assumption)
                  have e3 := HT.out.put hgn (80 + k) (by omega) U HU.out rfl rfl hq
                  first
                    | exact ⟨k + 1, by omega, by go_num, e3⟩
                    | ((repeat apply Exists.intro); refine ⟨?_, rfl⟩; exact ⟨k + 1, by omega, by go_num, e3⟩)
                    | ((repeat apply Exists.intro); exact ⟨⟨k + 1, by omega, by go_num, e3⟩, rfl⟩)
                case measure => simp [intOf]; omega
            · obtain rfl : k = 16 := by omega
              clear hk hlt
              have hltI : ¬ ((16 : Int) < 16) := by omega
              go_wp2_with fail
              have hR := HT.out.2.1
              rw [fill_all tabV 96 tab_len] at hR
              exact bodyPost_ret (by first | rfl | kernel_rfl) rfl ⟨rfl, hR, HT.out.2.2⟩

end Go.Proofs.YtbdlicomkpnalaaDoor
