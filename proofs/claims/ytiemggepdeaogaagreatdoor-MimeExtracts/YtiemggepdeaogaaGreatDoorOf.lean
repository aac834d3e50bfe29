/-
  The walks of the document's own answers: ostiaryref1's Trim (tight), ostiaryref5's Named, Get; plain facts of pieces.
  The walk of the document's own answer: ostiaryref5's Split.
  The walk of the document's own answer: ostiaryref6's charset.
  The walk of the document's own answer: ostiaryref6's Extract.
  The walk of the document's own answer: ostiaryref6's Blocked.
  The walk of ostiarykeep.FewHeaders, for chapter 6's law.
  The walk of the law MimeExtracts.
-/
import Derived.Test.YtiemggepdeaogaaGreatDoorNa
import Derived.Test.YtiemggepdeaogaaGreatDoorMr
import Derived.Test.YtiemggepdeaogaaGreatDoorNf
import Derived.Test.YtiemggepdeaogaaGreatDoorMl
import Derived.Test.YtiemggepdeaogaaGreatDoorMn
import Derived.Test.YtiemggepdeaogaaGreatDoorMv
import Derived.Test.YtiemggepdeaogaaGreatDoorXq
import Derived.Test.YtiemggepdeaogaaGreatDoorNh
import Derived.Test.YtiemggepdeaogaaGreatDoorMp
import Derived.Deep.RegionHeld
import Derived.Deep.RegionHeldLaw
import Derived.Deep.RegionLaw
import Derived.Deep.RegionWith
import Derived.RegionTactic
set_option linter.unusedSimpArgs false
set_option linter.unusedVariables false
namespace Go.Proofs.YtiemggepdeaogaaGreatDoor
open Go.RowKit

theorem belowA {w w' : World} (h : Below w.heap.size w w') (o : Obj) : Below w.heap.size w (w'.alloc o) := h.alloc h.size o
theorem bulkV_app (A B : List Hd) : bulkV (A ++ B) = bulkV A + bulkV B := by simp [bulkV]

set_option maxHeartbeats 400000 in
theorem ends_true (c : Int) (w : World) :
    Calls Tryz.prog 65 #[.int .u8 c, .bool true] w fun e w' => e = .returned (.bool (endT c)) ∧ w = w' := by
  go_enter Tryz.func65, Tryz.ntmps65
  go_wp2
  all_goals
    go_ret
    exact ⟨ret_bool (by simp [endT, *]), rfl⟩

def pT (c : UInt8) : Bool := endT c.toNat

set_option maxRecDepth 100000 in
theorem pT_contains (c : UInt8) : [(9 : UInt8), 32].contains c = pT c := by
  have := byte_all (p := fun c => [(9 : UInt8), 32].contains c == pT c) (by decide) c
  simpa using this

theorem trimB_strip (l : List UInt8) : trimB l = ((l.dropWhile pT).reverse.dropWhile pT).reverse := by
  rw [trim_comm]
  unfold trimB Lib.trimS Lib.trimLeftS Lib.trimRightS
  have : (fun c => [(9 : UInt8), 32].contains c) = pT := funext pT_contains
  rw [this]

set_option maxHeartbeats 2000000 in
theorem rtrimT_any (s : ByteArray) (w : World) (hs : s.size ≤ 9223372036854775807) :
    Calls Tryz.prog 37 #[.string s, .bool true] w fun e w' => e = .returned (.string ⟨(trimB s.data.toList).toArray⟩) ∧ w = w' := by
  have HV := hid (trimB_strip s.data.toList)
  go_enter Tryz.func37, Tryz.ntmps37
  go_wp2
  go_loop [0] (fun v => ∃ S : ByteArray, v = .string S ∧ S.size ≤ 9223372036854775807 ∧ S.data.toList.dropWhile pT = s.data.toList.dropWhile pT) (fun v => match v with | .string S => S.size | _ => 0)
  case atStart => exact ⟨s, rfl, hs, rfl⟩
  case round =>
    obtain ⟨S, rfl, hS, hd⟩ := hrel
    have HD := hid hd
    clear hd
    by_cases h0 : 0 < S.size
    · have h0' : (0 : Int) < (S.size : Int) := by omega
      have hx := ext_from1 S h0
      by_cases hp : endT (S[0].toNat : Int) = true
      · have h1 : (1 : Int) ≤ (S.size : Int) := by omega
        have HN := hid (show (S.extract 1 S.size).data.toList.dropWhile pT = s.data.toList.dropWhile pT by
          rw [← HD.out, hx, List.dropWhile_cons_of_pos (show pT S[0] = true from hp)])
        clear hx
        go_wp2_with (go_at_call 65; refine (ends_true _ _).mono ?_; rintro e w' ⟨rfl, rfl⟩)
        go_round
        case rel => exact ⟨S.extract 1 S.size, rfl, by simp; omega, HN.out⟩
        case measure => simp; omega
      · have hp' : endT (S[0].toNat : Int) = false := by simpa using hp
        have HN := hid (show S.data.toList = s.data.toList.dropWhile pT by
          rw [← HD.out, hx, List.dropWhile_cons_of_neg (show ¬ pT S[0] = true from hp), ← hx])
        clear hx hp
        have hSS : ∀ T : ByteArray, T.data.toList.reverse.dropWhile pT = S.data.toList.reverse.dropWhile pT → (T.data.toList = [] ∨ ∃ A c, T.data.toList = A ++ [c] ∧ pT c = false) → T = ⟨(trimB s.data.toList).toArray⟩ := fun T h1 h2 => by
          refine xext ?_
          rw [HV.out, ← HN.out, ← h1]
          rcases h2 with h2 | ⟨A, c, h2, hc⟩
          · rw [h2]; rfl
          · rw [h2, List.reverse_append, List.reverse_cons, List.reverse_nil, List.nil_append, List.singleton_append, List.dropWhile_cons_of_neg (by simp [hc]), List.reverse_cons, List.reverse_reverse]
        have HSS := hid hSS
        clear hSS
        go_wp2_with (go_at_call 65; refine (ends_true _ _).mono ?_; rintro e w' ⟨rfl, rfl⟩)
        go_loop [0] (fun v => ∃ T : ByteArray, v = .string T ∧ T.size ≤ 9223372036854775807 ∧ T.data.toList.reverse.dropWhile pT = S.data.toList.reverse.dropWhile pT) (fun v => match v with | .string T => T.size | _ => 0)
        case atStart => exact ⟨S, rfl, hS, rfl⟩
        case round =>
          obtain ⟨T, rfl, hT, hd⟩ := hrel
          have HD2 := hid hd
          clear hd
          by_cases t0 : 0 < T.size
          · have t0' : (0 : Int) < (T.size : Int) := by omega
            have ht1 : (T.size : Int) - 1 < (T.size : Int) := by omega
            have ht2 : (0 : Int) ≤ (T.size : Int) - 1 := by omega
            have ht3 : ((T.size : Int) - 1).toNat = T.size - 1 := by omega
            have ht4 : (T.size : Int) - 1 ≤ (T.size : Int) := by omega
            have hx := ext_to1 T t0
            by_cases hp : endT ((T[T.size - 1]'(by omega)).toNat : Int) = true
            · have HN2 := hid (show (T.extract 0 (T.size - 1)).data.toList.reverse.dropWhile pT = S.data.toList.reverse.dropWhile pT by
                rw [← HD2.out]
                conv => rhs; rw [hx, List.reverse_append, List.reverse_cons, List.reverse_nil, List.nil_append, List.singleton_append, List.dropWhile_cons_of_pos (show pT (T[T.size - 1]'(by omega)) = true from hp)])
              clear hx
              go_wp2_with (go_at_call 65; refine (ends_true _ _).mono ?_; rintro e w' ⟨rfl, rfl⟩)
              go_round
              case rel => exact ⟨T.extract 0 (T.size - 1), rfl, by simp; omega, HN2.out⟩
              case measure => simp; omega
            · have hp' : endT ((T[T.size - 1]'(by omega)).toNat : Int) = false := by simpa using hp
              have HF := hid (HSS.out T HD2.out (.inr ⟨_, _, hx, hp'⟩))
              clear hx hp
              go_wp2_with (go_at_call 65; refine (ends_true _ _).mono ?_; rintro e w' ⟨rfl, rfl⟩)
              go_ret
              rw [← HF.out]
              exact ⟨rfl, rfl⟩
          · have t0' : decide ((0 : Int) < (T.size : Int)) = false := by rw [decide_eq_false_iff_not]; omega
            have HF := hid (HSS.out T HD2.out (.inl (List.eq_nil_of_length_eq_zero (by have := Lib.size_eq T; omega))))
            go_wp2
            go_ret
            rw [← HF.out]
            exact ⟨rfl, rfl⟩
    · have h0' : decide ((0 : Int) < (S.size : Int)) = false := by rw [decide_eq_false_iff_not]; omega
      have hSn : S.data.toList = [] := List.eq_nil_of_length_eq_zero (by have := Lib.size_eq S; omega)
      have HN := hid (show S.data.toList = s.data.toList.dropWhile pT by rw [← HD.out, hSn]; rfl)
      clear hSn
      have hSS : ∀ T : ByteArray, T.data.toList.reverse.dropWhile pT = S.data.toList.reverse.dropWhile pT → (T.data.toList = [] ∨ ∃ A c, T.data.toList = A ++ [c] ∧ pT c = false) → T = ⟨(trimB s.data.toList).toArray⟩ := fun T h1 h2 => by
        refine xext ?_
        rw [HV.out, ← HN.out, ← h1]
        rcases h2 with h2 | ⟨A, c, h2, hc⟩
        · rw [h2]; rfl
        · rw [h2, List.reverse_append, List.reverse_cons, List.reverse_nil, List.nil_append, List.singleton_append, List.dropWhile_cons_of_neg (by simp [hc]), List.reverse_cons, List.reverse_reverse]
      have HSS := hid hSS
      clear hSS
      go_wp2
      go_loop [0] (fun v => ∃ T : ByteArray, v = .string T ∧ T.size ≤ 9223372036854775807 ∧ T.data.toList.reverse.dropWhile pT = S.data.toList.reverse.dropWhile pT) (fun v => match v with | .string T => T.size | _ => 0)
      case atStart => exact ⟨S, rfl, hS, rfl⟩
      case round =>
        obtain ⟨T, rfl, hT, hd⟩ := hrel
        have HD2 := hid hd
        clear hd
        by_cases t0 : 0 < T.size
        · have t0' : (0 : Int) < (T.size : Int) := by omega
          have ht1 : (T.size : Int) - 1 < (T.size : Int) := by omega
          have ht2 : (0 : Int) ≤ (T.size : Int) - 1 := by omega
          have ht3 : ((T.size : Int) - 1).toNat = T.size - 1 := by omega
          have ht4 : (T.size : Int) - 1 ≤ (T.size : Int) := by omega
          have hx := ext_to1 T t0
          by_cases hp : endT ((T[T.size - 1]'(by omega)).toNat : Int) = true
          · have HN2 := hid (show (T.extract 0 (T.size - 1)).data.toList.reverse.dropWhile pT = S.data.toList.reverse.dropWhile pT by
              rw [← HD2.out]
              conv => rhs; rw [hx, List.reverse_append, List.reverse_cons, List.reverse_nil, List.nil_append, List.singleton_append, List.dropWhile_cons_of_pos (show pT (T[T.size - 1]'(by omega)) = true from hp)])
            clear hx
            go_wp2_with (go_at_call 65; refine (ends_true _ _).mono ?_; rintro e w' ⟨rfl, rfl⟩)
            go_round
            case rel => exact ⟨T.extract 0 (T.size - 1), rfl, by simp; omega, HN2.out⟩
            case measure => simp; omega
          · have hp' : endT ((T[T.size - 1]'(by omega)).toNat : Int) = false := by simpa using hp
            have HF := hid (HSS.out T HD2.out (.inr ⟨_, _, hx, hp'⟩))
            clear hx hp
            go_wp2_with (go_at_call 65; refine (ends_true _ _).mono ?_; rintro e w' ⟨rfl, rfl⟩)
            go_ret
            rw [← HF.out]
            exact ⟨rfl, rfl⟩
        · have t0' : decide ((0 : Int) < (T.size : Int)) = false := by rw [decide_eq_false_iff_not]; omega
          have HF := hid (HSS.out T HD2.out (.inl (List.eq_nil_of_length_eq_zero (by have := Lib.size_eq T; omega))))
          go_wp2
          go_ret
          rw [← HF.out]
          exact ⟨rfl, rfl⟩


set_option maxHeartbeats 1000000 in
theorem named_any (a b o : ByteArray) (w : World) (ha : a.size ≤ 140737488351232) (ho : o.size ≤ 140737488351232) :
    Calls Tryz.prog 64 #[hdVal a b, .string o] w fun e w' => e = .returned (.bool (decide (low a.data.toList = low o.data.toList))) ∧ Below w.heap.size w w' := by
  obtain ⟨A, hA⟩ : ∃ x : ByteArray, x = ⟨(low a.data.toList).toArray⟩ := ⟨_, rfl⟩
  obtain ⟨B, hB⟩ : ∃ x : ByteArray, x = ⟨(low o.data.toList).toArray⟩ := ⟨_, rfl⟩
  have HE := hid (show decide (low a.data.toList = low o.data.toList) = decide (A = B) by
    rw [hA, hB]
    rw [decide_eq_decide]
    constructor
    · intro e; rw [e]
    · intro e
      have := congrArg (fun x : ByteArray => x.data.toList) e
      exact this)
  have HA := hid hA
  have HB := hid hB
  clear hA hB
  unfold hdVal
  by_cases hab : A = B
  · have HE2 := hid (show decide (low a.data.toList = low o.data.toList) = true by rw [HE.out]; simpa using hab)
    subst hab
    go_enter Tryz.func64, Tryz.ntmps64
    go_wp2_with fail
    refine (rlower_any a _ ha).mono ?_
    rintro e w1 ⟨rfl, hb1⟩
    rw [← HA.out]
    go_wp2_with fail
    refine (rlower_any o _ ho).mono ?_
    rintro e w2 ⟨rfl, hb2⟩
    rw [← HB.out]
    go_wp2
    go_ret
    exact ⟨ret_bool (by rw [HE2.out]), belowT (belowT (belowA (Below.refl _ _) _) hb1) hb2⟩
  · have HE2 := hid (show decide (low a.data.toList = low o.data.toList) = false by rw [HE.out]; simpa using hab)
    have hne := strNe hab
    clear hab
    go_enter Tryz.func64, Tryz.ntmps64
    go_wp2_with fail
    refine (rlower_any a _ ha).mono ?_
    rintro e w1 ⟨rfl, hb1⟩
    rw [← HA.out]
    go_wp2_with fail
    refine (rlower_any o _ ho).mono ?_
    rintro e w2 ⟨rfl, hb2⟩
    rw [← HB.out]
    go_wp2
    go_ret
    exact ⟨ret_bool (by rw [HE2.out]), belowT (belowT (belowA (Below.refl _ _) _) hb1) hb2⟩

theorem getB_snoc (L : List Hd) (h : Hd) (n : List UInt8) : getB (L ++ [h]) n = (getB L n || isN n h) := by
  unfold getB
  rw [selV_snoc]
  cases hh : isN n h <;> cases hs : selV L n <;> simp

/-- One more header, got. -/
theorem getT_snoc (L : List Hd) (h : Hd) (n : List UInt8) : getT (L ++ [h]) n = if isN n h then (if getB L n then getT L n ++ [44, 32] ++ h.value else getT L n ++ h.value) else getT L n := by
  unfold getT getB
  rw [selV_snoc]
  cases hh : isN n h with
  | false => simp
  | true =>
    cases hs : selV L n with
    | nil => simp [Lib.join, List.intercalate]
    | cons a A =>
      rw [if_pos rfl, join6_snoc _ _ _ (by simp)]
      simp

/-- The piece at hand began at f, i is looked at, q: in quotes. -/
def SpI (s : List UInt8) (f i : Nat) (q : Bool) : Prop := f ≤ i ∧ i ≤ s.length ∧ cutQ false (s.drop f) = (cutQ q (s.drop i)).map (· + (i - f))

theorem SpI.start (s : List UInt8) (f : Nat) (h : f ≤ s.length) : SpI s f f false := ⟨Nat.le_refl _, h, by simp⟩

theorem SpI.last {s : List UInt8} {f : Nat} {q : Bool} (h : SpI s f s.length q) : pcs (s.drop f) = [s.drop f] := by
  obtain ⟨_, _, h3⟩ := h
  rw [List.drop_length] at h3
  refine pcs_none _ (h3.trans ?_)
  cases q <;> simp [cutQ]

theorem SpI.comma {s : List UInt8} {f i : Nat} (h : SpI s f i false) (hi : i < s.length) (hc : s[i] = 44) : pcs (s.drop f) = (s.drop f).take (i - f) :: pcs (s.drop (i + 1)) := by
  obtain ⟨h1, _, h3⟩ := h
  rw [List.drop_eq_getElem_cons hi, hc, cutQ_comma] at h3
  rw [pcs_some _ (i - f) (by rw [h3]; simp), List.drop_drop, show f + (i - f + 1) = i + 1 by omega]

theorem map_add {o : Option Nat} {a b c : Nat} (h : a + b = c) : (o.map (· + a)).map (· + b) = o.map (· + c) := by rw [map_map_add, h]

theorem SpI.step {s : List UInt8} {f i d : Nat} {q r : Bool} (h : SpI s f i q) (hd : i + d ≤ s.length) (hc : cutQ q (s.drop i) = (cutQ r (s.drop (i + d))).map (· + d)) : SpI s f (i + d) r := by
  obtain ⟨h1, h2, h3⟩ := h
  refine ⟨by omega, hd, ?_⟩
  rw [h3, hc]
  exact map_add (by omega)

theorem SpI.back {s : List UInt8} {f i : Nat} (h : SpI s f i true) (hi : i + 1 < s.length) (hc : s[i] = 92) : SpI s f (i + 2) true := by
  refine h.step (by omega) ?_
  rw [List.drop_eq_getElem_cons (show i < s.length by omega), hc, cutQ_back, List.drop_drop]

theorem SpI.back_last {s : List UInt8} {f i : Nat} (h : SpI s f i true) (hi : i + 1 = s.length) (hc : s[i] = 92) : SpI s f (i + 1) true := by
  refine h.step (by omega) ?_
  rw [List.drop_eq_getElem_cons (show i < s.length by omega), hc, List.drop_eq_nil_of_le (show s.length ≤ i + 1 by omega)]
  rfl

theorem SpI.quote {s : List UInt8} {f i : Nat} {q : Bool} (h : SpI s f i q) (hi : i < s.length) (hc : s[i] = 34) : SpI s f (i + 1) (!q) := by
  refine h.step (by omega) ?_
  rw [List.drop_eq_getElem_cons hi, hc]
  cases q
  · exact cutQ_open _
  · exact cutQ_close _

theorem SpI.other {s : List UInt8} {f i : Nat} {q : Bool} (h : SpI s f i q) (hi : i < s.length) (h1 : s[i] ≠ 34) (h2 : q = false → s[i] ≠ 44) (h3 : q = true → s[i] ≠ 92) : SpI s f (i + 1) q := by
  refine h.step (by omega) ?_
  rw [List.drop_eq_getElem_cons hi]
  cases q
  · exact cutQ_other _ _ (h2 rfl) h1
  · exact cutQ_in _ _ h1 (h3 rfl)


set_option maxHeartbeats 2000000 in
set_option maxRecDepth 100000 in
theorem rget_any (v : Value) (L : List Hd) (n : ByteArray) (w : World) (h : HdAt w v L) (hs : n.size ≤ 140737488351232) (hz : Szd 140737488351232 L) (hl : L.length ≤ 1000000) (hb : bulkV L ≤ 140737488355328) :
    Calls Tryz.prog 36 #[v, .string n] w fun e w' => e = .returned (.tuple #[.string ⟨(getT L n.data.toList).toArray⟩, .bool (getB L n.data.toList)]) ∧ Below w.heap.size w w' := by
  obtain ⟨a1, c1, rfl, hc1, hm1, hv1⟩ := h.view
  have V1 := hid hv1
  have HZ := hid hz
  have HB := hid hb
  clear h hv1 hz hb
  go_enter Tryz.func36, Tryz.ntmps36
  go_wp2
  go_loopw [6, 7, 8] (fun sv bv i wr => ∃ k : Nat, k ≤ L.length ∧ i = .int .i64 k ∧ sv = .string ⟨(getT (L.take k) n.data.toList).toArray⟩ ∧ bv = .bool (getB (L.take k) n.data.toList) ∧ Below w.heap.size w wr)
    (fun _ _ i _ => L.length - (intOf i).toNat)
  case atStart => exact ⟨0, Nat.zero_le _, rfl, rfl, rfl, Below.refl _ _⟩
  case round =>
    obtain ⟨k, hk, rfl, rfl, rfl, hbw⟩ := hrel
    obtain ⟨S, hS⟩ : ∃ x : ByteArray, x = ⟨(getT (L.take k) n.data.toList).toArray⟩ := ⟨_, rfl⟩
    obtain ⟨b, hB⟩ : ∃ x, x = getB (L.take k) n.data.toList := ⟨_, rfl⟩
    have hSs : S.size ≤ 140737488355328 := by
      rw [hS, xsize]
      refine Nat.le_trans (getT_len _ _) (Nat.le_trans ?_ HB.out)
      have := bulkV_app (L.take k) (L.drop k)
      rw [List.take_append_drop] at this
      omega
    rw [← hS, ← hB]
    have HS := hid hS
    have HBb := hid hB
    clear hS hB
    by_cases hlt : k < L.length
    · have hlt' : (k : Int) < (L.length : Int) := by omega
      obtain ⟨b1, o1, rfl, e1, e2⟩ := V1.out k hlt
      have hblk : b1 < w.heap.size := World.block_lt_of_cell? w _ e1
      obtain ⟨nm, hnm⟩ : ∃ x : ByteArray, x = ⟨L[k].name.toArray⟩ := ⟨_, rfl⟩
      obtain ⟨vl, hvl⟩ : ∃ x : ByteArray, x = ⟨L[k].value.toArray⟩ := ⟨_, rfl⟩
      rw [← hnm] at e1
      rw [← hvl] at e2
      have f1 : wr.cell? ⟨b1, o1 + k * 2, none⟩ = some (.string nm) := (hbw.cell hblk).trans e1
      have f2 : wr.cell? ⟨b1, o1 + k * 2 + 1, none⟩ = some (.string vl) := (hbw.cell hblk).trans e2
      have hsz : nm.size ≤ 140737488351232 := by rw [hnm, xsize]; exact (HZ.out _ (List.getElem_mem hlt)).1
      have hvz : vl.size ≤ 140737488351232 := by rw [hvl, xsize]; exact (HZ.out _ (List.getElem_mem hlt)).2
      have HT := hid (show L.take (k + 1) = L.take k ++ [L[k]] by rw [List.take_add_one, List.getElem?_eq_getElem hlt]; rfl)
      have HV := hid (show vl.data.toList = L[k].value by rw [hvl])
      have HD := hid (show isN n.data.toList L[k] = decide (low nm.data.toList = low n.data.toList) by rw [isN, hnm]; simp [Bool.beq_eq_decide_eq])
      have HNm : Hid (∀ X : World, Calls Tryz.prog 64 #[.agg #[.string nm, .string vl], .string n] X fun e w' => e = .returned (.bool (decide (low nm.data.toList = low n.data.toList))) ∧ Below X.heap.size X w') := hid (fun X => named_any nm vl n X hsz hs)
      obtain ⟨c, hc⟩ : ∃ c, c = decide (low nm.data.toList = low n.data.toList) := ⟨_, rfl⟩
      rw [← hc] at HNm HD
      clear hnm hvl hc
      go_wp2_with fail
      refine (HNm.out _).mono ?_
      rintro e w1 ⟨rfl, hb1⟩
      have hbw1 : Below w.heap.size w w1 := hbw.trans (hb1.mono hbw.size)
      have g2 : w1.cell? ⟨b1, o1 + k * 2 + 1, none⟩ = some (.string vl) := (hbw1.cell hblk).trans e2
      clear e1 e2 f1 f2 hb1
      cases c with
      | false =>
        have HS2 := hid (show S = ⟨(getT (L.take (k + 1)) n.data.toList).toArray⟩ ∧ b = getB (L.take (k + 1)) n.data.toList by
          rw [HT.out, getT_snoc, getB_snoc, HD.out, HS.out, HBb.out]; simp)
        go_wp2
        go_roundw
        case rel => exact ⟨k + 1, by omega, by go_num, by rw [← HS2.out.1], by rw [← HS2.out.2], hbw1⟩
        case measure => simp [intOf]; omega
      | true =>
        cases b with
        | false =>
          have HS2 := hid (show S ++ vl = ⟨(getT (L.take (k + 1)) n.data.toList).toArray⟩ ∧ true = getB (L.take (k + 1)) n.data.toList by
            rw [HT.out, getT_snoc, getB_snoc, HD.out, ← HBb.out]
            refine ⟨xext ?_, rfl⟩
            rw [if_pos rfl, if_neg (by simp), HS.out]
            simp [HV.out])
          go_wp2
          go_roundw
          case rel => exact ⟨k + 1, by omega, by go_num, by rw [← HS2.out.1], by rw [← HS2.out.2], hbw1⟩
          case measure => simp [intOf]; omega
        | true =>
          have HS2 := hid (show S ++ ⟨#[44, 32]⟩ ++ vl = ⟨(getT (L.take (k + 1)) n.data.toList).toArray⟩ ∧ true = getB (L.take (k + 1)) n.data.toList by
            rw [HT.out, getT_snoc, getB_snoc, HD.out, ← HBb.out]
            refine ⟨xext ?_, rfl⟩
            rw [if_pos rfl, if_pos rfl, HS.out]
            simp [HV.out])
          go_wp2
          go_roundw
          case rel => exact ⟨k + 1, by omega, by go_num, by rw [← HS2.out.1], by rw [← HS2.out.2], hbw1⟩
          case measure => simp [intOf]; omega
    · have hke : k = L.length := by omega
      subst hke
      have HF := hid (show S = ⟨(getT L n.data.toList).toArray⟩ ∧ b = getB L n.data.toList by rw [HS.out, HBb.out, List.take_length]; exact ⟨rfl, rfl⟩)
      go_wp2
      go_ret2
      rw [← HF.out.1, ← HF.out.2]
      exact ⟨rfl, hbw⟩


end Go.Proofs.YtiemggepdeaogaaGreatDoor

namespace Go.Proofs.YtiemggepdeaogaaGreatDoor
open Go.RowKit

/-- What the loop of Split has told: the pieces out, the piece at hand began at f. -/
def SpR (T : List UInt8) (out : List (List UInt8)) (f : Nat) : Prop := f ≤ T.length ∧ out ++ (pcs (T.drop f)).map trimB = (pcs T).map trimB

theorem take_drop_ext (T : ByteArray) (f i : Nat) (h1 : f ≤ i) (h2 : i ≤ T.size) : (T.extract f i).data.toList = (T.data.toList.drop f).take (i - f) := by
  rw [Lib.extract_data]

def RsPost (L : List (List UInt8)) (b : Bool) (w : World) (e : Ending) (w' : World) : Prop :=
  ∃ v, e = .returned (.tuple #[v, .bool b]) ∧ w'.ownsRow w.heap.size 9 1 v L.length (cellsT L) ∧ Below w.heap.size w w'

set_option maxHeartbeats 8000000 in
set_option maxRecDepth 100000 in
theorem rsplit_any (v : Value) (L : List Hd) (n : ByteArray) (w : World) (h : HdAt w v L) (hs : n.size ≤ 140737488351232) (hz : Szd 140737488351232 L) (hl : L.length ≤ 1000000) (hb : bulkV L ≤ 100000000) :
    Calls Tryz.prog 16 #[v, .string n] w (RsPost (pcsV L n.data.toList) (getB L n.data.toList) w) := by
  obtain ⟨i0, hi, hz0, hz1, hz2⟩ := info3 infoTx
  have HG := hid (rget_any v L n w h hs hz hl (by omega))
  have hgl := getT_len L n.data.toList
  obtain ⟨T, hT⟩ : ∃ T : ByteArray, T = ⟨(getT L n.data.toList).toArray⟩ := ⟨_, rfl⟩
  rw [← hT] at HG
  have hTs : T.size ≤ 100000000 := by rw [hT, xsize]; omega
  obtain ⟨i1, n1, c1, rfl⟩ : ∃ a n c, v = .slice a n c := by obtain ⟨a, c, e, _⟩ := h; exact ⟨a, _, c, e⟩
  cases hg : getB L n.data.toList with
  | false =>
    rw [hg] at HG
    have HV := hid (show pcsV L n.data.toList = [] by unfold pcsV; rw [hg]; rfl)
    clear hT hgl h hz hb hg
    go_enter Tryz.func16, Tryz.ntmps16
    go_wp2_with fail
    refine HG.out.mono ?_
    rintro e w0 ⟨rfl, hb0⟩
    go_wp2
    go_ret2
    unfold RsPost
    rw [HV.out]
    exact ⟨_, rfl, World.ownsRow_nil _ _ _ _, hb0⟩
  | true =>
    rw [hg] at HG
    have HV := hid (show pcsV L n.data.toList = (pcs T.data.toList).map trimB by unfold pcsV; rw [hg, hT]; rfl)
    clear hT hgl h hz hb hg
    go_enter Tryz.func16, Tryz.ntmps16
    go_wp2_with fail
    refine HG.out.mono ?_
    rintro e w0 ⟨rfl, hb0⟩
    go_wp2
    generalize hR : (pcs T.data.toList).map trimB = R at *
    go_loopw [8, 9, 10, 11] (fun vv fr qv iv wr => ∃ (k f : Nat) (q : Bool) (out : List (List UInt8)), iv = .int .i64 k ∧ fr = .int .i64 f ∧ qv = .bool q ∧ out.length ≤ k ∧ wr.ownsRow w.heap.size 9 1 vv out.length (cellsT out) ∧ Below w.heap.size w wr ∧ ((k ≤ T.size ∧ SpI T.data.toList f k q ∧ out ++ (pcs (T.data.toList.drop f)).map trimB = R) ∨ (k = T.size + 1 ∧ out = R)))
      (fun _ _ _ iv _ => T.size + 1 - (intOf iv).toNat)
    case atStart => exact ⟨0, 0, false, [], rfl, rfl, rfl, Nat.le_refl _, World.ownsRow_nil _ _ _ _, hb0, .inl ⟨Nat.zero_le _, SpI.start _ 0 (Nat.zero_le _), by rw [List.drop_zero]; exact hR⟩⟩
    case round =>
      obtain ⟨k, f, q, out, rfl, rfl, rfl, hol, hown, hbw, hst⟩ := hrel
      have HO := hid hown
      have HBw := hid hbw
      have hwr := hbw.size
      clear hown hbw
      rcases hst with ⟨hk, hsp, hout⟩ | ⟨hk, hout⟩
      · have hfk := hsp.1
        have HSp := hid hsp
        have HOu := hid hout
        clear hsp hout
        have hk' : (k : Int) ≤ (T.size : Int) := by omega
        have hf' : (f : Int) ≤ (k : Int) := by omega
        have hol' : out.length ≤ 100000000 := by omega
        by_cases hend : k = T.size
        · have hke : ((k : Int) == (T.size : Int)) = true := by rw [hend]; simp
          obtain ⟨X, hX⟩ : ∃ X, T.extract f k = X := ⟨_, rfl⟩
          have hXs : X.size ≤ 100000000 := by rw [← hX]; simp; omega
          have hXl : X.data.toList = T.data.toList.drop f := by
            rw [← hX, take_drop_ext T f k hfk (by omega), List.take_of_length_le (by simp; omega)]
          obtain ⟨P, hP⟩ : ∃ P : ByteArray, (⟨(trimB X.data.toList).toArray⟩ : ByteArray) = P := ⟨_, rfl⟩
          have HTr : Hid (∀ w : World, Calls Tryz.prog 37 #[.string X, .bool true] w fun e w' => e = .returned (.string P) ∧ w = w') := fun w => by
            rw [← hP]; exact rtrimT_any X w (by omega)
          have HN := hid (show out ++ [P.data.toList] = R by
            have hlast : pcs (T.data.toList.drop f) = [T.data.toList.drop f] := by
              have := HSp.out
              have e : k = T.data.toList.length := by rw [← Lib.size_eq]; exact hend
              rw [e] at this
              exact this.last
            rw [← HOu.out, hlast, ← hP, hXl]; rfl)
          have HXe := hid hX
          clear hX hXl hP
          go_wp2_with fail
          first | rw [HXe.out] | (rw [show T.extract f T.size = X by rw [← hend]; exact HXe.out])
          refine (HTr.out _).mono ?_
          rintro e w2 ⟨rfl, rfl⟩
          go_wp2_with (at_builtin; go_must (refine wpList_append_own _ rfl _ _ 40 rfl w.heap.size 9 i0 (.string ByteArray.empty) 1 16 Tryz.underlying40 hi hz0 hz1 hz2 rfl (by decide) _ _ _ rfl (HO.out.alloc _) ⟨wr.heap.size, 0, none⟩ 1 1 [.string P] rfl rfl ?c1a ?c2a ?c3a ?c4a ?c5a ?_))
          case c1a =>
            intro q u hq
            match q, hq with
            | 0, hq => simp at hq; subst hq; simp [Addr.add]
          case c2a => intro u hu; simp at hu; subst hu; rfl
          case c3a => unfold maxLen; omega
          case c4a => omega
          case c5a => simp; omega
          intro v' w3 hown' hgrow hnil
          have HO3 := hid hown'
          have HB3 := hid (show Below w.heap.size w w3 from (HBw.out.alloc HBw.out.size _).grown hgrow (by have := HBw.out.size; simp; omega) (fun g hg => (HO.out.lt g hg).1))
          clear hown' hgrow hnil
          go_wp2
          go_roundw
          case rel =>
            refine ⟨k + 1, k + 1, q, out ++ [P.data.toList], by go_num, by go_num, rfl, by simp; omega, ?_, HB3.out, .inr ⟨by omega, HN.out⟩⟩
            rw [cellsT_app, cellsT_one, List.length_append]
            exact HO3.out
          case measure => simp [intOf]; omega
        · have hke : ((k : Int) == (T.size : Int)) = false := by rw [beq_eq_false_iff_ne]; omega
          have hlt : k < T.size := by omega
          have hlt' : (k : Int) < (T.size : Int) := by omega
          have hll : k < T.data.toList.length := by rw [← Lib.size_eq]; exact hlt
          have hTk : T.data.toList[k] = T[k] := rfl
          have hb := T[k].toNat_lt
          by_cases hcm : T[k] = 44 ∧ q = false
          · obtain ⟨h44, rfl⟩ := hcm
            have e44 : (T[k].toNat : Int) = 44 := by rw [h44]; rfl
            obtain ⟨X, hX⟩ : ∃ X, T.extract f k = X := ⟨_, rfl⟩
            have hXs : X.size ≤ 100000000 := by rw [← hX]; simp; omega
            have hXl : X.data.toList = (T.data.toList.drop f).take (k - f) := by rw [← hX, take_drop_ext T f k hfk (by omega)]
            obtain ⟨P, hP⟩ : ∃ P : ByteArray, (⟨(trimB X.data.toList).toArray⟩ : ByteArray) = P := ⟨_, rfl⟩
            have HTr : Hid (∀ w : World, Calls Tryz.prog 37 #[.string X, .bool true] w fun e w' => e = .returned (.string P) ∧ w = w') := fun w => by
              rw [← hP]; exact rtrimT_any X w (by omega)
            have HN := hid (show (out ++ [P.data.toList]) ++ (pcs (T.data.toList.drop (k + 1))).map trimB = R by
              have hc := HSp.out.comma hll (by rw [hTk]; exact h44)
              rw [← HOu.out, hc, ← hP, hXl]; simp)
            have HXe := hid hX
            clear hX hXl hP h44
            go_wp2_with fail
            rw [HXe.out]
            refine (HTr.out _).mono ?_
            rintro e w2 ⟨rfl, rfl⟩
            go_wp2_with (at_builtin; go_must (refine wpList_append_own _ rfl _ _ 40 rfl w.heap.size 9 i0 (.string ByteArray.empty) 1 16 Tryz.underlying40 hi hz0 hz1 hz2 rfl (by decide) _ _ _ rfl (HO.out.alloc _) ⟨wr.heap.size, 0, none⟩ 1 1 [.string P] rfl rfl ?c1b ?c2b ?c3b ?c4b ?c5b ?_))
            case c1b =>
              intro q u hq
              match q, hq with
              | 0, hq => simp at hq; subst hq; simp [Addr.add]
            case c2b => intro u hu; simp at hu; subst hu; rfl
            case c3b => unfold maxLen; omega
            case c4b => omega
            case c5b => simp; omega
            intro v' w3 hown' hgrow hnil
            have HO3 := hid hown'
            have HB3 := hid (show Below w.heap.size w w3 from (HBw.out.alloc HBw.out.size _).grown hgrow (by have := HBw.out.size; simp; omega) (fun g hg => (HO.out.lt g hg).1))
            clear hown' hgrow hnil
            go_wp2
            go_roundw
            case rel =>
              refine ⟨k + 1, k + 1, false, out ++ [P.data.toList], by go_num, by go_num, rfl, by simp; omega, ?_, HB3.out, .inl ⟨by omega, SpI.start _ _ (by rw [← Lib.size_eq]; omega), HN.out⟩⟩
              rw [cellsT_app, cellsT_one, List.length_append]
              exact HO3.out
            case measure => simp [intOf]; omega
          · by_cases hbs : T[k] = 92 ∧ q = true
            · obtain ⟨h92, rfl⟩ := hbs
              have e92 : (T[k].toNat : Int) = 92 := by rw [h92]; rfl
              by_cases h1 : k + 1 < T.size
              · have h1' : ¬ (T.size : Int) ≤ (k : Int) + 1 := by omega
                have HS2 := hid (HSp.out.back (by rw [← Lib.size_eq]; exact h1) (by rw [hTk]; exact h92))
                clear h92 hcm
                go_wp2
                go_roundw
                case rel => exact ⟨k + 2, f, true, out, by go_num, rfl, rfl, by omega, HO.out, HBw.out, .inl ⟨by omega, HS2.out, HOu.out⟩⟩
                case measure => simp [intOf]; omega
              · have h1' : (T.size : Int) ≤ (k : Int) + 1 := by omega
                have hks : (T.size : Int) - 1 = (k : Int) := by omega
                have HS2 := hid (HSp.out.back_last (by rw [← Lib.size_eq]; omega) (by rw [hTk]; exact h92))
                clear h92 hcm
                go_wp2
                go_roundw
                case rel => exact ⟨k + 1, f, true, out, by go_num, rfl, rfl, by omega, HO.out, HBw.out, .inl ⟨by omega, HS2.out, HOu.out⟩⟩
                case measure => simp [intOf]; omega
            · have hgo1 : (((T[k].toNat : Int) == 44) = false) ∨ (((T[k].toNat : Int) == 44) = true ∧ q = true) := by
                by_cases h : T[k] = 44
                · right; exact ⟨by rw [h]; rfl, by cases q with | true => rfl | false => exact absurd ⟨h, rfl⟩ hcm⟩
                · left; rw [beq_eq_false_iff_ne]; intro e; exact h (UInt8.toNat_inj.1 (by show T[k].toNat = 44; omega))
              have hgo2 : (((T[k].toNat : Int) == 92) = false) ∨ (((T[k].toNat : Int) == 92) = true ∧ q = false) := by
                by_cases h : T[k] = 92
                · right; exact ⟨by rw [h]; rfl, by cases q with | false => rfl | true => exact absurd ⟨h, rfl⟩ hbs⟩
                · left; rw [beq_eq_false_iff_ne]; intro e; exact h (UInt8.toNat_inj.1 (by show T[k].toNat = 92; omega))
              by_cases h34 : T[k] = 34
              · have e34 : (T[k].toNat : Int) = 34 := by rw [h34]; rfl
                have HS2 := hid (HSp.out.quote hll (by rw [hTk]; exact h34))
                clear h34 hcm hbs hgo1 hgo2
                go_wp2
                go_roundw
                case rel => exact ⟨k + 1, f, !q, out, by go_num, rfl, rfl, by omega, HO.out, HBw.out, .inl ⟨by omega, HS2.out, HOu.out⟩⟩
                case measure => simp [intOf]; omega
              · have e34 : ((T[k].toNat : Int) == 34) = false := by rw [beq_eq_false_iff_ne]; intro e; exact h34 (UInt8.toNat_inj.1 (by show T[k].toNat = 34; omega))
                have HS2 := hid (HSp.out.other hll (by rw [hTk]; exact h34) (fun hq => by rw [hTk]; intro e; exact hcm ⟨e, hq⟩) (fun hq => by rw [hTk]; intro e; exact hbs ⟨e, hq⟩))
                clear h34 hcm hbs
                rcases hgo1 with g1 | ⟨g1, rfl⟩
                all_goals
                  rcases hgo2 with g2 | ⟨g2, g3⟩
                all_goals try (subst g3)
                all_goals try (cases g3)
                all_goals
                  go_wp2
                  go_roundw
                  case rel => exact ⟨k + 1, f, _, out, by go_num, rfl, rfl, by omega, HO.out, HBw.out, .inl ⟨by omega, HS2.out, HOu.out⟩⟩
                  case measure => simp [intOf]; omega
      · have hk' : ¬ (k : Int) ≤ (T.size : Int) := by omega
        have HOu := hid hout
        clear hout
        go_wp2
        go_ret2
        unfold RsPost
        rw [HV.out, ← HOu.out]
        exact ⟨_, rfl, HO.out, HBw.out⟩

end Go.Proofs.YtiemggepdeaogaaGreatDoor

namespace Go.Proofs.YtiemggepdeaogaaGreatDoor
open Go.RowKit

/-- What the document's charset answers: the value of the first of that name. -/
def csW (ps : List Hd) : List UInt8 := ((ps.find? isCs).map Hd.value).getD []
def RcPost (ps : List Hd) (w : World) (e : Ending) (w' : World) : Prop :=
  e = .returned (.tuple #[.string (ba (csW ps)), .bool (ps.find? isCs).isSome]) ∧ Below w.heap.size w w'

set_option maxHeartbeats 4000000 in
set_option maxRecDepth 100000 in
theorem rcharset_any (a m : ByteArray) (v : Value) (ps : List Hd) (w : World) (h : HdAt w v ps) (hl : ps.length ≤ 1000000000) :
    Calls Tryz.prog 19 #[knVal a m v] w (RcPost ps w) := by
  obtain ⟨x1, c1, rfl, hc1, hm1, hv1⟩ := h.view
  have V1 := hid hv1
  clear h hv1
  obtain ⟨W, hW⟩ : ∃ W, w.alloc (.cells #[.string a, .string m, .slice x1 ps.length c1] 31) = W := ⟨_, rfl⟩
  have HB := hid (show Below w.heap.size w W by rw [← hW]; exact (Below.refl _ w).alloc (Nat.le_refl _) _)
  have HT := hid (show TriR W w.heap.size a m (.slice x1 ps.length c1) by rw [← hW]; exact heap_alloc_new _ _)
  obtain ⟨t0, t1, t2⟩ := HT.out.cells
  have HWe := hid hW
  clear hW
  unfold knVal
  go_enter Tryz.func19, Tryz.ntmps19
  go_wp2
  first | rw [HWe.out] | skip
  go_loop [4] (fun i => ∃ k : Nat, k ≤ ps.length ∧ i = .int .i64 k ∧ (ps.take k).find? isCs = none) (fun i => ps.length - (intOf i).toNat)
  case atStart => exact ⟨0, Nat.zero_le _, rfl, rfl⟩
  case round =>
    obtain ⟨k, hk, rfl, hnf⟩ := hrel
    have HN := hid hnf
    clear hnf
    by_cases hlt : k < ps.length
    · have hlt' : (k : Int) < (ps.length : Int) := by omega
      obtain ⟨b1, o1, rfl, e1, e2⟩ := V1.out k hlt
      have f1 : W.cell? ⟨b1, o1 + k * 2, none⟩ = some (.string ⟨ps[k].name.toArray⟩) := (HB.out.cell (World.block_lt_of_cell? w _ e1)).trans e1
      have f2 : W.cell? ⟨b1, o1 + k * 2 + 1, none⟩ = some (.string ⟨ps[k].value.toArray⟩) := (HB.out.cell (World.block_lt_of_cell? w _ e2)).trans e2
      clear e1 e2
      obtain ⟨nm, hnm⟩ : ∃ x : ByteArray, x = ⟨ps[k].name.toArray⟩ := ⟨_, rfl⟩
      obtain ⟨vl, hvl⟩ : ∃ x : ByteArray, x = ⟨ps[k].value.toArray⟩ := ⟨_, rfl⟩
      rw [← hnm] at f1
      rw [← hvl] at f2
      cases hc : isCs ps[k] with
      | true =>
        have hb : nm = ⟨#[99, 104, 97, 114, 115, 101, 116]⟩ := by
          rw [hnm]; unfold isCs at hc; exact xba (by simpa using hc)
        have HF := hid (find_hit ps k hlt HN.out hc)
        have HP := hid (show ba ps[k].value = vl from hvl.symm)
        clear hc hnm hvl
        subst hb
        go_wp2
        go_ret2
        refine ⟨?_, HB.out⟩
        unfold csW
        rw [HF.out]
        show _ = Ending.returned (.tuple #[.string (ba ps[k].value), .bool true])
        rw [HP.out]
        rfl
      | false =>
        have hb : (nm.toList == [99, 104, 97, 114, 115, 101, 116]) = false := by
          rw [Lib.toList_data, hnm]; exact hc
        have HF := hid (find_snoc_no ps k hlt HN.out hc)
        clear hc hnm hvl
        go_wp2
        go_round
        case rel => exact ⟨k + 1, by omega, by go_num, HF.out⟩
        case measure => simp [intOf]; omega
    · have hke : k = ps.length := by omega
      subst hke
      have HF := hid (show ps.find? isCs = none by have := HN.out; rwa [List.take_length] at this)
      go_wp2
      go_ret2
      refine ⟨?_, HB.out⟩
      unfold csW
      rw [HF.out]
      rfl

/-- The found parameter, told by its value. -/
theorem cs_found {ps : List Hd} {p : Hd} (h : ps.find? isCs = some p) : p = ⟨[99, 104, 97, 114, 115, 101, 116], csW ps⟩ := by
  have h1 : isCs p = true := List.find?_some h
  have h2 : csW ps = p.value := by unfold csW; rw [h]; rfl
  have h3 : p.name = [99, 104, 97, 114, 115, 101, 116] := by unfold isCs at h1; simpa using h1
  rw [h2, ← h3]

/-- withCharset as the document's Extract says it. -/
theorem withC_doc (t a : Kn) : withC t a = if ((t.params.find? isCs).isSome = false ∧ (a.params.find? isCs).isSome = true) ∧ essV t = essV a then { t with params := t.params ++ [⟨[99, 104, 97, 114, 115, 101, 116], csW a.params⟩] } else t := by
  by_cases h1 : (t.params.find? isCs).isSome = true
  · rw [withC_own t a h1, if_neg (by rw [h1]; rintro ⟨⟨e, _⟩, _⟩; cases e)]
  · have h1' : (t.params.find? isCs).isSome = false := by simpa using h1
    by_cases h2 : essV t = essV a
    · cases h3 : a.params.find? isCs with
      | none => rw [withC_none t a (by rw [h3]; rfl), if_neg (by rintro ⟨⟨_, e⟩, _⟩; cases e)]
      | some p => rw [withC_some t a p h1' h2 h3, if_pos ⟨⟨h1', rfl⟩, h2⟩, ← cs_found h3]
    · rw [withC_other t a h2, if_neg (fun h => h2 h.2)]

/-- While none was met, the last is empty. -/
theorem extK_unmet (ps : List (List UInt8)) (k : Nat) (hk : k ≤ ps.length) (h : (extK ps k).2 = false) : (extK ps k).1 = knNone := by
  induction k with
  | zero => rfl
  | succ k ih =>
    have hlt : k < ps.length := by omega
    rw [extK_succ ps k hlt] at h ⊢
    unfold extS at h ⊢
    split
    · next hc => rw [if_pos hc] at h; cases h
    · next hc => rw [if_neg hc] at h; exact ih (by omega) h

end Go.Proofs.YtiemggepdeaogaaGreatDoor

namespace Go.Proofs.YtiemggepdeaogaaGreatDoor
open Go.RowKit

def RxPost (st : Kn × Bool) (w : World) (e : Ending) (w' : World) : Prop :=
  ∃ v, e = .returned (.tuple #[knVal (ba st.1.major) (ba st.1.minor) v, .bool st.2]) ∧ w'.ownsRow w.heap.size 50 2 v st.1.params.length (cellsH st.1.params) ∧ Below w.heap.size w w'

theorem triR_own {w : World} {B n p : Nat} {v u : Value} {a m : ByteArray} {xs : List Value} (h : w.ownsRow B 9 1 v n xs) (ht : TriR w p a m u) : v.ownBlock ≠ some p := fun e => by
  rcases h.2 with ⟨hv, _⟩ | ⟨g, cap, cur, hv, _, hrow, _⟩
  · subst hv; cases e
  · subst hv
    cases e
    unfold TriR at ht
    rw [hrow] at ht
    simp at ht

theorem own_grow {w w' : World} {B n k : Nat} {e : TypeId} {v : Value} {xs : List Value} (h : w.ownsRow B e k v n xs) (hg : ∀ g, v.ownBlock = some g → w'.heap[g]? = w.heap[g]?) : w'.ownsRow B e k v n xs := by
  rcases h.2 with h' | ⟨g, cap, cur, hv, hb, hrow, rest⟩
  · exact ⟨h.1, .inl h'⟩
  · exact ⟨h.1, .inr ⟨g, cap, cur, hv, hb, (hg g (by rw [hv]; rfl)).trans hrow, rest⟩⟩

set_option maxHeartbeats 8000000 in
set_option maxRecDepth 100000 in
theorem rextract_any (v : Value) (L : List Hd) (w : World) (h : HdAt w v L) (hz : Szd 140737488351232 L) (hl : L.length ≤ 1000000) (hb : bulkV L ≤ 1000000) :
    Calls Tryz.prog 6 #[v] w (RxPost (extV (pcsV L [99, 111, 110, 116, 101, 110, 116, 45, 116, 121, 112, 101])) w) := by
  obtain ⟨i0, hi, hz0, hz1, hz2⟩ := info3 infoPr
  have hps := pcsV_le L [99, 111, 110, 116, 101, 110, 116, 45, 116, 121, 112, 101]
  have HSp := hid (fun (X : World) (hX : Below w.heap.size w X) => rsplit_any v L ⟨#[99, 111, 110, 116, 101, 110, 116, 45, 116, 121, 112, 101]⟩ X (h.kept hX) (by decide) hz hl (by omega))
  rw [show (⟨#[99, 111, 110, 116, 101, 110, 116, 45, 116, 121, 112, 101]⟩ : ByteArray).data.toList = [99, 111, 110, 116, 101, 110, 116, 45, 116, 121, 112, 101] from rfl] at HSp
  generalize getB L [99, 111, 110, 116, 101, 110, 116, 45, 116, 121, 112, 101] = gb at *
  generalize pcsV L [99, 111, 110, 116, 101, 110, 116, 45, 116, 121, 112, 101] = ps at *
  have HPs := hid (fun p hp => Nat.le_trans (hps p hp) hb)
  have HSm := hid (extK_small ps (fun p hp => Nat.le_trans (HPs.out p hp) (by decide)))
  have HEx := hid (extK_succ ps)
  have HUn := hid (extK_unmet ps)
  have HAl := hid (extK_all ps)
  obtain ⟨i1, n1, c1, rfl, _⟩ : ∃ a n c, v = .slice a n c ∧ True := by obtain ⟨a, c, e, _⟩ := h; exact ⟨a, _, c, e, trivial⟩
  clear h hz hl hb hps
  have H0 := hid (show TriR (w.alloc (.cells #[.string ⟨#[]⟩, .string ⟨#[]⟩, .slice none 0 0] 31)) w.heap.size ⟨#[]⟩ ⟨#[]⟩ (.slice none 0 0) from heap_alloc_new _ _)
  have HB0 := hid (show Below w.heap.size w (w.alloc (.cells #[.string ⟨#[]⟩, .string ⟨#[]⟩, .slice none 0 0] 31)) from (Below.refl _ w).alloc (Nat.le_refl _) _)
  have HS0 := hid (show w.heap.size + 1 ≤ (w.alloc (.cells #[.string ⟨#[]⟩, .string ⟨#[]⟩, .slice none 0 0] 31)).heap.size by simp)
  go_enter Tryz.func6, Tryz.ntmps6
  go_wp2_with fail
  generalize w.alloc (.cells #[.string ⟨#[]⟩, .string ⟨#[]⟩, .slice none 0 0] 31) = W at *
  refine (HSp.out W HB0.out).mono ?_
  rintro e w1 ⟨pv, rfl, ho1, hb1⟩
  obtain ⟨x1, c2, rfl, hc2, hm2, _⟩ := (own_txt' ho1).view
  have HO1 := hid (ho1.alloc (.cells #[.string ⟨#[]⟩, .string ⟨#[]⟩, .slice none 0 0] 31))
  have HT0 := hid ((H0.out.kept hb1).kept ((Below.refl _ w1).alloc (Nat.le_refl _) (.cells #[.string ⟨#[]⟩, .string ⟨#[]⟩, .slice none 0 0] 31)))
  have HT1 := hid (show TriR (w1.alloc (.cells #[.string ⟨#[]⟩, .string ⟨#[]⟩, .slice none 0 0] 31)) w1.heap.size ⟨#[]⟩ ⟨#[]⟩ (.slice none 0 0) from heap_alloc_new _ _)
  have hB1 := belowT HB0.out hb1
  have HB1 := hid (hB1.alloc hB1.size (.cells #[.string ⟨#[]⟩, .string ⟨#[]⟩, .slice none 0 0] 31))
  have hs1 : w.heap.size + 1 ≤ w1.heap.size := by have := hb1.size; have := HS0.out; omega
  have Hs2 := hid (show w1.heap.size + 1 ≤ (w1.alloc (.cells #[.string ⟨#[]⟩, .string ⟨#[]⟩, .slice none 0 0] 31)).heap.size by simp)
  have hpl : ps.length ≤ 9223372036854775807 := by unfold maxLen at hm2; omega
  clear ho1 hb1 hB1
  go_wp2
  generalize w1.alloc (.cells #[.string ⟨#[]⟩, .string ⟨#[]⟩, .slice none 0 0] 31) = W1 at *
  generalize w1.heap.size = pb at *
  go_loopw [7, 8] (fun fd i wr => ∃ (k : Nat) (lv : Value), k ≤ ps.length ∧ i = .int .i64 k ∧ fd = .bool (extK ps k).2 ∧ TriR wr w.heap.size ⟨#[]⟩ ⟨#[]⟩ (.slice none 0 0) ∧ TriR wr pb (ba (extK ps k).1.major) (ba (extK ps k).1.minor) lv ∧ wr.ownsRow w.heap.size 50 2 lv (extK ps k).1.params.length (cellsH (extK ps k).1.params) ∧ wr.ownsRow W.heap.size 9 1 (.slice x1 ps.length c2) ps.length (cellsT ps) ∧ Below w.heap.size w wr ∧ pb + 1 ≤ wr.heap.size) (fun _ i _ => ps.length - (intOf i).toNat)
  case atStart => exact ⟨0, .slice none 0 0, Nat.zero_le _, rfl, rfl, HT0.out, HT1.out, World.ownsRow_nil _ _ _ _, HO1.out, HB1.out, Hs2.out⟩
  case round =>
    obtain ⟨k, lv, hk, rfl, rfl, hT0, hT1, hol, hop, hbw, hsz⟩ := hrel
    have HSk := hid (HSm.out k hk)
    have HUk := hid (HUn.out k hk)
    obtain ⟨l1, l2, l3, rfl⟩ := own_slice hol
    have HQ0 := hid hT0
    have HQ1 := hid hT1
    have HOl := hid hol
    have HOp := hid hop
    have HBw := hid hbw
    clear hT0 hT1 hol hop hbw
    generalize hst : extK ps k = st at *
    obtain ⟨⟨mj, mn, lps⟩, fd⟩ := st
    by_cases hlt : k < ps.length
    · have hlt' : (k : Int) < (ps.length : Int) := by omega
      have hnx := HEx.out k hlt
      obtain ⟨_, _, e1, _, _, htx⟩ := (own_txt' HOp.out).view
      cases e1
      obtain ⟨b1, oo, rfl, f1⟩ := htx k hlt
      have hpk := HPs.out _ (List.getElem_mem hlt)
      obtain ⟨P, hP⟩ : ∃ P : ByteArray, P = ⟨ps[k].toArray⟩ := ⟨_, rfl⟩
      have hPl : ps[k] = P.data.toList := by rw [hP]
      rw [← hP] at f1
      rw [hPl] at hpk hnx
      have hPs : P.size ≤ 1000000 := by rw [Lib.size_eq]; exact hpk
      rw [hst] at hnx
      have HNx := hid hnx
      clear hnx htx hP hPl hpk hst
      go_wp2_with fail
      refine (rparse6_any P _ (by omega)).mono ?_
      rintro e w2 ⟨tv, rfl, ho2, hb2⟩
      obtain ⟨q1, q2, q3, rfl⟩ := own_slice ho2
      have hkl := kn_len P.data.toList
      rw [← Lib.size_eq] at hkl
      have HNy := hid (show extK ps (k + 1) = if knOk P.data.toList && !(essV (knV P.data.toList) == [42, 47, 42]) then (withC (knV P.data.toList) ⟨mj, mn, lps⟩, true) else (⟨mj, mn, lps⟩, fd) from HNx.out)
      generalize knOk P.data.toList = ok at *
      generalize knV P.data.toList = t at *
      obtain ⟨A, hA⟩ : ∃ A, ba t.major = A := ⟨_, rfl⟩
      obtain ⟨M, hM⟩ : ∃ M, ba t.minor = M := ⟨_, rfl⟩
      have hAl : t.major = A.data.toList := by rw [← hA]; rfl
      have hMl : t.minor = M.data.toList := by rw [← hM]; rfl
      have hAs : A.size ≤ 4000000000 := by rw [← hA, ba_size]; omega
      have hMs : M.size ≤ 4000000000 := by rw [← hM, ba_size]; omega
      rw [hA, hM]
      obtain ⟨tj, tn, tps⟩ := t
      simp only at hAl hMl hkl ho2
      subst hAl hMl
      have htl : tps.length ≤ 1000000000 := by omega
      have hlt2 : wr.heap.size ≤ w2.heap.size := hb2.size
      have HQ0a := hid ((HQ0.out.kept hb2).kept ((Below.refl _ w2).alloc (Nat.le_refl _) (.cells #[.string A, .string M, .slice q1 q2 q3] 31)))
      have HQ1a := hid ((HQ1.out.kept hb2).kept ((Below.refl _ w2).alloc (Nat.le_refl _) (.cells #[.string A, .string M, .slice q1 q2 q3] 31)))
      have HOla := hid ((own_same HOl.out hb2).alloc (.cells #[.string A, .string M, .slice q1 q2 q3] 31))
      have HOpa := hid ((own_same HOp.out hb2).alloc (.cells #[.string A, .string M, .slice q1 q2 q3] 31))
      have HOta := hid (ho2.alloc (.cells #[.string A, .string M, .slice q1 q2 q3] 31))
      have hB2 := HBw.out.trans (hb2.mono HBw.out.size)
      have HBa := hid (hB2.alloc hB2.size (.cells #[.string A, .string M, .slice q1 q2 q3] 31))
      have HTa := hid (show TriR (w2.alloc (.cells #[.string A, .string M, .slice q1 q2 q3] 31)) w2.heap.size A M (.slice q1 q2 q3) from heap_alloc_new _ _)
      have hla : w2.heap.size + 1 = (w2.alloc (.cells #[.string A, .string M, .slice q1 q2 q3] 31)).heap.size := by simp
      have Hla := hid hla
      clear ho2 hb2 hB2 hA hM hkl HNx hla
      cases ok with
      | false =>
        have HN := hid (show extK ps (k + 1) = (⟨mj, mn, lps⟩, fd) by rw [HNy.out]; rfl)
        unfold knVal
        go_wp2
        go_roundw
        case rel =>
          refine ⟨k + 1, .slice l1 l2 l3, by omega, by go_num, ?_, HQ0a.out, ?_, ?_, HOpa.out, HBa.out, ?_⟩
          · rw [HN.out]
          · rw [HN.out]; exact HQ1a.out
          · rw [HN.out]; exact HOla.out
          · rw [← Hla.out]; omega
        case measure => simp [intOf]; omega
      | true =>
        have HNz := hid (show extK ps (k + 1) = if !(A.data.toList ++ 47 :: M.data.toList == [42, 47, 42]) then (withC ⟨A.data.toList, M.data.toList, tps⟩ ⟨mj, mn, lps⟩, true) else (⟨mj, mn, lps⟩, fd) by rw [HNy.out]; rfl)
        obtain ⟨E, hE⟩ : ∃ E, ba (A.data.toList ++ 47 :: M.data.toList) = E := ⟨_, rfl⟩
        have HEs : Hid (∀ w : World, Calls Tryz.prog 18 #[.agg #[.string A, .string M, .slice q1 q2 q3]] w fun e w' => e = .returned (.string E) ∧ Below w.heap.size w w') := fun w => by
          rw [← hE]; exact ressence_any A M _ _ _ w hAs hMs
        have HEd := hid (show E.data.toList = A.data.toList ++ 47 :: M.data.toList by rw [← hE]; rfl)
        obtain ⟨q, hq⟩ : ∃ q, (E.toList == [42, 47, 42]) = q := ⟨_, rfl⟩
        have HQq := hid (show (A.data.toList ++ 47 :: M.data.toList == [42, 47, 42]) = q by rw [← hq, Lib.toList_data, ← hE]; rfl)
        rw [HQq.out] at HNz
        obtain ⟨x0, x1', x2⟩ := HTa.out.cells
        have Hq := hid hq
        clear hE hq HQq HNy
        unfold knVal
        go_wp2_with fail
        generalize w2.alloc (.cells #[.string A, .string M, .slice q1 q2 q3] 31) = X at *
        generalize w2.heap.size = pt at *
        refine (HEs.out _).mono ?_
        rintro e w3 ⟨rfl, hb3⟩
        have HQ0b := hid (HQ0a.out.kept hb3)
        have HQ1b := hid (HQ1a.out.kept hb3)
        have HOlb := hid (own_same HOla.out hb3)
        have HOpb := hid (own_same HOpa.out hb3)
        have HOtb := hid (own_same HOta.out hb3)
        have HBb := hid (HBa.out.trans (hb3.mono HBa.out.size))
        have HTb := hid (HTa.out.kept hb3)
        have hsb : pt + 1 ≤ w3.heap.size := by have := hb3.size; have := Hla.out; omega
        clear x0 x1' x2 hb3
        cases q with
        | true =>
          have HN := hid (show extK ps (k + 1) = (⟨mj, mn, lps⟩, fd) by rw [HNz.out]; rfl)
          have hq := Hq.out
          go_wp2
          go_roundw
          case rel =>
            refine ⟨k + 1, .slice l1 l2 l3, by omega, by go_num, ?_, HQ0b.out, ?_, ?_, HOpb.out, HBb.out, by omega⟩
            · rw [HN.out]
            · rw [HN.out]; exact HQ1b.out
            · rw [HN.out]; exact HOlb.out
          case measure => simp [intOf]; omega
        | false =>
          have HN := hid (show extK ps (k + 1) = (withC ⟨A.data.toList, M.data.toList, tps⟩ ⟨mj, mn, lps⟩, true) by rw [HNz.out]; rfl)
          rw [withC_doc] at HN
          have hq := Hq.out
          obtain ⟨k1, k2, k3⟩ := HSk.out
          simp only at k1 k2 k3
          have HC1 : Hid (Calls Tryz.prog 19 #[.agg #[.string A, .string M, .slice q1 q2 q3]] w3 (RcPost tps w3)) := rcharset_any A M _ tps w3 (own_hd HOtb.out) htl
          have HC2 : Hid (∀ Y, Below w3.heap.size w3 Y → Calls Tryz.prog 19 #[.agg #[.string (ba mj), .string (ba mn), .slice l1 l2 l3]] Y (RcPost lps Y)) := fun Y hY => rcharset_any (ba mj) (ba mn) _ lps Y ((own_hd HOlb.out).kept hY) k3
          have hun : fd = false → (lps.find? isCs).isSome = false := fun e => by
            have := HUk.out e
            simp only [knNone] at this
            injection this with _ _ e3
            rw [e3]; rfl
          unfold RcPost at HC1 HC2
          obtain ⟨o1, ho1⟩ : ∃ o, (tps.find? isCs).isSome = o := ⟨_, rfl⟩
          obtain ⟨o2, ho2⟩ : ∃ o, (lps.find? isCs).isSome = o := ⟨_, rfl⟩
          obtain ⟨V1, hV1⟩ : ∃ x, ba (csW tps) = x := ⟨_, rfl⟩
          obtain ⟨V2, hV2⟩ : ∃ x, ba (csW lps) = x := ⟨_, rfl⟩
          rw [ho1, hV1] at HC1
          rw [ho2, hV2] at HC2
          rw [ho2] at hun
          simp only [ho1, ho2] at HN
          have Hun := hid hun
          have HV2 := hid hV2
          obtain ⟨x0, x1', x2⟩ := HTb.out.cells
          obtain ⟨y0, y1, y2⟩ := HQ1b.out.cells
          clear k1 k2 ho1 ho2 hV1 hV2 hun HNz HUk
          go_wp2_with fail
          refine HC1.out.mono ?_
          rintro e w4 ⟨rfl, hb4⟩
          have HT4 := hid (HTb.out.kept hb4)
          have HQ4 := hid (HQ1b.out.kept hb4)
          clear x0 x1' x2 y0 y1 y2
          obtain ⟨x0, x1', x2⟩ := HT4.out.cells
          obtain ⟨y0, y1, y2⟩ := HQ4.out.cells
          have Hb4 := hid hb4
          clear hb4
          go_wp2_with fail
          refine (HC2.out _ Hb4.out).mono ?_
          rintro e w5 ⟨rfl, hb5⟩
          have HB5 := hid (belowT Hb4.out hb5)
          clear x0 x1' x2 y0 y1 y2 hb5 Hb4 HT4 HQ4 HC1 HC2
          have HY : Hid (∀ Y, Below w3.heap.size w3 Y → TriR Y pt A M (.slice q1 q2 q3) ∧ TriR Y pb (ba mj) (ba mn) (.slice l1 l2 l3) ∧ TriR Y w.heap.size ⟨#[]⟩ ⟨#[]⟩ (.slice none 0 0) ∧ Y.ownsRow wr.heap.size 50 2 (.slice q1 q2 q3) tps.length (cellsH tps) ∧ Y.ownsRow W.heap.size 9 1 (.slice (some ⟨b1, oo, none⟩) ps.length c2) ps.length (cellsT ps) ∧ Below w.heap.size w Y ∧ pt + 1 ≤ Y.heap.size) := hid (fun Y hY =>
            ⟨HTb.out.kept hY, HQ1b.out.kept hY, HQ0b.out.kept hY, own_same HOtb.out hY, own_same HOpb.out hY, HBb.out.trans (hY.mono HBb.out.size), by have := hY.size; omega⟩)
          by_cases hgo : fd = true ∧ o1 = false ∧ o2 = true
          · obtain ⟨rfl, rfl, rfl⟩ := hgo
            obtain ⟨k1, k2, _⟩ := HSk.out
            simp only at k1 k2
            obtain ⟨E2, hE2⟩ : ∃ E, ba ((ba mj).data.toList ++ 47 :: (ba mn).data.toList) = E := ⟨_, rfl⟩
            have HEl : Hid (∀ w : World, Calls Tryz.prog 18 #[.agg #[.string (ba mj), .string (ba mn), .slice l1 l2 l3]] w fun e w' => e = .returned (.string E2) ∧ Below w.heap.size w w') := fun w => by
              rw [← hE2]; exact ressence_any (ba mj) (ba mn) _ _ _ w (by rw [ba_size]; omega) (by rw [ba_size]; omega)
            have HEe := hid (show (E = E2) ↔ essV ⟨A.data.toList, M.data.toList, tps⟩ = essV ⟨mj, mn, lps⟩ by
              constructor
              · intro e
                have := congrArg (fun x => x.data.toList) e
                simp only [HEd.out, ← hE2] at this
                exact this
              · intro e
                apply xba
                rw [HEd.out, ← hE2]
                exact e)
            have HK : Hid (∀ Y Z : World, Below w3.heap.size w3 Y → Below Y.heap.size Y Z → Below w3.heap.size w3 Z) := hid (fun Y Z h1 h2 => h1.trans (h2.mono h1.size))
            have HXD := hid HB5.out.drew
            have HS := hid (fun Y (hY : Below w3.heap.size w3 Y) => (show Below w3.heap.size w3 Y ∧ Y.cell? ⟨pt, 0, none⟩ = some (.string A) ∧ Y.cell? ⟨pt, 1, none⟩ = some (.string M) ∧ Y.cell? ⟨pt, 2, none⟩ = some (.slice q1 q2 q3) ∧ Y.cell? ⟨pb, 0, none⟩ = some (.string (ba mj)) ∧ Y.cell? ⟨pb, 1, none⟩ = some (.string (ba mn)) ∧ Y.cell? ⟨pb, 2, none⟩ = some (.slice l1 l2 l3) from
              ⟨hY, (HY.out Y hY).1.cells.1, (HY.out Y hY).1.cells.2.1, (HY.out Y hY).1.cells.2.2, (HY.out Y hY).2.1.cells.1, (HY.out Y hY).2.1.cells.2.1, (HY.out Y hY).2.1.cells.2.2⟩))
            clear hE2 k1 k2
            go_wp2
            go_region_held (fun wx => Below w3.heap.size w3 wx ∧ wx.cell? ⟨pt, 0, none⟩ = some (.string A) ∧ wx.cell? ⟨pt, 1, none⟩ = some (.string M) ∧ wx.cell? ⟨pt, 2, none⟩ = some (.slice q1 q2 q3) ∧ wx.cell? ⟨pb, 0, none⟩ = some (.string (ba mj)) ∧ wx.cell? ⟨pb, 1, none⟩ = some (.string (ba mn)) ∧ wx.cell? ⟨pb, 2, none⟩ = some (.slice l1 l2 l3))
              (first | exact HS.out _ HXD.out | exact HS.out _ (HK.out _ _ HXD.out (by assumption)) | (go_split_ands; exact HS.out _ (HK.out _ _ (by assumption) (by assumption))) | (go_split_ands; exact HS.out _ (by assumption)))
              (first
                | (go_at_call 18; refine (HEs.out _).mono ?_; rintro e wa ⟨rfl, hba⟩)
                | (go_at_call 18; refine (HEl.out _).mono ?_; rintro e wb ⟨rfl, hbb⟩))
            all_goals
              rename_i hHeld
              have hWB := hHeld.1
              obtain ⟨u1, u2, u3, hoX, hopX, hbX, hsX⟩ := HY.out wb hWB
              have HU1 := hid u1
              have HU2 := hid u2
              have HU3 := hid u3
              have HoX := hid hoX
              have HopX := hid hopX
              have HbX := hid hbX
              clear hoX hopX hbX hHeld hba hbb hWB HXD HK HS HY
              obtain ⟨q', hq'⟩ : ∃ q, (E.toList == E2.toList) = q := ⟨_, rfl⟩
              rw [hq']
              cases q' with
              | false =>
                have HR := hid (show extK ps (k + 1) = (⟨A.data.toList, M.data.toList, tps⟩, true) by
                  rw [HN.out, if_neg]
                  rintro ⟨_, e⟩
                  rw [HEe.out.2 e] at hq'
                  simp at hq')
                obtain ⟨x0, x1', x2⟩ := u1.cells
                obtain ⟨y0, y1, y2⟩ := u2.cells
                have f0 := u2.frozen 0
                have f1 := u2.frozen 1
                have f2 := u2.frozen 2
                clear u1 u2 u3 hq'
                go_wp2
                go_roundw
                case rel =>
                  refine ⟨k + 1, .slice q1 q2 q3, by omega, by go_num, ?_, ?_, ?_, ?_, ?_, ?_, ?_⟩
                  · rw [HR.out]
                  · exact HU3.out.but ((((But.refl pb wb).set 0 _).set 1 _).set 2 _) (by omega)
                  · rw [HR.out]; exact HU2.out.set
                  · rw [HR.out]
                    exact ((((But.refl pb wb).set 0 _).set 1 _).set 2 _).own (own_base HoX.out (show w.heap.size ≤ wr.heap.size by omega)) (own_triR HoX.out HU2.out)
                  · exact ((((But.refl pb wb).set 0 _).set 1 _).set 2 _).own HopX.out (triR_own HopX.out HU2.out)
                  · exact ((HbX.out.setCell (p := ⟨pb, 0, none⟩) (show w.heap.size ≤ pb by omega) _).setCell (p := ⟨pb, 1, none⟩) (show w.heap.size ≤ pb by omega) _).setCell (p := ⟨pb, 2, none⟩) (show w.heap.size ≤ pb by omega) _
                  · simp; omega
                case measure => simp [intOf]; omega
              | true =>
                have HR := hid (show extK ps (k + 1) = (⟨A.data.toList, M.data.toList, tps ++ [⟨[99, 104, 97, 114, 115, 101, 116], csW lps⟩]⟩, true) by
                  rw [HN.out, if_pos ⟨⟨by first | rfl | trivial, by first | rfl | trivial⟩, HEe.out.1 (xba (by rw [← Lib.toList_data, ← Lib.toList_data]; simpa using hq'))⟩])
                obtain ⟨x0, x1', x2⟩ := u1.cells
                clear u1 u2 u3 hq'
                go_wp2_with (at_builtin; go_must (refine wpList_append_own _ rfl _ _ 29 rfl wr.heap.size 50 i0 _ 2 32 Tryz.underlying29 hi hz0 hz1 hz2 rfl (by decide) _ _ _ rfl (HoX.out.alloc _) ⟨wb.heap.size, 0, none⟩ 1 1 [.string ⟨#[99, 104, 97, 114, 115, 101, 116]⟩, .string V2] rfl rfl ?c1 ?c2 ?c3 ?c4 ?c5 ?_))
                case c1 =>
                  intro q u hq
                  match q, hq with
                  | 0, hq => simp at hq; subst hq; simp [Addr.add, World.cell?_alloc_at]
                  | 1, hq => simp at hq; subst hq; simp [Addr.add, World.cell?_alloc_at]
                case c2 => intro u hu; simp at hu; rcases hu with rfl | rfl <;> rfl
                case c3 => unfold maxLen; omega
                case c4 => omega
                case c5 => simp; omega
                intro v' w6 hown' hgrow hnil
                obtain ⟨s5, n5, d5, rfl⟩ := own_slice hown'
                have HZ1 := hid (show TriR w6 pt A M (.slice q1 q2 q3) from (hgrow.block _ (HU1.out.kept ((Below.refl _ _).alloc (Nat.le_refl _) (.cells #[.string ⟨#[99, 104, 97, 114, 115, 101, 116]⟩, .string V2] 50))).lt (fun e => own_triR HoX.out HU1.out e.symm)).trans (HU1.out.kept ((Below.refl _ _).alloc (Nat.le_refl _) _)))
                have HZ2 := hid (show TriR w6 pb (ba mj) (ba mn) (.slice l1 l2 l3) from (hgrow.block _ (HU2.out.kept ((Below.refl _ _).alloc (Nat.le_refl _) (.cells #[.string ⟨#[99, 104, 97, 114, 115, 101, 116]⟩, .string V2] 50))).lt (fun e => own_triR HoX.out HU2.out e.symm)).trans (HU2.out.kept ((Below.refl _ _).alloc (Nat.le_refl _) _)))
                have HZ3 := hid (show TriR w6 w.heap.size ⟨#[]⟩ ⟨#[]⟩ (.slice none 0 0) from (hgrow.block _ (HU3.out.kept ((Below.refl _ _).alloc (Nat.le_refl _) (.cells #[.string ⟨#[99, 104, 97, 114, 115, 101, 116]⟩, .string V2] 50))).lt (fun e => own_triR HoX.out HU3.out e.symm)).trans (HU3.out.kept ((Below.refl _ _).alloc (Nat.le_refl _) _)))
                have HZp := hid (own_grow (HopX.out.alloc (.cells #[.string ⟨#[99, 104, 97, 114, 115, 101, 116]⟩, .string V2] 50)) (fun g hg => hgrow.block g (own_lt (HopX.out.alloc (.cells #[.string ⟨#[99, 104, 97, 114, 115, 101, 116]⟩, .string V2] 50)) g hg) (fun e => own_apart2 HoX.out (own_lt HOp.out g hg) e.symm)))
                have HZb := hid (show Below w.heap.size w w6 from (HbX.out.alloc HbX.out.size (.cells #[.string ⟨#[99, 104, 97, 114, 115, 101, 116]⟩, .string V2] 50)).grown hgrow (by have := HbX.out.size; simp; omega) (fun g hg => by have := (HoX.out.lt g hg).1; omega))
                have HOz := hid hown'
                have HZ1w := hid (HZ1.out.set2 (.slice s5 n5 d5))
                have HZ2w := hid (HZ2.out.but ((But.refl pt w6).set 2 (.slice s5 n5 d5)) (show pb ≠ pt by omega))
                have hz6 : pt < w6.heap.size := HZ1.out.lt
                clear hown' hgrow hnil x0 x1' x2
                obtain ⟨x0, x1', x2⟩ := HZ1.out.cells
                obtain ⟨y0, y1, y2⟩ := HZ2.out.cells
                have g2 := HZ1.out.frozen 2
                have f0 := HZ2.out.frozen 0
                have f1 := HZ2.out.frozen 1
                have f2 := HZ2.out.frozen 2
                have hne : pt ≠ pb := by omega
                go_wp2
                go_roundw
                case rel =>
                  refine ⟨k + 1, .slice s5 n5 d5, by omega, by go_num, ?_, ?_, ?_, ?_, ?_, ?_, ?_⟩
                  · rw [HR.out]
                  · exact (HZ3.out.but ((But.refl pt w6).set 2 _) (by omega)).but ((((But.refl pb _).set 0 _).set 1 _).set 2 _) (by omega)
                  · rw [HR.out]; exact HZ2w.out.set
                  · rw [HR.out]
                    show World.ownsRow _ w.heap.size 50 2 (.slice s5 n5 d5) (tps ++ [(⟨[99, 104, 97, 114, 115, 101, 116], csW lps⟩ : Hd)]).length (cellsH (tps ++ [(⟨[99, 104, 97, 114, 115, 101, 116], csW lps⟩ : Hd)]))
                    have e2 : (⟨(csW lps).toArray⟩ : ByteArray) = V2 := HV2.out
                    rw [List.length_append, cellsH_app, cellsH_one, e2]
                    exact ((((But.refl pb _).set 0 _).set 1 _).set 2 _).own (((But.refl pt w6).set 2 _).own (own_base HOz.out (show w.heap.size ≤ wr.heap.size by omega)) (own_triR HOz.out HZ1.out)) (own_triR HOz.out HZ2.out)
                  · exact ((((But.refl pb _).set 0 _).set 1 _).set 2 _).own (((But.refl pt w6).set 2 _).own HZp.out (triR_own HZp.out HZ1.out)) (triR_own HZp.out HZ2.out)
                  · exact (((HZb.out.setCell (p := ⟨pt, 2, none⟩) (show w.heap.size ≤ pt by omega) _).setCell (p := ⟨pb, 0, none⟩) (show w.heap.size ≤ pb by omega) _).setCell (p := ⟨pb, 1, none⟩) (show w.heap.size ≤ pb by omega) _).setCell (p := ⟨pb, 2, none⟩) (show w.heap.size ≤ pb by omega) _
                  · simp; omega
                case measure => simp [intOf]; omega

          · have HR := hid (show extK ps (k + 1) = (⟨A.data.toList, M.data.toList, tps⟩, true) by
              rw [HN.out, if_neg]
              rintro ⟨⟨e1, e2⟩, _⟩
              refine hgo ⟨?_, e1, e2⟩
              cases fd with
              | true => rfl
              | false => rw [Hun.out rfl] at e2; cases e2)
            have HXD := hid (HY.out w5.drew HB5.out.drew)
            clear HN
            cases fd <;> cases o1 <;> cases o2
            all_goals first | (exfalso; exact hgo ⟨rfl, rfl, rfl⟩) | skip
            all_goals
              go_wp2
              go_region
              generalize w5.drew = X2 at *
              obtain ⟨u1, u2, u3, hoX, hopX, hbX, hsX⟩ := HXD.out
              obtain ⟨x0, x1', x2⟩ := u1.cells
              obtain ⟨y0, y1, y2⟩ := u2.cells
              have f0 := u2.frozen 0
              have f1 := u2.frozen 1
              have f2 := u2.frozen 2
              have HU1 := hid u1
              have HU2 := hid u2
              have HU3 := hid u3
              have HoX := hid hoX
              have HopX := hid hopX
              have HbX := hid hbX
              clear u1 u2 u3 hoX hopX hbX HXD
              go_wp2
              go_roundw
              case rel =>
                refine ⟨k + 1, .slice q1 q2 q3, by omega, by go_num, ?_, ?_, ?_, ?_, ?_, ?_, ?_⟩
                · rw [HR.out]
                · exact HU3.out.but ((((But.refl pb X2).set 0 _).set 1 _).set 2 _) (by omega)
                · rw [HR.out]; exact HU2.out.set
                · rw [HR.out]
                  exact ((((But.refl pb X2).set 0 _).set 1 _).set 2 _).own (own_base HoX.out (show w.heap.size ≤ wr.heap.size by omega)) (own_triR HoX.out HU2.out)
                · exact ((((But.refl pb X2).set 0 _).set 1 _).set 2 _).own HopX.out (triR_own HopX.out HU2.out)
                · exact ((HbX.out.setCell (p := ⟨pb, 0, none⟩) (show w.heap.size ≤ pb by omega) _).setCell (p := ⟨pb, 1, none⟩) (show w.heap.size ≤ pb by omega) _).setCell (p := ⟨pb, 2, none⟩) (show w.heap.size ≤ pb by omega) _
                · simp; omega
              case measure => simp [intOf]; omega
    · have hke : k = ps.length := by omega
      subst hke
      have HF := hid (show extV ps = (⟨mj, mn, lps⟩, fd) by rw [← HAl.out]; exact hst)
      clear hst
      obtain ⟨x0, x1', x2⟩ := HQ1.out.cells
      obtain ⟨y0, y1, y2⟩ := HQ0.out.cells
      have f0 := HQ0.out.frozen 0
      have f1 := HQ0.out.frozen 1
      have f2 := HQ0.out.frozen 2
      go_wp2
      refine bodyPost_ret (results_q2 rfl _ _ w.heap.size (ba mj) (ba mn) (.slice l1 l2 l3) rfl HQ0.out.set.range) rfl ⟨.slice l1 l2 l3, ?_, ?_, ?_⟩
      · rw [HF.out]; rfl
      · rw [HF.out]
        exact ((((But.refl w.heap.size wr).set 0 _).set 1 _).set 2 _).own HOl.out (own_triR HOl.out HQ0.out)
      · exact ((HBw.out.setCell (p := ⟨w.heap.size, 0, none⟩) (Nat.le_refl _) _).setCell (p := ⟨w.heap.size, 1, none⟩) (Nat.le_refl _) _).setCell (p := ⟨w.heap.size, 2, none⟩) (Nat.le_refl _) _

end Go.Proofs.YtiemggepdeaogaaGreatDoor

namespace Go.Proofs.YtiemggepdeaogaaGreatDoor
open Go.RowKit

set_option maxHeartbeats 4000000 in
set_option maxRecDepth 100000 in
theorem rblocked_any (v : Value) (L : List Hd) (d : Int) (w : World) (h : HdAt w v L) (hz : Szd 140737488351232 L) (hl : L.length ≤ 1000000) (hb : bulkV L ≤ 1000000) :
    Calls Tryz.prog 9 #[v, .int .i64 d] w fun e w' => e = .returned (.bool (blkV L d)) ∧ Below w.heap.size w w' := by
  have HSm := hid (extK_small (pcsV L [99, 111, 110, 116, 101, 110, 116, 45, 116, 121, 112, 101]) (fun p hp => Nat.le_trans (pcsV_le L _ p hp) (Nat.le_trans hb (by decide))) _ (Nat.le_refl _))
  rw [extK_all] at HSm
  have HEx := hid (fun (X : World) (hX : Below w.heap.size w X) => rextract_any v L X (h.kept hX) hz hl hb)
  obtain ⟨i1, n1, c1, rfl⟩ : ∃ a n c, v = .slice a n c := by obtain ⟨a, c, e, _⟩ := h; exact ⟨a, _, c, e⟩
  cases hg : getB L xcoL with
  | false =>
    have HS := hid (rsplit_any _ L ⟨#[120, 45, 99, 111, 110, 116, 101, 110, 116, 45, 116, 121, 112, 101, 45, 111, 112, 116, 105, 111, 110, 115]⟩ w h (by decide) hz hl (by omega))
    rw [show (⟨#[120, 45, 99, 111, 110, 116, 101, 110, 116, 45, 116, 121, 112, 101, 45, 111, 112, 116, 105, 111, 110, 115]⟩ : ByteArray).data.toList = xcoL from rfl, hg] at HS
    have HV := hid (show blkV L d = false by unfold blkV noGuess; rw [hg]; rfl)
    clear h hz hb HEx hg
    go_enter Tryz.func9, Tryz.ntmps9
    go_wp2_with fail
    refine HS.out.mono ?_
    rintro e w1 ⟨pv, rfl, ho1, hb1⟩
    obtain ⟨x1, c2, rfl, hc2, hm2, htx⟩ := (own_txt' ho1).view
    clear ho1 htx
    go_wp2
    go_ret
    rw [HV.out]
    exact ⟨rfl, hb1⟩
  | true =>
    have HS := hid (rsplit_any _ L ⟨#[120, 45, 99, 111, 110, 116, 101, 110, 116, 45, 116, 121, 112, 101, 45, 111, 112, 116, 105, 111, 110, 115]⟩ w h (by decide) hz hl (by omega))
    rw [show (⟨#[120, 45, 99, 111, 110, 116, 101, 110, 116, 45, 116, 121, 112, 101, 45, 111, 112, 116, 105, 111, 110, 115]⟩ : ByteArray).data.toList = xcoL from rfl, hg, show pcsV L xcoL = splitV L xcoL by unfold pcsV; rw [hg]; rfl] at HS
    have hle := pcsV_le L xcoL
    have hpe : pcsV L xcoL = splitV L xcoL := by unfold pcsV; rw [hg]; rfl
    rw [hpe] at hle
    have hne : splitV L xcoL ≠ [] := by unfold splitV; intro e; exact pcs_ne _ (List.map_eq_nil_iff.1 e)
    have HV := hid (show blkV L d = (isL (low ((splitV L xcoL).headD [])) nsL && (if d = 2 then grpV (exKn L).1.major (exKn L).1.minor != 1 else if d = 3 then grpV (exKn L).1.major (exKn L).1.minor != 5 else false)) by unfold blkV noGuess; rw [hg, Bool.true_and])
    clear hpe hg h hz
    obtain ⟨p, P, hP⟩ : ∃ p P, splitV L xcoL = p :: P := by
      cases hs : splitV L xcoL with
      | nil => exact absurd hs hne
      | cons p P => exact ⟨p, P, rfl⟩
    rw [hP] at HS HV hle
    have hpl : p.length ≤ 100000000 := Nat.le_trans (Nat.le_trans (hle p (by simp)) hb) (by decide)
    obtain ⟨A, hA⟩ : ∃ A : ByteArray, A = ⟨p.toArray⟩ := ⟨_, rfl⟩
    have hAs : A.size ≤ 100000000 := by rw [hA, xsize]; exact hpl
    obtain ⟨B, hB⟩ : ∃ B : ByteArray, B = ⟨(low A.data.toList).toArray⟩ := ⟨_, rfl⟩
    obtain ⟨q, hq⟩ : ∃ q, (B.toList == [110, 111, 115, 110, 105, 102, 102]) = q := ⟨_, rfl⟩
    have HQ := hid (show isL (low ((p :: P).headD [])) nsL = q by rw [← hq, isL_to, hB, hA]; rfl)
    rw [HQ.out] at HV
    have HLw : Hid (∀ w : World, Calls Tryz.prog 22 #[.string A] w fun e w' => e = .returned (.string B) ∧ Below w.heap.size w w') := fun w => by
      rw [hB]; exact rlower_any A w (by omega)
    have HA := hid hA
    clear hne hP hle hpl hb hA hB HQ
    go_enter Tryz.func9, Tryz.ntmps9
    go_wp2_with fail
    refine HS.out.mono ?_
    rintro e w1 ⟨pv, rfl, ho1, hb1⟩
    obtain ⟨x1, c2, rfl, hc2, hm2, htx⟩ := (own_txt' ho1).view
    obtain ⟨b1, o1, rfl, f1⟩ := htx 0 (by simp)
    rw [show (⟨(p :: P)[0].toArray⟩ : ByteArray) = A from HA.out.symm, Nat.add_zero] at f1
    have hln : (0 : Int) < ((p :: P).length : Int) := by simp
    have HB1 := hid hb1
    clear htx ho1 hb1
    go_wp2_with fail
    refine (HLw.out _).mono ?_
    rintro e w2 ⟨rfl, hb2⟩
    have HB2 := hid (belowT HB1.out hb2)
    clear hb2 f1
    cases q with
    | false =>
      have HV2 := hid (show blkV L d = false by rw [HV.out]; rfl)
      go_wp2
      go_ret
      rw [HV2.out]
      exact ⟨rfl, HB2.out⟩
    | true =>
      have HV2 := hid (show blkV L d = (if d = 2 then grpV (exKn L).1.major (exKn L).1.minor != 1 else if d = 3 then grpV (exKn L).1.major (exKn L).1.minor != 5 else false) by rw [HV.out, Bool.true_and])
      have HUn := hid (show (exKn L).2 = false → (exKn L).1 = knNone from fun e => by
        unfold exKn at e ⊢
        rw [← extK_all] at e ⊢
        exact extK_unmet _ _ (Nat.le_refl _) e)
      have HSk := hid (show SmallK (exKn L).1 from HSm.out)
      have HEy : Hid (∀ X, Below w.heap.size w X → Calls Tryz.prog 6 #[.slice i1 n1 c1] X (RxPost (exKn L) X)) := HEx.out
      clear HEx HSm HV
      generalize exKn L = st at *
      obtain ⟨⟨mj, mn, lps⟩, fd⟩ := st
      obtain ⟨k1, k2, k3⟩ := HSk.out
      simp only at k1 k2 k3
      have hms : (ba mn).size ≤ 4000000000 := by rw [ba_size]; omega
      obtain ⟨g, hg⟩ : ∃ g, grpV mj mn = g := ⟨_, rfl⟩
      have HV3 := hid (show blkV L d = (if d = 2 then g != 1 else if d = 3 then g != 5 else false) by rw [HV2.out]; show (if d = 2 then grpV mj mn != 1 else _) = _; rw [hg])
      have HGr : Hid (∀ X x n c, Calls Tryz.prog 23 #[.agg #[.string (ba mj), .string (ba mn), .slice x n c]] X fun e w' => e = .returned (.int .i64 g) ∧ Below X.heap.size X w') := fun X x n c => by
        rw [← hg]; exact rgroup_any (ba mj) (ba mn) x n c X hms
      have Hg0 := hid (show fd = false → g = 0 from fun e => by
        have := HUn.out e
        simp only [knNone] at this
        injection this with e1 e2 _
        rw [← hg, e1, e2]; rfl)
      clear k1 k2 k3 HV2 HSk hg hms HUn
      go_wp2_with fail
      refine (HEy.out _ HB2.out).mono ?_
      rintro e w3 ⟨kv, rfl, ho3, hb3⟩
      obtain ⟨q1, q2, q3, rfl⟩ := own_slice ho3
      have HB3 := hid (belowT HB2.out hb3)
      have HB4 := hid (HB3.out.alloc HB3.out.size (.cells #[.string (ba mj), .string (ba mn), .slice q1 q2 q3] 31))
      have hT := show TriR (w3.alloc (.cells #[.string (ba mj), .string (ba mn), .slice q1 q2 q3] 31)) w3.heap.size (ba mj) (ba mn) (.slice q1 q2 q3) from heap_alloc_new _ _
      obtain ⟨y0, y1, y2⟩ := hT.cells
      clear ho3 hb3 hT
      unfold knVal
      cases fd with
      | false =>
        obtain rfl := Hg0.out rfl
        by_cases h2 : d = 2
        · subst h2
          go_wp2
          go_ret
          refine ⟨ret_tf6 ?_, HB4.out⟩
          rw [HV3.out]; rfl
        · by_cases h3 : d = 3
          · subst h3
            clear h2
            go_wp2
            go_ret
            refine ⟨ret_tf6 ?_, HB4.out⟩
            rw [HV3.out]; rfl
          · have HN := hid (show blkV L d = false by rw [HV3.out, if_neg h2, if_neg h3])
            have h2' : (d == 2) = false := by rw [beq_eq_false_iff_ne]; exact h2
            have h3' : (d == 3) = false := by rw [beq_eq_false_iff_ne]; exact h3
            clear h2 h3
            go_wp2
            go_ret
            rw [HN.out]
            exact ⟨rfl, HB4.out⟩
      | true =>
        by_cases h2 : d = 2
        · subst h2
          go_wp2_with fail
          refine (HGr.out _ _ _ _).mono ?_
          rintro e w5 ⟨rfl, hb5⟩
          by_cases hg1 : g = 1
          · subst hg1
            go_wp2
            go_ret
            refine ⟨ret_tf6 ?_, belowT HB4.out hb5⟩
            rw [HV3.out]; rfl
          · have hg1' : (g == 1) = false := by rw [beq_eq_false_iff_ne]; exact hg1
            have HV4 := hid (show blkV L 2 = true by rw [HV3.out]; show (!(g == 1)) = true; rw [hg1']; rfl)
            go_wp2
            go_ret
            refine ⟨ret_tf6 ?_, belowT HB4.out hb5⟩
            rw [HV4.out]
        · by_cases h3 : d = 3
          · subst h3
            clear h2
            go_wp2_with fail
            refine (HGr.out _ _ _ _).mono ?_
            rintro e w5 ⟨rfl, hb5⟩
            go_wp2
            go_ret
            refine ⟨ret_tf6 ?_, belowT HB4.out hb5⟩
            rw [HV3.out]; rfl
          · have HN := hid (show blkV L d = false by rw [HV3.out, if_neg h2, if_neg h3])
            have h2' : (d == 2) = false := by rw [beq_eq_false_iff_ne]; exact h2
            have h3' : (d == 3) = false := by rw [beq_eq_false_iff_ne]; exact h3
            clear h2 h3
            go_wp2
            go_ret
            rw [HN.out]
            exact ⟨rfl, HB4.out⟩

end Go.Proofs.YtiemggepdeaogaaGreatDoor

namespace Go.Proofs.YtiemggepdeaogaaGreatDoor
open Go.RowKit

def HdPost (L : List Hd) (w : World) (e : Ending) (w' : World) : Prop := ∃ v, e = .returned v ∧ w'.ownsRow w.heap.size 39 2 v L.length (cellsH L) ∧ Below w.heap.size w w'

theorem xstep_append_own {P : Program} {ops : Array Oper} {o : Oper} {a : Act} {w : World} {K : Act → World → Prop} {Q : Exit → Act → World → Prop} {E : Prop} (hgd : o.guard = none) (s x : Operand) (t : TypeId)
    (ho : o.op = .call { callee := .builtin .append, args := #[s, x], argTypes := #[t, t] })
    (base : Nat) (e : TypeId) (i : TypeInfo) (z : Value) (size bytes : Nat) (ht : P.underlying t = some (.slice e)) (hi : P.info? e = some i) (hz : i.zero = some z)
    (hsize : i.size = size) (hby : i.bytes = bytes) (hzs : z.cells.size = size) (hsz : 0 < size)
    (v : Value) (n : Nat) (xs : List Value) (hs : a.eval s = v) (hown : w.ownsRow base e size v n xs)
    (ad : Addr) (m c : Nat) (news : List Value) (hx : a.eval x = .slice (some ad) m c) (hl : news.length = m * size) (hnews : ∀ j u, news[j]? = some u → w.cell? (ad.add j) = some u) (h1 : ∀ u ∈ news, u.oneCell' = true)
    (h63 : n + m ≤ maxLen) (hbytes : (n + m) * bytes ≤ 140737488355328) (hbase : base ≤ w.heap.size)
    (h : ∀ v' w', w'.ownsRow base e size v' (n + m) (xs ++ news) → w.grownBy w' v.ownBlock → (v' = .slice none 0 0 ↔ v = .slice none 0 0 ∧ m = 0) → K (a.put o.dst v') w') :
    if Region.wanted o (yielded ops a.tmps) = true then Oper.wp P o a w K Q else E := by
  rw [if_pos (by simp [Region.wanted, hgd])]
  exact wp_append_own w s x t ho base e i z size bytes ht hi hz hsize hby hzs hsz v n xs hs hown ad m c news hx hl hnews h1 h63 hbytes hbase h


def fewHd (m : Nat) (h : Hd) : Hd := ⟨h.name.take m, h.value.take m⟩
/-- The first n headers, each text cut at m bytes. -/
def fewH (L : List Hd) (n m : Nat) : List Hd := (L.take n).map (fewHd m)

theorem fewH_len (L : List Hd) (n m : Nat) : (fewH L n m).length ≤ n := by simp [fewH]; omega

theorem fewH_szd (L : List Hd) (n m : Nat) : Szd m (fewH L n m) := fun h hh => by
  unfold fewH at hh
  obtain ⟨a, _, rfl⟩ := List.mem_map.1 hh
  simp [fewHd]; omega

theorem Szd.mono {a b : Nat} {L : List Hd} (h : Szd a L) (hab : a ≤ b) : Szd b L := fun x hx => ⟨Nat.le_trans (h x hx).1 hab, Nat.le_trans (h x hx).2 hab⟩

theorem Szd.bulk {a : Nat} {L : List Hd} (h : Szd a L) : bulkV L ≤ (a + 2) * L.length := by
  unfold bulkV
  induction L with
  | nil => simp
  | cons x L ih =>
    have h1 := (h x (by simp)).2
    have := ih (fun y hy => h y (by simp [hy]))
    simp only [List.map_cons, List.sum_cons, List.length_cons]
    rw [Nat.mul_add]
    omega

set_option maxHeartbeats 2000000 in
set_option maxRecDepth 100000 in
theorem fewHeaders_any (v : Value) (L : List Hd) (n m : Nat) (w : World) (h : HdAt w v L) (hz : Szd maxLen L) (hn : n ≤ 1000) (hm : m ≤ 1000) :
    Calls Tryz.prog 4 #[v, .int .i64 n, .int .i64 m] w (HdPost (fewH L n m) w) := by
  obtain ⟨i0, hi, hz0, hz1, hz2⟩ := info3 infoHd
  obtain ⟨a1, c1, rfl, hc1, hm1, hv1⟩ := h.view
  have V1 := hid hv1
  have HZ := hid hz
  clear h hv1 hz
  go_enter Tryz.func4, Tryz.ntmps4
  go_wp2
  go_loopw [7, 8] (fun vv i wr => ∃ k : Nat, k ≤ L.length ∧ k ≤ n ∧ i = .int .i64 k ∧ wr.ownsRow w.heap.size 39 2 vv k (cellsH (fewH L k m)) ∧ Below w.heap.size w wr)
    (fun _ i _ => L.length - (intOf i).toNat)
  case atStart => exact ⟨0, Nat.zero_le _, Nat.zero_le _, rfl, World.ownsRow_nil _ _ _ _, Below.refl _ _⟩
  case round =>
    obtain ⟨k, hk, hkn, rfl, hown, hbw⟩ := hrel
    have HO := hid hown
    have hwr := hbw.size
    clear hown
    by_cases hlt : k < L.length
    · have hlt' : (k : Int) < (L.length : Int) := by omega
      by_cases hltn : k < n
      · have hltn' : (k : Int) < (n : Int) := by omega
        obtain ⟨b1, o1, rfl, e1, e2⟩ := V1.out k hlt
        have f1 : wr.cell? ⟨b1, o1 + k * 2, none⟩ = some (.string ⟨L[k].name.toArray⟩) := (hbw.cell (World.block_lt_of_cell? w _ e1)).trans e1
        have f2 : wr.cell? ⟨b1, o1 + k * 2 + 1, none⟩ = some (.string ⟨L[k].value.toArray⟩) := (hbw.cell (World.block_lt_of_cell? w _ e2)).trans e2
        obtain ⟨nm, hnm⟩ : ∃ x : ByteArray, x = ⟨L[k].name.toArray⟩ := ⟨_, rfl⟩
        obtain ⟨vl, hvl⟩ : ∃ x : ByteArray, x = ⟨L[k].value.toArray⟩ := ⟨_, rfl⟩
        rw [← hnm] at f1 e1
        rw [← hvl] at f2 e2
        have hs1 : nm.size ≤ 9223372036854775807 := by rw [hnm, xsize]; exact (HZ.out _ (List.getElem_mem hlt)).1
        have hs2 : vl.size ≤ 9223372036854775807 := by rw [hvl, xsize]; exact (HZ.out _ (List.getElem_mem hlt)).2
        obtain ⟨nm', hnm'⟩ : ∃ x : ByteArray, x = ⟨(nm.data.toList.take m).toArray⟩ := ⟨_, rfl⟩
        obtain ⟨vl', hvl'⟩ : ∃ x : ByteArray, x = ⟨(vl.data.toList.take m).toArray⟩ := ⟨_, rfl⟩
        have HF1 := hid hnm'
        have HF2 := hid hvl'
        have HS := hid (show cellsH (fewH L (k + 1) m) = cellsH (fewH L k m) ++ [.string nm', .string vl'] by
          unfold fewH
          rw [List.take_add_one, List.getElem?_eq_getElem hlt, List.map_append, cellsH_app]
          congr 1
          rw [hnm', hvl', hnm, hvl]; rfl)
        have hblk2 : b1 < w.heap.size := World.block_lt_of_cell? w _ e1
        have HK := hid (fun (X : World) (hX : Below w.heap.size w X) => (⟨hX, (hX.cell hblk2).trans e1, (hX.cell hblk2).trans e2⟩ : Below w.heap.size w X ∧ X.cell? ⟨b1, o1 + k * 2, none⟩ = some (.string nm) ∧ X.cell? ⟨b1, o1 + k * 2 + 1, none⟩ = some (.string vl)))
        have hbD : Below w.heap.size w wr.drew := hbw.drew
        clear e1 e2 hblk2
        clear hnm hvl hnm' hvl'
        go_wp2
        go_region_held_law (fun wx => Below w.heap.size w wx ∧ wx.cell? ⟨b1, o1 + k * 2, none⟩ = some (.string nm) ∧ wx.cell? ⟨b1, o1 + k * 2 + 1, none⟩ = some (.string vl))
          (first | exact HK.out _ hbD | exact HK.out _ (by assumption) | (go_split_ands; exact HK.out _ (by assumption)) | (go_split_ands; exact HK.out _ (belowA (by assumption) _)))
          (first
            | (go_at_call 11; refine (xfew_any _ m _ (by omega) (by assumption)).mono ?_; rintro e w' ⟨rfl, rfl⟩; first | rw [← HF1.out] | rw [← HF2.out])
            | (refine xstep_append_own rfl (.tmp 20) (.tmp 36) 22 rfl w.heap.size 39 i0 _ 2 32 Tryz.underlying22 hi hz0 hz1 hz2 rfl (by decide) u7 k (cellsH (fewH L k m)) rfl (by exact HO.out.alloc _) ⟨wr.heap.size, 0, none⟩ 1 1 [.string nm', .string vl'] rfl rfl (by intro j u hj; match j, hj with | 0, hj => (simp at hj; subst hj; simp [Addr.add]) | 1, hj => (simp at hj; subst hj; simp [Addr.add])) (by intro u hu; simp at hu; rcases hu with rfl | rfl <;> rfl) (by unfold maxLen; omega) (by omega) (by simp; omega) ?_; intro v6 w6 hown6 hgrow6 hnil6; have hbW6 : Below w.heap.size w w6 := (belowA hbD _).grown hgrow6 (by simp; omega) (fun g hg => (HO.out.lt g hg).1)))
        all_goals
          (try dsimp only at *)
          go_wp2
          go_roundw
          case rel =>
            refine ⟨k + 1, by omega, by omega, by go_num, ?_, hbW6⟩
            rw [HS.out]
            first | exact hown6 | simpa using hown6
          case measure => simp [intOf]; omega
      · have hltn' : decide ((k : Int) < (n : Int)) = false := by rw [decide_eq_false_iff_not]; omega
        have hke : k = n := by omega
        subst hke
        have hlen : (fewH L k m).length = k := by simp [fewH]; omega
        have HR := hid (show wr.ownsRow w.heap.size 39 2 u7 (fewH L k m).length (cellsH (fewH L k m)) by rw [hlen]; exact HO.out)
        clear hlen
        go_wp2
        go_ret
        exact ⟨_, rfl, HR.out, hbw⟩
    · have hke : k = L.length := by omega
      subst hke
      have hlt' : decide ((L.length : Int) < (L.length : Int)) = false := by rw [decide_eq_false_iff_not]; omega
      have hef : fewH L L.length m = fewH L n m := by
        unfold fewH
        rw [List.take_length, List.take_of_length_le hkn]
      have hlen : (fewH L n m).length = L.length := by rw [← hef]; simp [fewH]
      have HR := hid (show wr.ownsRow w.heap.size 39 2 u7 (fewH L n m).length (cellsH (fewH L n m)) by rw [hlen, ← hef]; exact HO.out)
      clear hlen hef
      go_wp2
      go_ret
      exact ⟨_, rfl, HR.out, hbw⟩

end Go.Proofs.YtiemggepdeaogaaGreatDoor

namespace Go.Proofs.YtiemggepdeaogaaGreatDoor
open Go.RowKit

theorem withC_one (t a : Kn) : (withC t a).params.length ≤ t.params.length + 1 := (withC_len t a).2.2

theorem extK_few (ps : List (List UInt8)) (hp : ∀ p ∈ ps, p.length ≤ 900000) : ∀ k, k ≤ ps.length → (extK ps k).1.params.length ≤ 1000000 := by
  intro k
  induction k with
  | zero => intro _; exact Nat.zero_le _
  | succ k ih =>
    intro hk
    have hlt : k < ps.length := by omega
    rw [extK_succ ps k hlt]
    unfold extS
    split
    · have h1 := withC_one (knV ps[k]) (extK ps k).1
      have h2 := kn_len ps[k]
      have h3 := hp _ (List.getElem_mem hlt)
      show (withC (knV ps[k]) (extK ps k).1).params.length ≤ 1000000
      omega
    · exact ih (by omega)

set_option maxHeartbeats 8000000 in
set_option maxRecDepth 100000 in
theorem mimeExtracts_walk (v : Value) (L0 : List Hd) (d : Int) (w : World) (hv : HdAt w v L0) (hz : Szd 140737488351232 L0) (hd : (Lit.int .i64 d).wf = true) (hG : G5 w) :
    Calls Tryz.prog 3 #[v, .int .i64 d] w fun e w' => e = .returned (.bool true) ∧ Below w.heap.size w w' := by
  have HG := hid hG
  clear hG hd
  obtain ⟨i1, n1, c1, rfl⟩ : ∃ a n c, v = .slice a n c := by obtain ⟨a, c, e, _⟩ := hv; exact ⟨a, _, c, e⟩
  obtain ⟨L, hL⟩ : ∃ L, L = fewH L0 12 200 := ⟨_, rfl⟩
  have hLl : L.length ≤ 12 := by rw [hL]; exact fewH_len _ _ _
  have hLz : Szd 140737488351232 L := by rw [hL]; exact (fewH_szd L0 12 200).mono (by omega)
  have hLb : bulkV L ≤ 900000 := by
    have h1 : Szd 200 L := by rw [hL]; exact fewH_szd L0 12 200
    have h2 := h1.bulk
    have h3 : (200 + 2) * L.length ≤ 202 * 12 := Nat.mul_le_mul_left _ hLl
    omega
  have HFew := hid (fewHeaders_any _ L0 12 200 w hv (hz.mono (by unfold maxLen; omega)) (by decide) (by decide))
  rw [← hL] at HFew
  have HP : Hid (∀ v X, G5 X → HdAt X v L → Calls Tryz.prog 5 #[v] X (ExPost (exKn L) X)) := fun v X hX h => extract_any v L X hX h hLz (by omega) (by omega)
  have HQ : Hid (∀ v X, HdAt X v L → Calls Tryz.prog 6 #[v] X (RxPost (exKn L) X)) := fun v X h => rextract_any v L X h hLz (by omega) (by omega)
  obtain ⟨bk, hbk⟩ : ∃ b, blkV L d = b := ⟨_, rfl⟩
  have HBl : Hid (∀ v X, G5 X → HdAt X v L → Calls Tryz.prog 8 #[v, .int .i64 d] X fun e w' => e = .returned (.bool bk) ∧ Below X.heap.size X w') := fun v X hX h => by
    rw [← hbk]; exact blocked_any v L d X hX h hLz (by omega) (by omega)
  have HrB : Hid (∀ v X, HdAt X v L → Calls Tryz.prog 9 #[v, .int .i64 d] X fun e w' => e = .returned (.bool bk) ∧ Below X.heap.size X w') := fun v X h => by
    rw [← hbk]; exact rblocked_any v L d X h hLz (by omega) (by omega)
  have hpl : (exKn L).1.params.length ≤ 1000000 := by
    unfold exKn
    rw [← extK_all]
    exact extK_few _ (fun p hp => Nat.le_trans (pcsV_le L _ p hp) (by omega)) _ (Nat.le_refl _)
  unfold ExPost at HP
  unfold RxPost at HQ
  generalize exKn L = st at *
  obtain ⟨⟨tj, tn, ps⟩, fd⟩ := st
  simp only at HP HQ hpl
  unfold knVal at HP HQ
  generalize ba tj = A at *
  generalize ba tn = M at *
  clear hL hv hz hLz hLb hbk
  go_enter Tryz.func3, Tryz.ntmps3
  go_wp2_with fail
  refine HFew.out.mono ?_
  rintro e w1 ⟨v1, rfl, ho1, hb1⟩
  have H1 := hid (own_hd ho1)
  obtain ⟨s1, s2, s3, rfl⟩ := own_slice ho1
  have HB1 := hid hb1
  clear ho1 HFew hb1
  go_wp2_with fail
  refine (HP.out _ _ (HG.out.kept HB1.out) H1.out).mono ?_
  rintro e w2 ⟨v2, rfl, ho2, hb2⟩
  obtain ⟨p1, p2, p3, rfl⟩ := own_slice ho2
  have hx2 : Below w2.heap.size w2 (w2.alloc (.cells #[.string A, .string M, .slice p1 p2 p3] 26)) := (Below.refl _ w2).alloc (Nat.le_refl _) _
  have HK2 := hid ((own_hd ho2).kept hx2)
  have HH2 := hid ((H1.out.kept hb2).kept hx2)
  have HB2 := hid (belowT (belowT HB1.out hb2) hx2)
  have HT2 := hid (show Tri (w2.alloc (.cells #[.string A, .string M, .slice p1 p2 p3] 26)) w2.heap.size A M (.slice p1 p2 p3) from heap_alloc_new _ _)
  clear ho2 hb2 hx2 H1 HB1
  go_wp2_with fail
  generalize w2.alloc (.cells #[.string A, .string M, .slice p1 p2 p3] 26) = W2 at *
  generalize w2.heap.size = pa at *
  refine (HQ.out _ _ HH2.out).mono ?_
  rintro e w3 ⟨v3, rfl, ho3, hb3⟩
  obtain ⟨r1, r2, r3, rfl⟩ := own_slice ho3
  have hx3 : Below w3.heap.size w3 (w3.alloc (.cells #[.string A, .string M, .slice r1 r2 r3] 31)) := (Below.refl _ w3).alloc (Nat.le_refl _) _
  have HK3 := hid ((own_hd ho3).kept hx3)
  have HK2a := hid ((HK2.out.kept hb3).kept hx3)
  have HH3 := hid ((HH2.out.kept hb3).kept hx3)
  have HB3 := hid (belowT (belowT HB2.out hb3) hx3)
  have HT2a := hid ((HT2.out.kept hb3).kept hx3)
  have HT3 := hid (show TriR (w3.alloc (.cells #[.string A, .string M, .slice r1 r2 r3] 31)) w3.heap.size A M (.slice r1 r2 r3) from heap_alloc_new _ _)
  clear ho3 hb3 hx3 HK2 HH2 HB2 HT2
  obtain ⟨x0, x1, x2⟩ := HT2a.out.cells
  obtain ⟨y0, y1, y2⟩ := HT3.out.cells
  cases fd
  all_goals
    go_wp2_with fail
    generalize w3.alloc (.cells #[.string A, .string M, .slice r1 r2 r3] 31) = W3 at *
    refine (lsame_any A M _ _ ps _ HK2a.out HK3.out hpl).mono ?_
    rintro e w4 ⟨rfl, hb4⟩
    have HH4 := hid (HH3.out.kept hb4)
    have HB4 := hid (belowT HB3.out hb4)
    clear hb4 x0 x1 x2 y0 y1 y2
    go_wp2_with fail
    refine (HBl.out _ _ (HG.out.kept HB4.out) HH4.out).mono ?_
    rintro e w5 ⟨rfl, hb5⟩
    have HH5 := hid (HH4.out.kept hb5)
    have HB5 := hid (belowT HB4.out hb5)
    clear hb5
    go_wp2_with fail
    refine (HrB.out _ _ HH5.out).mono ?_
    rintro e w6 ⟨rfl, hb6⟩
    have HB6 := hid (belowT HB5.out hb6)
    clear hb6
    cases bk
    all_goals
      go_wp2_with fail
      refine (known6_any _ (HG.out.kept HB6.out)).mono ?_
      rintro e w7 ⟨rfl, hb7⟩
      go_wp2
      go_ret
      exact ⟨rfl, belowT HB6.out hb7⟩

end Go.Proofs.YtiemggepdeaogaaGreatDoor
