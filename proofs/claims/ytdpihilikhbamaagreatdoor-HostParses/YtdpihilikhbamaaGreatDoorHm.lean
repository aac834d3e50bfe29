/-
  What a text of eight pieces is read as: plain facts.
  What the document's own answers of chapter 2 are, held against host's: plain facts.
  What the document's own answers of chapter 2 are, held against host's: pieces, eight of them, and coded names.
-/
import Derived.Test.YtdpihilikhbamaaGreatDoorHh
import Derived.Test.YtdpihilikhbamaaGreatDoorVm
import Derived.Test.YtdpihilikhbamaaGreatDoorHf
set_option linter.unusedSimpArgs false
set_option linter.unusedVariables false
namespace Go.Proofs.YtdpihilikhbamaaGreatDoor

def noPair : List UInt8 → Bool
  | a :: b :: l => !(a == 58 && b == 58) && noPair (b :: l)
  | _ => true

theorem np_cons (x : UInt8) (l : List UInt8) (h : x ≠ 58) (hl : noPair l = true) : noPair (x :: l) = true := by
  cases l with
  | nil => rfl
  | cons b l => simp [noPair, h, hl]

theorem np_pre : ∀ (h t : List UInt8), 58 ∉ h → noPair t = true → noPair (h ++ t) = true
  | [], _, _, ht => ht
  | x :: h, t, hx, ht => np_cons x (h ++ t) (fun e => hx (by simp [e])) (np_pre h t (fun e => hx (by simp [e])) ht)

theorem np_colon (c : UInt8) (t : List UInt8) (hc : c ≠ 58) (h : noPair (c :: t) = true) : noPair (58 :: c :: t) = true := by
  simp [noPair, hc, h]

theorem np_left : ∀ (a b : List UInt8), noPair (a ++ b) = true → noPair a = true
  | [], _, _ => rfl
  | [_], _, _ => rfl
  | x :: y :: a, b, h => by
    have h' : noPair (x :: y :: (a ++ b)) = true := h
    simp only [noPair, Bool.and_eq_true] at h' ⊢
    exact ⟨h'.1, np_left (y :: a) b h'.2⟩

theorem joined_np : ∀ (x : List Nat), x ≠ [] → noPair (joined x ++ [58]) = true ∧ ∃ c r, joined x = c :: r ∧ c ≠ 58
  | [], h => absurd rfl h
  | [n], _ => by
    rw [joined_one]
    refine ⟨np_pre _ _ (hex16_no58 n) rfl, ?_⟩
    cases he : hex16 n with
    | nil => exact absurd he (hex16_ne n)
    | cons c r => exact ⟨c, r, rfl, fun e => hex16_no58 n (by rw [he, e]; simp)⟩
  | n :: m :: l, _ => by
    obtain ⟨h1, c, r, e, hc⟩ := joined_np (m :: l) (by simp)
    rw [joined_cons]
    constructor
    · rw [List.append_assoc]
      refine np_pre _ _ (hex16_no58 n) ?_
      rw [List.append_assoc, e]
      rw [e] at h1
      exact np_colon c _ hc h1
    · cases he : hex16 n with
      | nil => exact absurd he (hex16_ne n)
      | cons c r => exact ⟨c, _, rfl, fun e => hex16_no58 n (by rw [he, e]; simp)⟩

theorem index2_none : ∀ (l : List UInt8), noPair l = true → Lib.index l [58, 58] = -1
  | [], _ => rfl
  | [a], _ => by
    unfold Lib.index
    rw [index2_none [] rfl]
    simp [List.isPrefixOf]
  | a :: b :: l, h => by
    simp only [noPair, Bool.and_eq_true] at h
    unfold Lib.index
    rw [index2_none (b :: l) h.2]
    have : [58, 58].isPrefixOf (a :: b :: l) = false := by
      simp [List.isPrefixOf]
      have := h.1
      simp at this
      intro e e2; rcases this with h | h
      · exact h e.symm
      · exact h e2.symm
    rw [this]; rfl

theorem index2_some : ∀ (a r : List UInt8), noPair (a ++ [58]) = true → Lib.index (a ++ 58 :: 58 :: r) [58, 58] = a.length
  | [], r, _ => by unfold Lib.index; simp [List.isPrefixOf]
  | x :: a, r, h => by
    have hx : [58, 58].isPrefixOf (x :: (a ++ 58 :: 58 :: r)) = false := by
      cases a with
      | nil =>
        simp [noPair] at h
        simp [List.isPrefixOf]
        exact fun e => h e.symm
      | cons y a =>
        have h' : noPair (x :: y :: (a ++ [58])) = true := h
        simp only [noPair, Bool.and_eq_true] at h'
        have := h'.1
        simp at this
        simp [List.isPrefixOf]
        intro e e2; rcases this with h | h
        · exact h e.symm
        · exact h e2.symm
    have h2 : noPair (a ++ [58]) = true := by
      cases a with
      | nil => rfl
      | cons y a =>
        have h' : noPair (x :: y :: (a ++ [58])) = true := h
        simp only [noPair, Bool.and_eq_true] at h'
        exact h'.2
    rw [List.cons_append]
    unfold Lib.index
    rw [index2_some a r h2, hx]
    have h1 : ((a.length : Int) == -1) = false := by rw [beq_eq_false_iff_ne]; omega
    simp [h1]

theorem cut2_none (l : List UInt8) (h : noPair l = true) : Lib.cut l [58, 58] = (l, [], false) := by
  unfold Lib.cut
  rw [index2_none l h]; rfl

theorem cut2_some (a r : List UInt8) (h : noPair (a ++ [58]) = true) : Lib.cut (a ++ ([58, 58] ++ r)) [58, 58] = (a, r, true) := by
  unfold Lib.cut
  rw [show a ++ ([58, 58] ++ r) = a ++ 58 :: 58 :: r from rfl, index2_some a r h]
  simp

/-! A piece is read as its number. -/
def fold16 (n : Nat) (l : List UInt8) : Nat := l.foldl (fun a c => a * 16 + dig16 c) n

theorem fold_digs : ∀ (f u : Nat) (T : List UInt8), u < 16 ^ f → f ≠ 0 → fold16 0 (digsN 16 f u T) = fold16 u T
  | 0, _, _, _, h => absurd rfl h
  | f + 1, u, T, hu, _ => by
    by_cases hn : u < 16
    · rw [digsN_last _ _ _ _ hn]
      show fold16 (0 * 16 + dig16 (digC u)) T = _
      rw [dig16_digC u hn, Nat.zero_mul, Nat.zero_add]
    · rw [digsN_more _ _ _ _ hn]
      have h1 : u / 16 < 16 ^ f := by rw [Nat.div_lt_iff_lt_mul (by omega)]; rw [Nat.pow_succ] at hu; exact hu
      have hf : f ≠ 0 := by rintro rfl; simp at h1; omega
      rw [fold_digs f (u / 16) _ h1 hf]
      show fold16 (u / 16 * 16 + dig16 (digC (u % 16))) T = _
      rw [dig16_digC _ (Nat.mod_lt _ (by omega)), show u / 16 * 16 + u % 16 = u by omega]

theorem digsN_len (base : Nat) : ∀ (f n : Nat) (T : List UInt8), (digsN base f n T).length ≤ f + T.length
  | 0, _, T => by simp [digsN]
  | f + 1, n, T => by
    by_cases h : n < base
    · rw [digsN_last _ _ _ _ h]; simp; omega
    · rw [digsN_more _ _ _ _ h]
      have := digsN_len base f (n / base) (digC (n % base) :: T)
      simp at this
      omega

def hexC (c : UInt8) : Bool := decide (dig16 c < 16) && c != 46

theorem scan_hex (whole : Option Nat) (last : Bool) : ∀ (l : List UInt8) (i n : Nat), l.all hexC = true → i + l.length ≤ 4 → (i ≠ 0 ∨ l ≠ []) → scanP whole last i n l = some [fold16 n l]
  | [], i, n, _, _, h => by
    have h0 : i ≠ 0 := h.resolve_right (by simp)
    rw [scanP, if_neg h0]; rfl
  | c :: l, i, n, hall, hl, _ => by
    simp only [List.all_cons, Bool.and_eq_true, hexC, decide_eq_true_eq, bne_iff_ne, ne_eq] at hall
    simp only [List.length_cons] at hl
    rw [scanP, if_neg (fun h => hall.1.2 h.1), if_pos ⟨hall.1.1, by omega⟩]
    rw [scan_hex whole last l (i + 1) _ (by simpa [hexC] using hall.2) (by omega) (.inl (by omega))]
    rfl

theorem hex16_all (n : Nat) : (hex16 n).all hexC = true := digsN_all hexC 16 (by omega) (by decide) 4 n [] rfl

theorem piece_hex (last : Bool) (n : Nat) (h : n < 65536) : pieceV last (hex16 n) = some [n] := by
  have hlen : (hex16 n).length ≤ 4 := digsN_len 16 4 n []
  unfold pieceV
  rw [scan_hex _ last _ 0 0 (hex16_all n) (by omega) (.inr (hex16_ne n))]
  have : fold16 0 (hex16 n) = n := by
    have := fold_digs 4 n [] (by omega) (by omega)
    simpa [hex16, fold16] using this
  rw [this]

theorem pieces_joined (atEnd : Bool) : ∀ (y : List Nat) (f : Nat) (out : List Nat), y ≠ [] → y.length ≤ f → (∀ n ∈ y, n < 65536) → piecesN atEnd f out (joined y) true = some (out ++ y)
  | [], _, _, h, _, _ => absurd rfl h
  | [n], f + 1, out, _, _, h16 => by
    have hc : Lib.cut (joined [n]) [58] = (hex16 n, [], false) := by rw [joined_one]; exact cut_none _ _ (hex16_no58 n)
    rw [piecesN, hc]
    simp only [piece_hex _ n (h16 n (by simp))]
    rw [piecesN]
  | n :: m :: y, f + 1, out, _, hl, h16 => by
    have hc : Lib.cut (joined (n :: m :: y)) [58] = (hex16 n, joined (m :: y), true) := by rw [joined_cons]; exact cut_some _ _ _ (hex16_no58 n)
    rw [piecesN, hc]
    simp only [piece_hex _ n (h16 n (by simp))]
    rw [pieces_joined atEnd (m :: y) f (out ++ [n]) (by simp) (by simpa using hl) (fun k hk => h16 k (by simp [hk]))]
    simp
  | _ :: _, 0, _, _, hl, _ => by simp at hl

theorem joined_empty (y : List Nat) : joined y = [] ↔ y = [] := by
  constructor
  · intro h
    cases y with
    | nil => rfl
    | cons n y =>
      obtain ⟨_, c, r, e, _⟩ := joined_np (n :: y) (by simp)
      rw [e] at h; simp at h
  · rintro rfl; exact joined_nil

theorem pieces_of (atEnd : Bool) (y : List Nat) (hl : y.length ≤ 8) (h16 : ∀ n ∈ y, n < 65536) : piecesV (joined y) atEnd = some y := by
  unfold piecesV
  by_cases h : y = []
  · subst h
    rw [joined_nil]; rfl
  · have hj : joined y ≠ [] := fun e => h ((joined_empty y).1 e)
    rw [decide_eq_true hj, pieces_joined atEnd y 8 [] h hl h16]; rfl

/-! The run is noughts. -/
theorem zeros_get : ∀ (l : List Nat) (j : Nat), j < zeros l → l[j]? = some 0
  | [], j, h => by simp [zeros] at h
  | a :: l, j, h => by
    rw [zeros] at h
    split at h
    · rename_i ha
      cases j with
      | zero => simp [ha]
      | succ j => simpa using zeros_get l j (by omega)
    · omega

theorem lrunN_zero (x : List Nat) : ∀ (l : List Nat) (i fr to : Nat), l = x.drop i → (∀ j, fr ≤ j → j < to → x[j]? = some 0) → ∀ j, (lrunN 0 i fr to l).1 ≤ j → j < (lrunN 0 i fr to l).2 → x[j]? = some 0
  | [], i, fr, to, _, h => h
  | n :: l, i, fr, to, hd, h => by
    have hd' : l = x.drop (i + 1) := by
      rw [← List.drop_drop, ← hd]; rfl
    rw [lrunN]
    split
    · refine lrunN_zero x l (i + 1) i (i + zeros (n :: l)) hd' (fun j h1 h2 => ?_)
      have := zeros_get (n :: l) (j - i) (by omega)
      rw [hd, List.getElem?_drop, show i + (j - i) = j by omega] at this
      exact this
    · exact lrunN_zero x l (i + 1) fr to hd' h

theorem run_fill (x : List Nat) (h8 : x.length = 8) (hft : (lrun x).1 < (lrun x).2) (ht : (lrun x).2 ≤ 8) : x.take (lrun x).1 ++ List.replicate (8 - (lrun x).1 - (8 - (lrun x).2)) 0 ++ x.drop (lrun x).2 = x := by
  have hz := lrunN_zero x x 0 0 0 rfl (fun j _ h => absurd h (by omega))
  have hz' : ∀ j, (lrun x).1 ≤ j → j < (lrun x).2 → x[j]? = some 0 := hz
  generalize (lrun x).1 = fr at *
  generalize (lrun x).2 = to at *
  refine List.ext_getElem? fun j => ?_
  by_cases h1 : j < fr
  · rw [List.append_assoc, List.getElem?_append_left (by simp; omega), List.getElem?_take_of_lt h1]
  · by_cases h2 : j < to
    · rw [List.getElem?_append_left (by simp; omega), List.getElem?_append_right (by simp; omega), List.getElem?_replicate, if_pos (by simp; omega), hz' j (by omega) h2]
    · rw [List.getElem?_append_right (by simp; omega), List.getElem?_drop]
      congr 1
      simp
      omega

theorem six_text6 (x : List Nat) (h8 : x.length = 8) (h16 : ∀ n ∈ x, n < 65536) : sixV (text6 x) = some x := by
  obtain ⟨hl1, hl2⟩ := lrun_le x
  rw [h8] at hl2
  by_cases h : (lrun x).1 = (lrun x).2
  · rw [text6_same h]
    have hnp : noPair (joined x) = true := np_left _ _ (joined_np x (by rintro rfl; simp at h8)).1
    unfold sixV
    rw [cut2_none _ hnp]
    have hp := pieces_of true x (by omega) h16
    have hn : piecesV [] true = some [] := rfl
    simp only [Bool.not_false, hp, hn]
    simp [h8]
  · rw [text6_run h]
    have hnp : noPair (joined (x.take (lrun x).1) ++ [58]) = true := by
      by_cases h0 : x.take (lrun x).1 = []
      · rw [h0, joined_nil]; rfl
      · exact (joined_np _ h0).1
    unfold sixV
    rw [cut2_some _ _ hnp]
    have hp1 := pieces_of false (x.take (lrun x).1) (by simp; omega) (fun n hn => h16 n (List.mem_of_mem_take hn))
    have hp2 := pieces_of true (x.drop (lrun x).2) (by simp; omega) (fun n hn => h16 n (List.mem_of_mem_drop hn))
    have e1 : (x.take (lrun x).1).length = (lrun x).1 := by simp; omega
    have e2 : (x.drop (lrun x).2).length = 8 - (lrun x).2 := by simp; omega
    simp only [Bool.not_true, hp1, hp2, e1, e2]
    rw [if_pos ⟨by omega, by simp; omega⟩, run_fill x h8 (by omega) hl2]

end Go.Proofs.YtdpihilikhbamaaGreatDoor

namespace Go.Proofs.YtdpihilikhbamaaGreatDoor

/-- Cut at each such byte. -/
def cutL (c : UInt8) : List UInt8 → List (List UInt8)
  | [] => [[]]
  | x :: l => if x = c then [] :: cutL c l else match cutL c l with
    | [] => [[x]]
    | h :: t => (x :: h) :: t

theorem cutL_ne (c : UInt8) (l : List UInt8) : cutL c l ≠ [] := by
  cases l with
  | nil => simp [cutL]
  | cons x l =>
    rw [cutL]
    split
    · simp
    · split <;> simp

theorem cutL_none (c : UInt8) : ∀ l : List UInt8, c ∉ l → cutL c l = [l]
  | [], _ => rfl
  | x :: l, h => by
    rw [cutL, if_neg (fun e => h (by simp [e])), cutL_none c l (fun e => h (by simp [e]))]

theorem cutL_some (c : UInt8) : ∀ (a r : List UInt8), c ∉ a → cutL c (a ++ c :: r) = a :: cutL c r
  | [], r, _ => by rw [List.nil_append, cutL, if_pos rfl]
  | x :: a, r, h => by
    rw [List.cons_append, cutL, if_neg (fun e => h (by simp [e])), cutL_some c a r (fun e => h (by simp [e]))]

theorem first_split (c : UInt8) : ∀ l : List UInt8, c ∉ l ∨ ∃ a r, c ∉ a ∧ l = a ++ c :: r
  | [] => .inl (by simp)
  | x :: l => by
    by_cases hx : x = c
    · exact .inr ⟨[], l, by simp, by simp [hx]⟩
    · rcases first_split c l with h | ⟨a, r, ha, rfl⟩
      · exact .inl (by simp [h]; exact fun e => hx e.symm)
      · exact .inr ⟨x :: a, r, by simp [ha]; exact fun e => hx e.symm, rfl⟩

theorem cutL_ind (c : UInt8) {P : List UInt8 → Prop} (h1 : ∀ l, c ∉ l → P l) (h2 : ∀ a r, c ∉ a → P r → P (a ++ c :: r)) : ∀ l, P l := by
  intro l
  generalize hn : l.length = n
  induction n using Nat.strongRecOn generalizing l with
  | _ n ih =>
    rcases first_split c l with h | ⟨a, r, ha, rfl⟩
    · exact h1 l h
    · exact h2 a r ha (ih r.length (by rw [← hn]; simp; omega) r rfl)

theorem cutL_snoc (c : UInt8) : ∀ l : List UInt8, cutL c (l ++ [c]) = cutL c l ++ [[]] :=
  cutL_ind c (fun l h => by rw [cutL_some c l [] h, cutL_none c l h]; rfl)
    (fun a r h ih => by rw [List.append_assoc, List.cons_append, cutL_some c a _ h, ih, cutL_some c a r h]; rfl)

theorem takeWhile_stop {α : Type} (p : α → Bool) (y : α) (hy : p y = false) : ∀ (xs ys : List α), (xs ++ y :: ys).takeWhile p = xs.takeWhile p
  | [], ys => by simp [List.takeWhile, hy]
  | x :: xs, ys => by
    simp only [List.cons_append, List.takeWhile]
    split
    · rw [takeWhile_stop p y hy xs ys]
    · rfl

theorem lastLab_app (a r : List UInt8) : lastLab (a ++ 46 :: r) = lastLab r := by
  unfold lastLab
  rw [List.reverse_append, List.reverse_cons, List.append_assoc, List.singleton_append, takeWhile_stop _ 46 (by decide)]

theorem cutL_last : ∀ l : List UInt8, (cutL 46 l).getLast? = some (lastLab l) :=
  cutL_ind 46 (fun l h => by rw [cutL_none 46 l h, lastLab_none l (fun c hc e => h (e ▸ hc))]; rfl)
    (fun a r h ih => by
      rw [cutL_some 46 a r h, lastLab_app, List.getLast?_cons, ih]; rfl)

theorem lastLab_nil : ∀ l : List UInt8, lastLab l = [] → l = [] ∨ ∃ t, l = t ++ [46] := by
  intro l h
  rcases List.eq_nil_or_concat l with rfl | ⟨t, c, rfl⟩
  · exact .inl rfl
  · right
    refine ⟨t, ?_⟩
    by_cases hc : c = 46
    · rw [hc]; simp
    · exfalso
      unfold lastLab at h
      simp [hc] at h

/-- The labels: without an empty last one, if it isn't the only one. -/
def labL (l : List UInt8) : List (List UInt8) := if 1 < (cutL 46 l).length ∧ (cutL 46 l).getLast? = some [] then (cutL 46 l).dropLast else cutL 46 l

theorem labL_eq (l : List UInt8) : labL l = cutL 46 (noDot l) := by
  unfold labL
  by_cases h : ∃ t, l = t ++ [46]
  · obtain ⟨t, rfl⟩ := h
    rw [noDot_dot, cutL_snoc]
    rw [if_pos]
    · simp
    · refine ⟨?_, by simp⟩
      have := cutL_ne 46 t
      have : 0 < (cutL 46 t).length := List.length_pos_iff.2 this
      simp; omega
  · rw [noDot_of l (fun t e => h ⟨t, e⟩), if_neg]
    rintro ⟨h1, h2⟩
    rw [cutL_last] at h2
    rcases lastLab_nil l (Option.some.inj h2) with rfl | h3
    · simp [cutL] at h1
    · exact h h3

/-! Numbers with another lid. -/
def valC (cap base : Nat) : Nat → List UInt8 → Option Nat
  | n, [] => some n
  | n, c :: l => if dig16 c < base then valC cap base (min (n * base + dig16 c) cap) l else none

theorem valC_isSome (cap base : Nat) : ∀ (l : List UInt8) (n : Nat), (valC cap base n l).isSome = l.all fun c => decide (dig16 c < base)
  | [], n => rfl
  | c :: l, n => by
    rw [valC]
    by_cases h : dig16 c < base
    · rw [if_pos h, valC_isSome cap base l]; simp [h]
    · rw [if_neg h]; simp [h]

theorem valN_isSome (base : Nat) : ∀ (l : List UInt8) (n : Nat), (valN base n l).isSome = l.all fun c => decide (dig16 c < base)
  | [], n => rfl
  | c :: l, n => by
    rw [valN]
    by_cases h : dig16 c < base
    · rw [if_pos h, valN_isSome base l]; simp [h]
    · rw [if_neg h]; simp [h]

theorem valC_le (cap base : Nat) : ∀ (l : List UInt8) (n m : Nat), n ≤ cap → valC cap base n l = some m → m ≤ cap
  | [], n, m, h, e => by rw [valC] at e; injection e with e; omega
  | c :: l, n, m, h, e => by
    rw [valC] at e
    split at e
    · exact valC_le cap base l _ m (by omega) e
    · cases e

/-- The lid makes no difference below itself. -/
theorem valC_N (cap base : Nat) (hb : 1 ≤ base) (hc : 4294967296 ≤ cap) : ∀ (l : List UInt8) (n m : Nat), n = min m 4294967296 → valN base n l = (valC cap base m l).map fun k => min k 4294967296
  | [], n, m, h => by rw [valN, valC, h]; rfl
  | c :: l, n, m, h => by
    rw [valN, valC]
    by_cases hd : dig16 c < base
    · rw [if_pos hd, if_pos hd]
      refine valC_N cap base hb hc l _ _ ?_
      by_cases hm : m < 4294967296
      · have : n = m := by omega
        subst this
        omega
      · have e : n = 4294967296 := by omega
        subst e
        have h1 : 4294967296 * 1 ≤ 4294967296 * base := Nat.mul_le_mul_left _ hb
        have h2 : 4294967296 * base ≤ m * base := Nat.mul_le_mul_right _ (by omega)
        omega
    · rw [if_neg hd, if_neg hd]; rfl

/-- A label's number, of the document: at most 2 to the power of 40. -/
def lid : Nat := 1099511627776
def rnumV (x : List UInt8) : Option Nat :=
  if marked x then valC lid 16 0 (x.drop 2)
  else if 1 < x.length ∧ x.head? = some 48 then valC lid 8 0 (x.drop 1)
  else if x = [] then none else valC lid 10 0 x

theorem rnumV_eq (x : List UInt8) : numV x = (rnumV x).map fun k => min k 4294967296 := by
  unfold numV rnumV
  by_cases hm : marked x = true
  · rw [if_pos hm, if_pos hm]
    exact valC_N lid 16 (by omega) (by decide) _ 0 0 rfl
  · rw [if_neg hm, if_neg hm]
    match x with
    | [] => simp
    | [c] =>
      rw [if_neg (by simp)]
      simp only [List.cons_ne_nil, if_false]
      by_cases hc : c = 48
      · subst hc
        rw [if_pos rfl]
        rfl
      · rw [if_neg hc]
        exact valC_N lid 10 (by omega) (by decide) _ 0 0 rfl
    | c :: d :: r =>
      simp only
      by_cases hc : c = 48
      · subst hc
        rw [if_pos rfl, if_pos ⟨by simp, rfl⟩]
        exact valC_N lid 8 (by omega) (by decide) _ 0 0 rfl
      · rw [if_neg hc, if_neg (by simp [hc])]
        simp only [reduceCtorEq, if_false]
        exact valC_N lid 10 (by omega) (by decide) _ 0 0 rfl

theorem rnumV_le (x : List UInt8) (n : Nat) (h : rnumV x = some n) : n ≤ lid := by
  unfold rnumV at h
  split at h
  · exact valC_le _ _ _ _ _ (by decide) h
  · split at h
    · exact valC_le _ _ _ _ _ (by decide) h
    · split at h
      · cases h
      · exact valC_le _ _ _ _ _ (by decide) h

/-! Numbered. -/
def rnumbered (x : List UInt8) : Bool := (decide (x ≠ []) && x.all fun c => decide (dig16 c < 10)) || (marked x && (x.drop 2).all fun c => decide (dig16 c < 16))

theorem marked_form (x : List UInt8) (h : marked x = true) : ∃ c r, x = 48 :: c :: r ∧ dig16 c = 16 := by
  unfold marked Lib.hasPrefix at h
  rw [Bool.or_eq_true, List.isPrefixOf_iff_prefix, List.isPrefixOf_iff_prefix] at h
  rcases h with ⟨t, rfl⟩ | ⟨t, rfl⟩
  · exact ⟨120, t, rfl, by decide⟩
  · exact ⟨88, t, rfl, by decide⟩

theorem rnumbered_eq (l : List UInt8) : numberedV l = rnumbered (lastLab (noDot l)) := by
  unfold numberedV rnumbered
  generalize lastLab (noDot l) = x
  unfold valV
  rw [valN_isSome, valN_isSome]
  cases hm : marked x with
  | true =>
    obtain ⟨c, r, rfl, hc⟩ := marked_form x hm
    simp [hc]
  | false => simp

/-! Four. -/
def fourL : Nat → Nat → List (List UInt8) → Option Nat
  | 0, _, _ => none
  | _ + 1, _, [] => none
  | r + 1, h, [x] => match numV x with
    | none => none
    | some n => if n < 2 ^ (8 * (r + 1)) then some (h * 2 ^ (8 * (r + 1)) + n) else none
  | r + 1, h, x :: y :: L => match numV x with
    | none => none
    | some n => if 255 < n then none else fourL r (h * 256 + n) (y :: L)

theorem fourN_L : ∀ (r h : Nat) (l : List UInt8), fourN r h l = fourL r h (cutL 46 l)
  | 0, h, l => by cases cutL 46 l <;> rfl
  | r + 1, h, l => by
    rcases first_split 46 l with h1 | ⟨a, t, ha, rfl⟩
    · rw [fourN, cut_none l 46 h1, cutL_none 46 l h1, fourL]
      cases numV l <;> rfl
    · rw [fourN, cut_some a t 46 ha, cutL_some 46 a t ha]
      obtain ⟨y, L, hy⟩ : ∃ y L, cutL 46 t = y :: L := by
        cases e : cutL 46 t with
        | nil => exact absurd e (cutL_ne 46 t)
        | cons y L => exact ⟨y, L, rfl⟩
      rw [hy, fourL]
      cases numV a with
      | none => rfl
      | some n => simp only [if_true]; rw [fourN_L r (h * 256 + n) t, hy]

theorem fourV_L (l : List UInt8) : fourV l = fourL 4 0 (labL l) := by
  rw [labL_eq, ← fourN_L]; rfl

theorem fourL_many : ∀ (r h : Nat) (L : List (List UInt8)), r < L.length → fourL r h L = none
  | 0, h, L, _ => by cases L <;> rfl
  | r + 1, h, [], hl => by simp at hl
  | r + 1, h, [x], hl => by simp at hl
  | r + 1, h, x :: y :: L, hl => by
    rw [fourL]
    cases numV x with
    | none => rfl
    | some n =>
      simp only
      rw [fourL_many r _ (y :: L) (by simpa using hl)]
      simp

theorem fourL_bad : ∀ (r h : Nat) (L : List (List UInt8)) (x : List UInt8), x ∈ L → numV x = none → fourL r h L = none
  | 0, h, L, x, _, _ => by cases L <;> rfl
  | r + 1, h, [], x, hx, _ => by simp at hx
  | r + 1, h, [y], x, hx, hn => by
    simp at hx; subst hx
    rw [fourL, hn]
  | r + 1, h, y :: z :: L, x, hx, hn => by
    rw [fourL]
    cases hy : numV y with
    | none => rfl
    | some n =>
      simp only
      have hx' : x ∈ z :: L := by
        rcases List.mem_cons.1 hx with rfl | h
        · rw [hn] at hy; cases hy
        · exact h
      rw [fourL_bad r _ (z :: L) x hx' hn]
      simp

end Go.Proofs.YtdpihilikhbamaaGreatDoor

namespace Go.Proofs.YtdpihilikhbamaaGreatDoor

def hx (c : UInt8) : Bool := decide (dig16 c < 16)
def halves (m : Nat) : List Nat := [m / 65536, m % 65536]

/-- A piece of one to four digits. -/
def hexP (p : List UInt8) : Option (List Nat) := if p ≠ [] ∧ p.length ≤ 4 ∧ p.all hx = true then some [fold16 0 p] else none

theorem scan_all (whole : Option Nat) (last : Bool) : ∀ (l : List UInt8) (i n : Nat), i ≤ 4 → (last = true → 46 ∉ l) → scanP whole last i n l = if (i ≠ 0 ∨ l ≠ []) ∧ i + l.length ≤ 4 ∧ l.all hx = true then some [fold16 n l] else none
  | [], i, n, hi, _ => by
    rw [scanP]
    by_cases h : i = 0
    · rw [if_pos h, if_neg (by simp [h])]
    · rw [if_neg h, if_pos ⟨.inl h, by simpa using hi, rfl⟩]; rfl
  | c :: l, i, n, hi, hl => by
    rw [scanP, if_neg (by rintro ⟨rfl, h⟩; exact hl h (by simp))]
    by_cases hd : dig16 c < 16 ∧ i ≠ 4
    · rw [if_pos hd, scan_all whole last l (i + 1) _ (by omega) (fun h e => hl h (by simp [e]))]
      have e : (fold16 (n * 16 + dig16 c) l) = fold16 n (c :: l) := rfl
      rw [e]
      by_cases h : i + (c :: l).length ≤ 4 ∧ (c :: l).all hx = true
      · have h1 : i + 1 + l.length ≤ 4 := by have := h.1; simp at this; omega
        have h2 : l.all hx = true := by have := h.2; simp only [List.all_cons, Bool.and_eq_true] at this; exact this.2
        rw [if_pos ⟨.inl (by omega), h1, h2⟩, if_pos ⟨.inr (by simp), h⟩]
      · have h' : ¬ ((i + 1 ≠ 0 ∨ l ≠ []) ∧ i + 1 + l.length ≤ 4 ∧ l.all hx = true) := by
          rintro ⟨_, h1, h2⟩
          exact h ⟨by simp; omega, by simp only [List.all_cons, h2, Bool.and_true, hx, decide_eq_true_eq]; exact hd.1⟩
        rw [if_neg h', if_neg (fun g => h g.2)]
    · rw [if_neg hd, if_neg]
      rintro ⟨_, h1, h2⟩
      simp only [List.all_cons, Bool.and_eq_true, hx, decide_eq_true_eq] at h2
      simp at h1
      exact hd ⟨h2.1, by omega⟩

theorem pieceV_hex (last : Bool) (p : List UInt8) (h : last = true → 46 ∉ p) : pieceV last p = hexP p := by
  unfold pieceV hexP
  rw [scan_all _ _ _ _ _ (by omega) h]
  congr 1
  simp

theorem scan_dotted (whole : Option Nat) : ∀ (a r : List UInt8) (i n : Nat), i ≤ 4 → 46 ∉ a → scanP whole true i n (a ++ 46 :: r) = if i + a.length ≤ 4 ∧ a.all hx = true then whole.map halves else none
  | [], r, i, n, hi, _ => by
    rw [List.nil_append, scanP, if_pos ⟨rfl, rfl⟩, if_pos ⟨by simpa using hi, rfl⟩]; rfl
  | c :: a, r, i, n, hi, ha => by
    rw [List.cons_append, scanP, if_neg (by rintro ⟨rfl, h⟩; exact ha (by simp))]
    by_cases hd : dig16 c < 16 ∧ i ≠ 4
    · rw [if_pos hd, scan_dotted whole a r (i + 1) _ (by omega) (fun e => ha (by simp [e]))]
      have hc : hx c = true := by simp [hx, hd.1]
      simp only [List.length_cons, List.all_cons, hc, Bool.true_and]
      rw [show i + 1 + a.length = i + (a.length + 1) by omega]
    · rw [if_neg hd, if_neg]
      rintro ⟨h1, h2⟩
      simp only [List.all_cons, Bool.and_eq_true, hx, decide_eq_true_eq] at h2
      simp at h1
      exact hd ⟨h2.1, by omega⟩

/-! Four decimal numbers. -/
def dotL : Nat → List (List UInt8) → Option Nat
  | n, [] => some n
  | n, x :: L => match plainB x with
    | none => none
    | some b => dotL (n * 256 + b) L

theorem dotN_L : ∀ (r n : Nat) (l : List UInt8), dotN (r + 1) n l = if (cutL 46 l).length = r + 1 then dotL n (cutL 46 l) else none
  | r, n, l => by
    rcases first_split 46 l with h | ⟨a, t, ha, rfl⟩
    · rw [dotN, cut_none l 46 h, cutL_none 46 l h]
      simp only [List.length_singleton, dotL]
      cases plainB l with
      | none => simp
      | some b =>
        cases r with
        | zero => rfl
        | succ r => simp
    · rw [dotN, cut_some a t 46 ha, cutL_some 46 a t ha]
      simp only [List.length_cons, dotL]
      have hne := List.length_pos_iff.2 (cutL_ne 46 t)
      cases plainB a with
      | none => simp
      | some b =>
        cases r with
        | zero =>
          rw [if_neg (by omega)]
          rfl
        | succ r =>
          simp only [ne_eq, Nat.add_one_ne_zero, not_false_eq_true, decide_true, if_true]
          rw [dotN_L r _ t]
          congr 1
          simp

theorem dottedV_L (p : List UInt8) : dottedV p = if (cutL 46 p).length = 4 then dotL 0 (cutL 46 p) else none := dotN_L 3 0 p

theorem valN_up : ∀ (l : List UInt8) (n m : Nat), n ≤ 4294967296 → valN 10 n l = some m → n ≤ m
  | [], n, m, _, h => by rw [valN] at h; injection h with h; omega
  | c :: l, n, m, hn, h => by
    rw [valN] at h
    split at h
    · have := valN_up l _ m (by omega) h
      omega
    · cases h

theorem valN_cons {n m : Nat} {c : UInt8} {l : List UInt8} (h : valN 10 n (c :: l) = some m) : dig16 c < 10 ∧ valN 10 (min (n * 10 + dig16 c) 4294967296) l = some m := by
  rw [valN] at h
  split at h
  · exact ⟨by assumption, h⟩
  · cases h

theorem valN_hx (base : Nat) (hb : base ≤ 16) (l : List UInt8) (n m : Nat) (h : valN base n l = some m) : l.all hx = true := by
  have := valN_isSome base l n
  rw [h] at this
  have h2 := List.all_eq_true.1 this.symm
  rw [List.all_eq_true]
  intro c hc
  have := h2 c hc
  simp only [decide_eq_true_eq] at this
  simp only [hx, decide_eq_true_eq]
  omega

theorem dig16_zero (c : UInt8) (h : dig16 c = 0) : c = 48 := by
  have key : ∀ n < 256, dig16 (UInt8.ofNat n) = 0 → UInt8.ofNat n = 48 := by decide +kernel
  have := key c.toNat c.toNat_lt
  simp at this
  exact this h

theorem plainB_ok (a : List UInt8) (b : Nat) (h : plainB a = some b) : a.length ≤ 4 ∧ a.all hx = true := by
  unfold plainB at h
  cases hv : valV 10 a with
  | none => rw [hv] at h; cases h
  | some n =>
    rw [hv] at h
    simp only at h
    split at h
    · cases h
    · rename_i hn
      refine ⟨?_, valN_hx 10 (by omega) a 0 n hv⟩
      rcases Nat.lt_or_ge 4 a.length with h4 | h4
      · exfalso
        match a, h4 with
        | c :: d :: e :: f :: r, _ =>
          unfold valV at hv
          obtain ⟨h1, hv⟩ := valN_cons hv
          obtain ⟨h2, hv⟩ := valN_cons hv
          obtain ⟨h3, hv⟩ := valN_cons hv
          obtain ⟨h4, hv⟩ := valN_cons hv
          have := valN_up _ _ _ (by omega) hv
          have hc : dig16 c ≠ 0 := fun e => hn (.inr (.inr ⟨by rw [dig16_zero c e]; rfl, by simp⟩))
          have hn1 : ¬ 255 < n := fun e => hn (.inl e)
          omega
      · exact h4

theorem pieceV_last (p : List UInt8) : pieceV true p = if (cutL 46 p).length = 4 then (dotL 0 (cutL 46 p)).map halves else hexP p := by
  rcases first_split 46 p with h | ⟨a, r, ha, rfl⟩
  · rw [pieceV_hex true p (fun _ => h), cutL_none 46 p h, if_neg (by simp)]
  · have e : pieceV true (a ++ 46 :: r) = if 0 + a.length ≤ 4 ∧ a.all hx = true then (dottedV (a ++ 46 :: r)).map halves else none := scan_dotted _ a r 0 0 (by omega) ha
    rw [e, dottedV_L]
    by_cases h4 : (cutL 46 (a ++ 46 :: r)).length = 4
    · rw [if_pos h4, if_pos h4]
      rw [cutL_some 46 a r ha, dotL]
      cases hp : plainB a with
      | none => simp
      | some b =>
        have := plainB_ok a b hp
        rw [if_pos ⟨by omega, this.2⟩]
    · rw [if_neg h4, if_neg h4]
      have : hexP (a ++ 46 :: r) = none := by
        unfold hexP
        rw [if_neg]
        rintro ⟨_, _, h⟩
        have := List.all_eq_true.1 h 46 (by simp)
        revert this; decide
      rw [this]
      simp

/-- A decimal number of the document: as Int reads it. -/
def big : Nat := 9223372036854775807
def plainR (l : List UInt8) : Option Nat :=
  match valC big 10 0 l with
  | none => none
  | some m => if l = [] ∨ 255 < m ∨ (1 < l.length ∧ l.head? = some 48) then none else some m

theorem plainR_eq (l : List UInt8) : plainR l = plainB l := by
  unfold plainR plainB valV
  rw [valC_N big 10 (by omega) (by decide) l 0 0 rfl]
  cases valC big 10 0 l with
  | none => rfl
  | some m =>
    simp only [Option.map_some]
    by_cases h : l = [] ∨ 255 < m ∨ (1 < l.length ∧ l.head? = some 48)
    · rw [if_pos h, if_pos]
      rcases h with h | h | ⟨h1, h2⟩
      · exact .inr (.inl h)
      · exact .inl (by omega)
      · refine .inr (.inr ⟨h2, ?_⟩)
        rintro rfl
        simp at h1
    · rw [if_neg h, if_neg]
      · have : ¬ 255 < m := fun e => h (.inr (.inl e))
        rw [Nat.min_eq_left (by omega)]
      · rintro (g | g | ⟨g1, g2⟩)
        · exact h (.inr (.inl (by omega)))
        · exact h (.inl g)
        · refine h (.inr (.inr ⟨?_, g1⟩))
          match l, g1, g2 with
          | [c], g1, g2 => simp at g1; subst g1; exact absurd rfl g2
          | c :: d :: r, _, _ => simp

/-! Lists of pieces. -/
def rpL (e : Bool) : List (List UInt8) → Option (List Nat)
  | [] => some []
  | [p] => pieceV e p
  | p :: q :: L => match hexP p with
    | none => none
    | some ns => (rpL e (q :: L)).map fun x => ns ++ x

theorem piecesN_L (e : Bool) : ∀ (f : Nat) (out : List Nat) (l : List UInt8), piecesN e f out l true = if (cutL 58 l).length ≤ f then (rpL e (cutL 58 l)).map fun x => out ++ x else none
  | 0, out, l => by
    have := List.length_pos_iff.2 (cutL_ne 58 l)
    rw [if_neg (by omega)]; rfl
  | f + 1, out, l => by
    rcases first_split 58 l with h | ⟨a, t, ha, rfl⟩
    · rw [piecesN, cut_none l 58 h, cutL_none 58 l h, if_pos (by simp), rpL]
      simp only [Bool.not_false, Bool.and_true]
      cases pieceV e l with
      | none => rfl
      | some ns => simp only [Option.map_some]; exact piecesN_done
    · rw [piecesN, cut_some a t 58 ha, cutL_some 58 a t ha]
      simp only [Bool.not_true, Bool.and_false]
      obtain ⟨y, L, hy⟩ : ∃ y L, cutL 58 t = y :: L := by
        cases e : cutL 58 t with
        | nil => exact absurd e (cutL_ne 58 t)
        | cons y L => exact ⟨y, L, rfl⟩
      rw [pieceV_hex false a (by simp), hy, rpL]
      cases hexP a with
      | none => simp
      | some ns =>
        simp only
        rw [piecesN_L e f (out ++ ns) t, hy]
        simp only [List.length_cons, Nat.add_le_add_iff_right]
        congr 1
        cases rpL e (y :: L) <;> simp

def rpV (s : List UInt8) (e : Bool) : Option (List Nat) := if s = [] then some [] else rpL e (cutL 58 s)

theorem piecesV_rp (s : List UInt8) (e : Bool) : piecesV s e = if s = [] ∨ (cutL 58 s).length ≤ 8 then rpV s e else none := by
  unfold piecesV rpV
  by_cases h : s = []
  · subst h; rfl
  · rw [decide_eq_true h, piecesN_L]
    simp only [h, false_or, if_false, List.nil_append, Option.map_id']

theorem hexP_len (p : List UInt8) (ns : List Nat) (h : hexP p = some ns) : ns.length = 1 := by
  unfold hexP at h
  split at h
  · injection h with h; rw [← h]; rfl
  · cases h

theorem pieceV_len (e : Bool) (p : List UInt8) (ns : List Nat) (h : pieceV e p = some ns) : 1 ≤ ns.length := by
  cases e with
  | false => rw [pieceV_hex false p (by simp)] at h; rw [hexP_len p ns h]; exact Nat.le_refl _
  | true =>
    rw [pieceV_last] at h
    split at h
    · cases hd : dotL 0 (cutL 46 p) with
      | none => rw [hd] at h; cases h
      | some m => rw [hd] at h; simp at h; rw [← h]; simp [halves]
    · rw [hexP_len p ns h]; exact Nat.le_refl _

theorem rpL_len (e : Bool) : ∀ (L : List (List UInt8)) (x : List Nat), rpL e L = some x → L.length ≤ x.length
  | [], x, _ => by simp
  | [p], x, h => pieceV_len e p x h
  | p :: q :: L, x, h => by
    rw [rpL] at h
    cases hp : hexP p with
    | none => rw [hp] at h; cases h
    | some ns =>
      rw [hp] at h
      simp only at h
      cases hr : rpL e (q :: L) with
      | none => rw [hr] at h; cases h
      | some y =>
        rw [hr] at h
        simp only [Option.map_some, Option.some.injEq] at h
        have := rpL_len e (q :: L) y hr
        have := hexP_len p ns hp
        rw [← h]
        simp at *
        omega

/-- Up to eight entries they are one. -/
theorem pieces_some (s : List UInt8) (e : Bool) (x : List Nat) (h : rpV s e = some x) (hx : x.length ≤ 8) : piecesV s e = some x := by
  rw [piecesV_rp, if_pos, h]
  by_cases h0 : s = []
  · exact .inl h0
  · right
    unfold rpV at h
    rw [if_neg h0] at h
    have := rpL_len e _ x h
    omega

theorem pieces_back (s : List UInt8) (e : Bool) (x : List Nat) (h : piecesV s e = some x) : rpV s e = some x := by
  rw [piecesV_rp] at h
  split at h
  · exact h
  · cases h

/-! Eight pieces. -/
def rsixV (l : List UInt8) : Option (List Nat) :=
  if (Lib.cut l [58, 58]).2.2 then
    match rpV (Lib.cut l [58, 58]).1 false, rpV (Lib.cut l [58, 58]).2.1 true with
    | some a, some b => if a.length + b.length ≤ 7 then some (a ++ List.replicate (8 - a.length - b.length) 0 ++ b) else none
    | _, _ => none
  else match rpV l true with
    | some a => if a.length = 8 then some a else none
    | none => none

theorem cut_not (l : List UInt8) (h : (Lib.cut l [58, 58]).2.2 = false) : Lib.cut l [58, 58] = (l, [], false) := by
  unfold Lib.cut at h ⊢
  split
  · rename_i h1; rw [if_pos h1] at h; cases h
  · rfl

theorem rsixV_eq (l : List UInt8) : sixV l = rsixV l := by
  unfold rsixV
  cases hg : (Lib.cut l [58, 58]).2.2 with
  | false =>
    have hc := cut_not l hg
    simp only [Bool.false_eq_true, if_false]
    unfold sixV
    rw [hc]
    have hn : piecesV [] true = some [] := rfl
    simp only [Bool.not_false, hn]
    cases hr : rpV l true with
    | none =>
      cases hp : piecesV l true with
      | none => rfl
      | some x => rw [pieces_back l true x hp] at hr; cases hr
    | some a =>
      simp only
      by_cases h8 : a.length = 8
      · rw [pieces_some l true a hr (by omega), if_pos h8]
        simp [h8]
      · rw [if_neg h8]
        cases hp : piecesV l true with
        | none => rfl
        | some x =>
          have := pieces_back l true x hp
          rw [hr] at this
          injection this with this
          subst this
          simp only [List.length_nil, Nat.add_zero, Bool.false_eq_true, false_iff]
          rw [if_neg (by omega)]
  | true =>
    simp only [if_true]
    unfold sixV
    rw [hg]
    simp only [Bool.not_true, true_iff]
    cases hr : rpV (Lib.cut l [58, 58]).1 false with
    | none =>
      cases hp : piecesV (Lib.cut l [58, 58]).1 false with
      | none => rfl
      | some x => rw [pieces_back _ _ x hp] at hr; cases hr
    | some a =>
      cases hr2 : rpV (Lib.cut l [58, 58]).2.1 true with
      | none =>
        cases hp : piecesV (Lib.cut l [58, 58]).2.1 true with
        | none => cases piecesV (Lib.cut l [58, 58]).1 false <;> rfl
        | some x => rw [pieces_back _ _ x hp] at hr2; cases hr2
      | some b =>
        simp only
        by_cases h7 : a.length + b.length ≤ 7
        · rw [pieces_some _ _ a hr (by omega), pieces_some _ _ b hr2 (by omega), if_pos h7]
          simp only
          rw [if_pos ⟨by omega, by omega⟩]
        · rw [if_neg h7]
          cases hp : piecesV (Lib.cut l [58, 58]).1 false with
          | none => rfl
          | some x =>
            have e1 := pieces_back _ _ x hp
            rw [hr] at e1
            injection e1 with e1
            subst e1
            cases hp2 : piecesV (Lib.cut l [58, 58]).2.1 true with
            | none => rfl
            | some y =>
              have e2 := pieces_back _ _ y hp2
              rw [hr2] at e2
              injection e2 with e2
              subst e2
              simp only
              rw [if_neg (by omega)]

/-! Coded names. -/
def xn : List UInt8 := [120, 110, 45, 45]

theorem contains_cons (x : UInt8) (l sub : List UInt8) (h : sub ≠ []) : Lib.contains (x :: l) sub = (sub.isPrefixOf (x :: l) || Lib.contains l sub) := by
  unfold Lib.contains
  rw [Lib.index]
  cases sub.isPrefixOf (x :: l) with
  | true => simp
  | false =>
    simp only [Bool.false_eq_true, if_false, Bool.false_or]
    by_cases h1 : Lib.index l sub = -1
    · simp [h1]
    · have h2 : (Lib.index l sub == -1) = false := by rw [beq_eq_false_iff_ne]; exact h1
      have h3 : 0 ≤ Lib.index l sub := by
        have := Lib.index_ge l sub
        omega
      simp [h2, h1]
      omega

theorem xn_app : ∀ (a r : List UInt8), 46 ∉ a → Lib.hasPrefix (a ++ 46 :: r) xn = Lib.hasPrefix a xn := by
  intro a r h
  unfold Lib.hasPrefix xn
  match a with
  | [] => rfl
  | [b] => simp [List.isPrefixOf]
  | [b, c] => simp [List.isPrefixOf]
  | [b, c, d] => simp [List.isPrefixOf]
  | b :: c :: d :: e :: t => simp [List.isPrefixOf]

theorem con_skip (r : List UInt8) : ∀ a : List UInt8, 46 ∉ a → Lib.contains (a ++ r) (46 :: xn) = Lib.contains r (46 :: xn)
  | [], _ => rfl
  | x :: a, h => by
    have hx : x ≠ 46 := fun e => h (by simp [e])
    rw [List.cons_append, contains_cons _ _ _ (by simp), con_skip r a (fun e => h (by simp [e]))]
    have : (46 :: xn).isPrefixOf (x :: (a ++ r)) = false := by
      simp [List.isPrefixOf]
      intro e; exact absurd e.symm hx
    rw [this]; rfl

theorem coded_eq : ∀ l : List UInt8, coded l = (cutL 46 l).any fun p => Lib.hasPrefix p xn := by
  refine cutL_ind 46 (fun l h => ?_) (fun a r h ih => ?_)
  · rw [cutL_none 46 l h]
    have := con_skip [] l h
    rw [List.append_nil] at this
    unfold coded
    rw [show ([46, 120, 110, 45, 45] : List UInt8) = 46 :: xn from rfl, this, show Lib.contains [] (46 :: xn) = false from by decide]
    simp [xn]
  · rw [cutL_some 46 a r h, List.any_cons, ← ih]
    unfold coded
    rw [show ([46, 120, 110, 45, 45] : List UInt8) = 46 :: xn from rfl, show ([120, 110, 45, 45] : List UInt8) = xn from rfl, xn_app a r h, con_skip _ a h, contains_cons _ _ _ (by simp)]
    congr 2

end Go.Proofs.YtdpihilikhbamaaGreatDoor
