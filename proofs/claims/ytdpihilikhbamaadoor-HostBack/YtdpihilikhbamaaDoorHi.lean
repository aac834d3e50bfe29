/-
  What a text of eight pieces is read as: plain facts.
-/
import Derived.Test.YtdpihilikhbamaaDoorHh
import Derived.Test.YtdpihilikhbamaaDoorVm
set_option linter.unusedSimpArgs false
set_option linter.unusedVariables false
namespace Go.Proofs.YtdpihilikhbamaaDoor

def noPair : List UInt8 → Bool
  | a :: b :: l => !(a == 58 && b == 58) && noPair (b :: l)
  | _ => true

theorem np_cons (x : UInt8) (l : List UInt8) (h : x ≠ 58) (hl : noPair l = true) : noPair (x :: l) = true := by
  cases l with
  | nil => rfl
  | cons b l => simp [noPair, h, hl]

theorem np_pre : ∀ (h t : List UInt8), 58 ∉ h → noPair t = true → noPair (h ++ t) = true
  | [], _, _, ht => ht
  | x :: h, t, hx, ht => np_cons x (h ++ t) (fun e => hx (by simp [e])) (np_pre h t (fun e => hx (by simp [e])) ht)

theorem np_colon (c : UInt8) (t : List UInt8) (hc : c ≠ 58) (h : noPair (c :: t) = true) : noPair (58 :: c :: t) = true := by
  simp [noPair, hc, h]

theorem np_left : ∀ (a b : List UInt8), noPair (a ++ b) = true → noPair a = true
  | [], _, _ => rfl
  | [_], _, _ => rfl
  | x :: y :: a, b, h => by
    have h' : noPair (x :: y :: (a ++ b)) = true := h
    simp only [noPair, Bool.and_eq_true] at h' ⊢
    exact ⟨h'.1, np_left (y :: a) b h'.2⟩

theorem joined_np : ∀ (x : List Nat), x ≠ [] → noPair (joined x ++ [58]) = true ∧ ∃ c r, joined x = c :: r ∧ c ≠ 58
  | [], h => absurd rfl h
  | [n], _ => by
    rw [joined_one]
    refine ⟨np_pre _ _ (hex16_no58 n) rfl, ?_⟩
    cases he : hex16 n with
    | nil => exact absurd he (hex16_ne n)
    | cons c r => exact ⟨c, r, rfl, fun e => hex16_no58 n (by rw [he, e]; simp)⟩
  | n :: m :: l, _ => by
    obtain ⟨h1, c, r, e, hc⟩ := joined_np (m :: l) (by simp)
    rw [joined_cons]
    constructor
    · rw [List.append_assoc]
      refine np_pre _ _ (hex16_no58 n) ?_
      rw [List.append_assoc, e]
      rw [e] at h1
      exact np_colon c _ hc h1
    · cases he : hex16 n with
      | nil => exact absurd he (hex16_ne n)
      | cons c r => exact ⟨c, _, rfl, fun e => hex16_no58 n (by rw [he, e]; simp)⟩

theorem index2_none : ∀ (l : List UInt8), noPair l = true → Lib.index l [58, 58] = -1
  | [], _ => rfl
  | [a], _ => by
    unfold Lib.index
    rw [index2_none [] rfl]
    simp [List.isPrefixOf]
  | a :: b :: l, h => by
    simp only [noPair, Bool.and_eq_true] at h
    unfold Lib.index
    rw [index2_none (b :: l) h.2]
    have : [58, 58].isPrefixOf (a :: b :: l) = false := by
      simp [List.isPrefixOf]
      have := h.1
      simp at this
      intro e e2; rcases this with h | h
      · exact h e.symm
      · exact h e2.symm
    rw [this]; rfl

theorem index2_some : ∀ (a r : List UInt8), noPair (a ++ [58]) = true → Lib.index (a ++ 58 :: 58 :: r) [58, 58] = a.length
  | [], r, _ => by unfold Lib.index; simp [List.isPrefixOf]
  | x :: a, r, h => by
    have hx : [58, 58].isPrefixOf (x :: (a ++ 58 :: 58 :: r)) = false := by
      cases a with
      | nil =>
        simp [noPair] at h
        simp [List.isPrefixOf]
        exact fun e => h e.symm
      | cons y a =>
        have h' : noPair (x :: y :: (a ++ [58])) = true := h
        simp only [noPair, Bool.and_eq_true] at h'
        have := h'.1
        simp at this
        simp [List.isPrefixOf]
        intro e e2; rcases this with h | h
        · exact h e.symm
        · exact h e2.symm
    have h2 : noPair (a ++ [58]) = true := by
      cases a with
      | nil => rfl
      | cons y a =>
        have h' : noPair (x :: y :: (a ++ [58])) = true := h
        simp only [noPair, Bool.and_eq_true] at h'
        exact h'.2
    rw [List.cons_append]
    unfold Lib.index
    rw [index2_some a r h2, hx]
    have h1 : ((a.length : Int) == -1) = false := by rw [beq_eq_false_iff_ne]; omega
    simp [h1]

theorem cut2_none (l : List UInt8) (h : noPair l = true) : Lib.cut l [58, 58] = (l, [], false) := by
  unfold Lib.cut
  rw [index2_none l h]; rfl

theorem cut2_some (a r : List UInt8) (h : noPair (a ++ [58]) = true) : Lib.cut (a ++ ([58, 58] ++ r)) [58, 58] = (a, r, true) := by
  unfold Lib.cut
  rw [show a ++ ([58, 58] ++ r) = a ++ 58 :: 58 :: r from rfl, index2_some a r h]
  simp

/-! A piece is read as its number. -/
def fold16 (n : Nat) (l : List UInt8) : Nat := l.foldl (fun a c => a * 16 + dig16 c) n

theorem fold_digs : ∀ (f u : Nat) (T : List UInt8), u < 16 ^ f → f ≠ 0 → fold16 0 (digsN 16 f u T) = fold16 u T
  | 0, _, _, _, h => absurd rfl h
  | f + 1, u, T, hu, _ => by
    by_cases hn : u < 16
    · rw [digsN_last _ _ _ _ hn]
      show fold16 (0 * 16 + dig16 (digC u)) T = _
      rw [dig16_digC u hn, Nat.zero_mul, Nat.zero_add]
    · rw [digsN_more _ _ _ _ hn]
      have h1 : u / 16 < 16 ^ f := by rw [Nat.div_lt_iff_lt_mul (by omega)]; rw [Nat.pow_succ] at hu; exact hu
      have hf : f ≠ 0 := by rintro rfl; simp at h1; omega
      rw [fold_digs f (u / 16) _ h1 hf]
      show fold16 (u / 16 * 16 + dig16 (digC (u % 16))) T = _
      rw [dig16_digC _ (Nat.mod_lt _ (by omega)), show u / 16 * 16 + u % 16 = u by omega]

theorem digsN_len (base : Nat) : ∀ (f n : Nat) (T : List UInt8), (digsN base f n T).length ≤ f + T.length
  | 0, _, T => by simp [digsN]
  | f + 1, n, T => by
    by_cases h : n < base
    · rw [digsN_last _ _ _ _ h]; simp; omega
    · rw [digsN_more _ _ _ _ h]
      have := digsN_len base f (n / base) (digC (n % base) :: T)
      simp at this
      omega

def hexC (c : UInt8) : Bool := decide (dig16 c < 16) && c != 46

theorem scan_hex (whole : Option Nat) (last : Bool) : ∀ (l : List UInt8) (i n : Nat), l.all hexC = true → i + l.length ≤ 4 → (i ≠ 0 ∨ l ≠ []) → scanP whole last i n l = some [fold16 n l]
  | [], i, n, _, _, h => by
    have h0 : i ≠ 0 := h.resolve_right (by simp)
    rw [scanP, if_neg h0]; rfl
  | c :: l, i, n, hall, hl, _ => by
    simp only [List.all_cons, Bool.and_eq_true, hexC, decide_eq_true_eq, bne_iff_ne, ne_eq] at hall
    simp only [List.length_cons] at hl
    rw [scanP, if_neg (fun h => hall.1.2 h.1), if_pos ⟨hall.1.1, by omega⟩]
    rw [scan_hex whole last l (i + 1) _ (by simpa [hexC] using hall.2) (by omega) (.inl (by omega))]
    rfl

theorem hex16_all (n : Nat) : (hex16 n).all hexC = true := digsN_all hexC 16 (by omega) (by decide) 4 n [] rfl

theorem piece_hex (last : Bool) (n : Nat) (h : n < 65536) : pieceV last (hex16 n) = some [n] := by
  have hlen : (hex16 n).length ≤ 4 := digsN_len 16 4 n []
  unfold pieceV
  rw [scan_hex _ last _ 0 0 (hex16_all n) (by omega) (.inr (hex16_ne n))]
  have : fold16 0 (hex16 n) = n := by
    have := fold_digs 4 n [] (by omega) (by omega)
    simpa [hex16, fold16] using this
  rw [this]

theorem pieces_joined (atEnd : Bool) : ∀ (y : List Nat) (f : Nat) (out : List Nat), y ≠ [] → y.length ≤ f → (∀ n ∈ y, n < 65536) → piecesN atEnd f out (joined y) true = some (out ++ y)
  | [], _, _, h, _, _ => absurd rfl h
  | [n], f + 1, out, _, _, h16 => by
    have hc : Lib.cut (joined [n]) [58] = (hex16 n, [], false) := by rw [joined_one]; exact cut_none _ _ (hex16_no58 n)
    rw [piecesN, hc]
    simp only [piece_hex _ n (h16 n (by simp))]
    rw [piecesN]
  | n :: m :: y, f + 1, out, _, hl, h16 => by
    have hc : Lib.cut (joined (n :: m :: y)) [58] = (hex16 n, joined (m :: y), true) := by rw [joined_cons]; exact cut_some _ _ _ (hex16_no58 n)
    rw [piecesN, hc]
    simp only [piece_hex _ n (h16 n (by simp))]
    rw [pieces_joined atEnd (m :: y) f (out ++ [n]) (by simp) (by simpa using hl) (fun k hk => h16 k (by simp [hk]))]
    simp
  | _ :: _, 0, _, _, hl, _ => by simp at hl

theorem joined_empty (y : List Nat) : joined y = [] ↔ y = [] := by
  constructor
  · intro h
    cases y with
    | nil => rfl
    | cons n y =>
      obtain ⟨_, c, r, e, _⟩ := joined_np (n :: y) (by simp)
      rw [e] at h; simp at h
  · rintro rfl; exact joined_nil

theorem pieces_of (atEnd : Bool) (y : List Nat) (hl : y.length ≤ 8) (h16 : ∀ n ∈ y, n < 65536) : piecesV (joined y) atEnd = some y := by
  unfold piecesV
  by_cases h : y = []
  · subst h
    rw [joined_nil]; rfl
  · have hj : joined y ≠ [] := fun e => h ((joined_empty y).1 e)
    rw [decide_eq_true hj, pieces_joined atEnd y 8 [] h hl h16]; rfl

/-! The run is noughts. -/
theorem zeros_get : ∀ (l : List Nat) (j : Nat), j < zeros l → l[j]? = some 0
  | [], j, h => by simp [zeros] at h
  | a :: l, j, h => by
    rw [zeros] at h
    split at h
    · rename_i ha
      cases j with
      | zero => simp [ha]
      | succ j => simpa using zeros_get l j (by omega)
    · omega

theorem lrunN_zero (x : List Nat) : ∀ (l : List Nat) (i fr to : Nat), l = x.drop i → (∀ j, fr ≤ j → j < to → x[j]? = some 0) → ∀ j, (lrunN 0 i fr to l).1 ≤ j → j < (lrunN 0 i fr to l).2 → x[j]? = some 0
  | [], i, fr, to, _, h => h
  | n :: l, i, fr, to, hd, h => by
    have hd' : l = x.drop (i + 1) := by
      rw [← List.drop_drop, ← hd]; rfl
    rw [lrunN]
    split
    · refine lrunN_zero x l (i + 1) i (i + zeros (n :: l)) hd' (fun j h1 h2 => ?_)
      have := zeros_get (n :: l) (j - i) (by omega)
      rw [hd, List.getElem?_drop, show i + (j - i) = j by omega] at this
      exact this
    · exact lrunN_zero x l (i + 1) fr to hd' h

theorem run_fill (x : List Nat) (h8 : x.length = 8) (hft : (lrun x).1 < (lrun x).2) (ht : (lrun x).2 ≤ 8) : x.take (lrun x).1 ++ List.replicate (8 - (lrun x).1 - (8 - (lrun x).2)) 0 ++ x.drop (lrun x).2 = x := by
  have hz := lrunN_zero x x 0 0 0 rfl (fun j _ h => absurd h (by omega))
  have hz' : ∀ j, (lrun x).1 ≤ j → j < (lrun x).2 → x[j]? = some 0 := hz
  generalize (lrun x).1 = fr at *
  generalize (lrun x).2 = to at *
  refine List.ext_getElem? fun j => ?_
  by_cases h1 : j < fr
  · rw [List.append_assoc, List.getElem?_append_left (by simp; omega), List.getElem?_take_of_lt h1]
  · by_cases h2 : j < to
    · rw [List.getElem?_append_left (by simp; omega), List.getElem?_append_right (by simp; omega), List.getElem?_replicate, if_pos (by simp; omega), hz' j (by omega) h2]
    · rw [List.getElem?_append_right (by simp; omega), List.getElem?_drop]
      congr 1
      simp
      omega

theorem six_text6 (x : List Nat) (h8 : x.length = 8) (h16 : ∀ n ∈ x, n < 65536) : sixV (text6 x) = some x := by
  obtain ⟨hl1, hl2⟩ := lrun_le x
  rw [h8] at hl2
  by_cases h : (lrun x).1 = (lrun x).2
  · rw [text6_same h]
    have hnp : noPair (joined x) = true := np_left _ _ (joined_np x (by rintro rfl; simp at h8)).1
    unfold sixV
    rw [cut2_none _ hnp]
    have hp := pieces_of true x (by omega) h16
    have hn : piecesV [] true = some [] := rfl
    simp only [Bool.not_false, hp, hn]
    simp [h8]
  · rw [text6_run h]
    have hnp : noPair (joined (x.take (lrun x).1) ++ [58]) = true := by
      by_cases h0 : x.take (lrun x).1 = []
      · rw [h0, joined_nil]; rfl
      · exact (joined_np _ h0).1
    unfold sixV
    rw [cut2_some _ _ hnp]
    have hp1 := pieces_of false (x.take (lrun x).1) (by simp; omega) (fun n hn => h16 n (List.mem_of_mem_take hn))
    have hp2 := pieces_of true (x.drop (lrun x).2) (by simp; omega) (fun n hn => h16 n (List.mem_of_mem_drop hn))
    have e1 : (x.take (lrun x).1).length = (lrun x).1 := by simp; omega
    have e2 : (x.drop (lrun x).2).length = 8 - (lrun x).2 := by simp; omega
    simp only [Bool.not_true, hp1, hp2, e1, e2]
    rw [if_pos ⟨by omega, by simp; omega⟩, run_fill x h8 (by omega) hl2]

end Go.Proofs.YtdpihilikhbamaaDoor
