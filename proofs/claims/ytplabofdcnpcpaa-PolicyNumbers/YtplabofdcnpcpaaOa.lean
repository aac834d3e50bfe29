/-
  The plain functions of package integrity: words, items, the strongest ones, whether a body holds; and what the library's words by runes are.
-/
import Derived.Test.YtplabofdcnpcpaaLa
import Derived.Test.YtplabofdcnpcpaaPc
import Derived.Test.YtplabofdcnpcpaaPf
import Derived.Lib.FieldsP
import Derived.Lib.DecodeN
import Derived.Lib.IndexMore
import Derived.Lib.Join
import Derived.Lib.SmallJoins
set_option linter.unusedSimpArgs false
set_option linter.unusedVariables false
namespace Go.Proofs.Ytplabofdcnpcpaa
open Go.RowKit

theorem index_one_none (l : List UInt8) (c : UInt8) (h : c ∉ l) : Lib.index l [c] = -1 := by
  induction l with
  | nil => rfl
  | cons a l ih =>
    have ha : a ≠ c := fun e => h (by simp [e])
    have hl : c ∉ l := fun e => h (by simp [e])
    unfold Lib.index
    rw [ih hl]
    have : [c].isPrefixOf (a :: l) = false := by simp [List.isPrefixOf]; exact fun e => ha e.symm
    rw [this]; rfl

theorem index_one_some (a r : List UInt8) (c : UInt8) (h : c ∉ a) : Lib.index (a ++ c :: r) [c] = a.length := by
  induction a with
  | nil => unfold Lib.index; simp [List.isPrefixOf]
  | cons x a ih =>
    have hx : x ≠ c := fun e => h (by simp [e])
    have ha : c ∉ a := fun e => h (by simp [e])
    rw [List.cons_append]
    unfold Lib.index
    rw [ih ha]
    have : [c].isPrefixOf (x :: (a ++ c :: r)) = false := by simp [List.isPrefixOf]; exact fun e => hx e.symm
    rw [this]
    have h1 : ((a.length : Int) == -1) = false := by rw [beq_eq_false_iff_ne]; omega
    simp [h1]

theorem cut_none (l : List UInt8) (c : UInt8) (h : c ∉ l) : Lib.cut l [c] = (l, [], false) := by
  unfold Lib.cut
  rw [index_one_none l c h]; rfl

theorem cut_some (a r : List UInt8) (c : UInt8) (h : c ∉ a) : Lib.cut (a ++ c :: r) [c] = (a, r, true) := by
  unfold Lib.cut
  rw [index_one_some a r c h]
  simp

theorem first_split (c : UInt8) : ∀ l : List UInt8, c ∉ l ∨ ∃ a r, c ∉ a ∧ l = a ++ c :: r
  | [] => .inl (by simp)
  | x :: l => by
    by_cases hx : x = c
    · exact .inr ⟨[], l, by simp, by simp [hx]⟩
    · rcases first_split c l with h | ⟨a, r, ha, rfl⟩
      · exact .inl (by simp [h]; exact fun e => hx e.symm)
      · exact .inr ⟨x :: a, r, by simp [ha]; exact fun e => hx e.symm, rfl⟩

def part (c : UInt8) : List UInt8 → List UInt8 × List UInt8 × Bool
  | [] => ([], [], false)
  | x :: l => if x = c then ([], l, true) else (x :: (part c l).1, (part c l).2.1, (part c l).2.2)

theorem part_none (c : UInt8) : ∀ l : List UInt8, c ∉ l → part c l = (l, [], false)
  | [], _ => rfl
  | x :: l, h => by
    have hx : x ≠ c := fun e => h (by simp [e])
    have hl : c ∉ l := fun e => h (by simp [e])
    rw [part, if_neg hx, part_none c l hl]

theorem part_some (c : UInt8) : ∀ (a r : List UInt8), c ∉ a → part c (a ++ c :: r) = (a, r, true)
  | [], r, _ => by rw [List.nil_append, part, if_pos rfl]
  | x :: a, r, h => by
    have hx : x ≠ c := fun e => h (by simp [e])
    have hl : c ∉ a := fun e => h (by simp [e])
    rw [List.cons_append, part, if_neg hx, part_some c a r hl]

theorem cut_part (c : UInt8) (l : List UInt8) : Lib.cut l [c] = part c l := by
  rcases first_split c l with h | ⟨a, r, h, rfl⟩
  · rw [cut_none l c h, part_none c l h]
  · rw [cut_some a r c h, part_some c a r h]

theorem cut_le (l sep : List UInt8) : (Lib.cut l sep).1.length ≤ l.length ∧ (Lib.cut l sep).2.1.length ≤ l.length := by
  unfold Lib.cut
  split
  · simp
    omega
  · simp

theorem part_le (c : UInt8) (l : List UInt8) : (part c l).1.length ≤ l.length ∧ (part c l).2.1.length ≤ l.length := by
  rw [← cut_part]; exact cut_le l [c]

theorem o9get_bang (s : ByteArray) (i : Nat) (h : i < s.size) : s.get! i = s[i] := by
  show s.data[i]! = s.data[i]
  exact getElem!_pos s.data i h

set_option maxRecDepth 100000 in
theorem o9decode_skip (s : ByteArray) (i : Nat) (h : i < s.size) (ha : 128 ≤ (s[i]'h).toNat) : ∃ r n, Utf8.decode s i = (r, n) ∧ 128 ≤ r ∧ r ≤ 1114111 ∧ 1 ≤ n ∧ i + n ≤ s.size ∧ ∀ j, i ≤ j → j < i + n → 128 ≤ (s.get! j).toNat := by
  have h0 : 128 ≤ (s.get! i).toNat := by rw [o9get_bang s i h]; exact ha
  rw [Lib.decode_at]
  unfold Lib.decodeN
  rw [if_neg (by omega)]
  have one : ∀ j, i ≤ j → j < i + 1 → 128 ≤ (s.get! j).toNat := fun j h1 h2 => by
    have : j = i := by omega
    rw [this]; exact h0
  split
  · split
    · refine ⟨_, _, rfl, by omega, by omega, by omega, by omega, fun j h1 h2 => ?_⟩
      have : j = i ∨ j = i + 1 := by omega
      rcases this with rfl | rfl
      · exact h0
      · omega
    · exact ⟨_, _, rfl, by omega, by omega, by omega, by omega, one⟩
  · split
    · split
      · refine ⟨_, _, rfl, by omega, by omega, by omega, by omega, fun j h1 h2 => ?_⟩
        have : j = i ∨ j = i + 1 ∨ j = i + 2 := by omega
        rcases this with rfl | rfl | rfl
        · exact h0
        · omega
        · omega
      · exact ⟨_, _, rfl, by omega, by omega, by omega, by omega, one⟩
    · split
      · split
        · refine ⟨_, _, rfl, by omega, by omega, by omega, by omega, fun j h1 h2 => ?_⟩
          have : j = i ∨ j = i + 1 ∨ j = i + 2 ∨ j = i + 3 := by omega
          rcases this with rfl | rfl | rfl | rfl
          · exact h0
          · omega
          · omega
          · omega
        · exact ⟨_, _, rfl, by omega, by omega, by omega, by omega, one⟩
      · exact ⟨_, _, rfl, by omega, by omega, by omega, by omega, one⟩

/-- One of the five blanks. -/
def p9 (r : Nat) : Bool := r == 9 || r == 10 || r == 12 || r == 13 || r == 32
def bl9 (c : UInt8) : Bool := p9 c.toNat

/-- The words of a text, behind what was read of the first one. -/
def wdsF : List UInt8 → List UInt8 → List (List UInt8)
  | [], cur => if cur = [] then [] else [cur]
  | c :: r, cur => if bl9 c then (if cur = [] then wdsF r [] else cur :: wdsF r []) else wdsF r (cur ++ [c])
def words9 (l : List UInt8) : List (List UInt8) := wdsF l []

theorem wds_skip : ∀ (x r cur : List UInt8), (∀ c ∈ x, bl9 c = false) → wdsF (x ++ r) cur = wdsF r (cur ++ x)
  | [], r, cur, _ => by simp
  | c :: x, r, cur, h => by
    rw [List.cons_append, wdsF, if_neg (by rw [h c (by simp)]; decide), wds_skip x r _ (fun d hd => h d (by simp [hd]))]
    simp

theorem p9_high (r : Nat) (h : 128 ≤ r) : p9 r = false := by
  unfold p9
  simp
  omega

def ext9 (s : ByteArray) (x : Nat × Nat) : List UInt8 := (s.data.toList.drop x.1).take (x.2 - x.1)
def cur9 (s : ByteArray) (pos : Nat) : Option Nat → List UInt8
  | some a => (s.data.toList.drop a).take (pos - a)
  | none => []

theorem cur_more (s : ByteArray) (a pos n : Nat) (ha : a ≤ pos) : (s.data.toList.drop a).take (pos + n - a) = (s.data.toList.drop a).take (pos - a) ++ (s.data.toList.drop pos).take n := by
  rw [show pos + n - a = (pos - a) + n by omega, List.take_add, List.drop_drop, show a + (pos - a) = pos by omega]

theorem spans_end (s : ByteArray) (pos : Nat) (st : Option Nat) (acc : List (Nat × Nat)) (hp : s.size ≤ pos) (hpos : pos ≤ s.size) (hst : ∀ a, st = some a → a < pos) :
    (Lib.closeSpans s (acc, st)).map (ext9 s) = acc.map (ext9 s) ++ wdsF (s.data.toList.drop pos) (cur9 s pos st) := by
  have hsz : s.data.toList.length = s.size := (Lib.size_eq s).symm
  rw [List.drop_eq_nil_of_le (by omega)]
  obtain rfl : pos = s.size := by omega
  cases st with
  | none => simp [Lib.closeSpans, wdsF, cur9]
  | some a =>
    have ha := hst a rfl
    have hne : (s.data.toList.drop a).take (s.size - a) ≠ [] := by
      intro h
      have := congrArg List.length h
      rw [List.length_take, List.length_drop, hsz] at this
      simp at this
      omega
    simp only [Lib.closeSpans, List.map_append, List.map_cons, List.map_nil]
    unfold wdsF cur9
    rw [if_neg hne]
    rfl

theorem spans_words (s : ByteArray) : ∀ (f pos : Nat) (st : Option Nat) (acc : List (Nat × Nat)), s.size - pos ≤ f → pos ≤ s.size → (∀ a, st = some a → a < pos) →
    (Lib.closeSpans s (Lib.spansFromP p9 s f pos st acc)).map (ext9 s) = acc.map (ext9 s) ++ wdsF (s.data.toList.drop pos) (cur9 s pos st)
  | 0, pos, st, acc, hf, hpos, hst => spans_end s pos st acc (by omega) hpos hst
  | f + 1, pos, st, acc, hf, hpos, hst => by
    by_cases hlt : pos < s.size
    · have hsz : s.data.toList.length = s.size := (Lib.size_eq s).symm
      have hd : s.data.toList.drop pos = s[pos] :: s.data.toList.drop (pos + 1) := by
        rw [List.drop_eq_getElem_cons (by omega)]
        rfl
      unfold Lib.spansFromP
      rw [if_pos hlt]
      by_cases hb : s[pos].toNat < 128
      · have hdec : Utf8.decode s pos = (s[pos].toNat, 1) := by
          rw [Lib.decode_at, o9get_bang s pos hlt]
          simp [Lib.decodeN, hb]
        rw [hdec]
        dsimp only
        by_cases hbl : p9 s[pos].toNat = true
        · rw [if_pos hbl]
          cases st with
          | none =>
            dsimp only
            rw [spans_words s f (pos + 1) none acc (by omega) (by omega) (fun a h => by cases h), hd, wdsF, if_pos (show bl9 s[pos] = true from hbl)]
            simp [cur9]
          | some a =>
            dsimp only
            have ha := hst a rfl
            have hne : (s.data.toList.drop a).take (pos - a) ≠ [] := by
              intro h
              have := congrArg List.length h
              rw [List.length_take, List.length_drop, hsz] at this
              simp at this
              omega
            rw [spans_words s f (pos + 1) none (acc ++ [(a, pos)]) (by omega) (by omega) (fun a h => by cases h), hd, wdsF, if_pos (show bl9 s[pos] = true from hbl)]
            unfold cur9
            rw [if_neg hne, List.map_append, List.append_assoc]
            rfl
        · rw [if_neg hbl]
          have hbf : bl9 s[pos] = false := by simpa [bl9] using hbl
          have hstep : ∀ a, a ≤ pos → wdsF (s.data.toList.drop pos) ((s.data.toList.drop a).take (pos - a)) = wdsF (s.data.toList.drop (pos + 1)) ((s.data.toList.drop a).take (pos + 1 - a)) := fun a ha => by
            rw [cur_more s a pos 1 ha, hd, wdsF, if_neg (by rw [hbf]; decide)]
            rfl
          cases st with
          | none =>
            dsimp only
            rw [spans_words s f (pos + 1) (some pos) acc (by omega) (by omega) (fun a h => by cases h; omega)]
            have := hstep pos (Nat.le_refl _)
            rw [Nat.sub_self, List.take_zero] at this
            unfold cur9
            rw [this]
          | some a =>
            dsimp only
            have ha := hst a rfl
            rw [spans_words s f (pos + 1) (some a) acc (by omega) (by omega) (fun b h => by cases h; omega)]
            unfold cur9
            rw [hstep a (by omega)]
      · obtain ⟨r, n, hdec, hr, _, hn1, hn2, hj⟩ := o9decode_skip s pos hlt (by omega)
        rw [hdec]
        dsimp only
        rw [if_neg (by rw [p9_high r hr]; decide)]
        have hx : ∀ c ∈ (s.data.toList.drop pos).take n, bl9 c = false := by
          intro c hc
          obtain ⟨k, hk, rfl⟩ := List.getElem_of_mem hc
          rw [List.length_take, List.length_drop, hsz] at hk
          have h1 := hj (pos + k) (by omega) (by omega)
          rw [o9get_bang s (pos + k) (by omega)] at h1
          unfold bl9
          rw [List.getElem_take, List.getElem_drop]
          exact p9_high _ h1
        have hstep : ∀ a, a ≤ pos → wdsF (s.data.toList.drop pos) ((s.data.toList.drop a).take (pos - a)) = wdsF (s.data.toList.drop (pos + n)) ((s.data.toList.drop a).take (pos + n - a)) := fun a ha => by
          rw [cur_more s a pos n ha, ← wds_skip _ _ _ hx, ← List.drop_drop, List.take_append_drop]
        cases st with
        | none =>
          dsimp only
          rw [spans_words s f (pos + n) (some pos) acc (by omega) (by omega) (fun a h => by cases h; omega)]
          have := hstep pos (Nat.le_refl _)
          rw [Nat.sub_self, List.take_zero] at this
          unfold cur9
          rw [this]
        | some a =>
          dsimp only
          have ha := hst a rfl
          rw [spans_words s f (pos + n) (some a) acc (by omega) (by omega) (fun b h => by cases h; omega)]
          unfold cur9
          rw [hstep a (by omega)]
    · rw [Lib.spansFromP_end p9 s (f + 1) pos st acc hlt]
      exact spans_end s pos st acc (by omega) hpos hst

theorem fields_words (s : ByteArray) : Lib.goFieldsP p9 s = (words9 s.data.toList).map fun x => ⟨x.toArray⟩ := by
  have h := spans_words s s.size 0 none [] (by omega) (by omega) (fun a h => by cases h)
  rw [List.drop_zero] at h
  have h2 : words9 s.data.toList = (Lib.spansOfP p9 s).map (ext9 s) := by
    rw [Lib.spansOfP, h]; rfl
  rw [h2, List.map_map]
  unfold Lib.goFieldsP
  apply List.map_congr_left
  intro x _
  show s.extract x.1 x.2 = ⟨(ext9 s x).toArray⟩
  rw [← Lib.mk_data (s.extract x.1 x.2)]
  congr 2
  rw [← ByteArray.toList_eq, Lib.extract_toList]
  rfl

theorem wds_len : ∀ (l cur : List UInt8), (wdsF l cur).length ≤ l.length + 1 ∧ ∀ x ∈ wdsF l cur, x.length ≤ cur.length + l.length
  | [], cur => by
    unfold wdsF
    split
    · simp
    · simp
  | c :: r, cur => by
    unfold wdsF
    split
    · split
      · have := wds_len r []
        refine ⟨by have := this.1; simp only [List.length_cons]; omega, fun x hx => ?_⟩
        have := this.2 x hx
        simp only [List.length_cons, List.length_nil] at this ⊢
        omega
      · have := wds_len r []
        refine ⟨by have := this.1; simp only [List.length_cons]; omega, fun x hx => ?_⟩
        rcases List.mem_cons.1 hx with rfl | hx
        · simp only [List.length_cons]; omega
        · have := this.2 x hx
          simp only [List.length_cons, List.length_nil] at this ⊢
          omega
    · have := wds_len r (cur ++ [c])
      refine ⟨by have := this.1; simp only [List.length_cons]; omega, fun x hx => ?_⟩
      have := this.2 x hx
      simp only [List.length_append, List.length_cons, List.length_nil] at this ⊢
      omega

structure It where
  bits : Int
  want : List UInt8
  opt : List UInt8

def sha2 : List UInt8 := [115, 104, 97, 50, 53, 54]
def sha3 : List UInt8 := [115, 104, 97, 51, 56, 52]
def sha5 : List UInt8 := [115, 104, 97, 53, 49, 50]
/-- Of a name; 0: none. -/
def bitsV (n : List UInt8) : Int := if low n = sha2 then 256 else if low n = sha3 then 384 else if low n = sha5 then 512 else 0
def nameV9 (x : List UInt8) : List UInt8 := (part 45 (part 63 x).1).1
def wantV9 (x : List UInt8) : List UInt8 := (part 45 (part 63 x).1).2.1
def optV9 (x : List UInt8) : List UInt8 := (part 63 x).2.1
def okV9 (x : List UInt8) : Bool := (part 45 (part 63 x).1).2.2 && bitsV (nameV9 x) != 0
def itemV (x : List UInt8) : Option It := if okV9 x then some ⟨bitsV (nameV9 x), wantV9 x, optV9 x⟩ else none
def parse9 (l : List UInt8) : List It := (words9 l).filterMap itemV

def mostV : List It → Int → Int
  | [], m => m
  | x :: L, m => mostV L (max m x.bits)
def strong (L : List It) : List It := L.filter fun x => x.bits == mostV L (-9223372036854775808)
def wantsV (r : List UInt8) (y : It) : Bool := match b64 y.want with
  | some b => b == r
  | none => false
def holdsL (Hs Ks : List Nat) (L : List It) (body : List UInt8) : Bool := match L with
  | [] => true
  | x :: _ => match sumV Hs Ks x.bits body with
    | none => false
    | some r => L.any (wantsV r)
def holdsV (Hs Ks : List Nat) (l body : List UInt8) : Bool := holdsL Hs Ks (strong (parse9 l)) body

theorem bits_cases (n : List UInt8) : bitsV n = 256 ∨ bitsV n = 384 ∨ bitsV n = 512 ∨ bitsV n = 0 := by
  unfold bitsV
  split
  · exact .inl rfl
  · split
    · exact .inr (.inl rfl)
    · split
      · exact .inr (.inr (.inl rfl))
      · exact .inr (.inr (.inr rfl))

theorem parse_bits (l : List UInt8) : ∀ x ∈ parse9 l, x.bits = 256 ∨ x.bits = 384 ∨ x.bits = 512 := by
  intro x hx
  obtain ⟨y, _, hy⟩ := List.mem_filterMap.1 hx
  unfold itemV at hy
  split at hy
  · rename_i h
    obtain rfl := Option.some.inj hy
    dsimp only
    unfold okV9 at h
    rw [Bool.and_eq_true, bne_iff_ne] at h
    rcases bits_cases (nameV9 y) with h' | h' | h' | h'
    · exact .inl h'
    · exact .inr (.inl h')
    · exact .inr (.inr h')
    · exact absurd h' h.2
  · cases hy

end Go.Proofs.Ytplabofdcnpcpaa
