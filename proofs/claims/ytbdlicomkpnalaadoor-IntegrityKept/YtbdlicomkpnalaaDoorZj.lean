/-
  The plain functions of package integrity: words, items, the strongest ones, whether a body holds; and what the library's words by runes are.
  Items in memory; the walks of integrity's blank, size and item.
  The walk of integrity's Parse.
  The walks of integrity's Strongest and chosen.
-/
import Derived.Test.YtbdlicomkpnalaaDoorZa
import Derived.Test.YtbdlicomkpnalaaDoorZSh
import Derived.Lib.FieldsP
import Derived.Lib.DecodeN
import Derived.Lib.IndexMore
import Derived.Lib.Join
import Derived.Lib.SmallJoins
import Derived.Laws.OwnMore
import Derived.Below
import Derived.WalkSmall
import Derived.Shelf.GgClosure.GivesRunes
import Derived.Laws.AppendOwn
set_option linter.unusedSimpArgs false
set_option linter.unusedVariables false
namespace Go.Proofs.YtbdlicomkpnalaaDoor
open Go.RowKit

theorem index_one_none (l : List UInt8) (c : UInt8) (h : c ∉ l) : Lib.index l [c] = -1 := by
  induction l with
  | nil => rfl
  | cons a l ih =>
    have ha : a ≠ c := fun e => h (by simp [e])
    have hl : c ∉ l := fun e => h (by simp [e])
    unfold Lib.index
    rw [ih hl]
    have : [c].isPrefixOf (a :: l) = false := by simp [List.isPrefixOf]; exact fun e => ha e.symm
    rw [this]; rfl

theorem index_one_some (a r : List UInt8) (c : UInt8) (h : c ∉ a) : Lib.index (a ++ c :: r) [c] = a.length := by
  induction a with
  | nil => unfold Lib.index; simp [List.isPrefixOf]
  | cons x a ih =>
    have hx : x ≠ c := fun e => h (by simp [e])
    have ha : c ∉ a := fun e => h (by simp [e])
    rw [List.cons_append]
    unfold Lib.index
    rw [ih ha]
    have : [c].isPrefixOf (x :: (a ++ c :: r)) = false := by simp [List.isPrefixOf]; exact fun e => hx e.symm
    rw [this]
    have h1 : ((a.length : Int) == -1) = false := by rw [beq_eq_false_iff_ne]; omega
    simp [h1]

theorem cut_none (l : List UInt8) (c : UInt8) (h : c ∉ l) : Lib.cut l [c] = (l, [], false) := by
  unfold Lib.cut
  rw [index_one_none l c h]; rfl

theorem cut_some (a r : List UInt8) (c : UInt8) (h : c ∉ a) : Lib.cut (a ++ c :: r) [c] = (a, r, true) := by
  unfold Lib.cut
  rw [index_one_some a r c h]
  simp

theorem first_split (c : UInt8) : ∀ l : List UInt8, c ∉ l ∨ ∃ a r, c ∉ a ∧ l = a ++ c :: r
  | [] => .inl (by simp)
  | x :: l => by
    by_cases hx : x = c
    · exact .inr ⟨[], l, by simp, by simp [hx]⟩
    · rcases first_split c l with h | ⟨a, r, ha, rfl⟩
      · exact .inl (by simp [h]; exact fun e => hx e.symm)
      · exact .inr ⟨x :: a, r, by simp [ha]; exact fun e => hx e.symm, rfl⟩

def part (c : UInt8) : List UInt8 → List UInt8 × List UInt8 × Bool
  | [] => ([], [], false)
  | x :: l => if x = c then ([], l, true) else (x :: (part c l).1, (part c l).2.1, (part c l).2.2)

theorem part_none (c : UInt8) : ∀ l : List UInt8, c ∉ l → part c l = (l, [], false)
  | [], _ => rfl
  | x :: l, h => by
    have hx : x ≠ c := fun e => h (by simp [e])
    have hl : c ∉ l := fun e => h (by simp [e])
    rw [part, if_neg hx, part_none c l hl]

theorem part_some (c : UInt8) : ∀ (a r : List UInt8), c ∉ a → part c (a ++ c :: r) = (a, r, true)
  | [], r, _ => by rw [List.nil_append, part, if_pos rfl]
  | x :: a, r, h => by
    have hx : x ≠ c := fun e => h (by simp [e])
    have hl : c ∉ a := fun e => h (by simp [e])
    rw [List.cons_append, part, if_neg hx, part_some c a r hl]

theorem cut_part (c : UInt8) (l : List UInt8) : Lib.cut l [c] = part c l := by
  rcases first_split c l with h | ⟨a, r, h, rfl⟩
  · rw [cut_none l c h, part_none c l h]
  · rw [cut_some a r c h, part_some c a r h]

theorem cut_le (l sep : List UInt8) : (Lib.cut l sep).1.length ≤ l.length ∧ (Lib.cut l sep).2.1.length ≤ l.length := by
  unfold Lib.cut
  split
  · simp
    omega
  · simp

theorem part_le (c : UInt8) (l : List UInt8) : (part c l).1.length ≤ l.length ∧ (part c l).2.1.length ≤ l.length := by
  rw [← cut_part]; exact cut_le l [c]

theorem o9get_bang (s : ByteArray) (i : Nat) (h : i < s.size) : s.get! i = s[i] := by
  show s.data[i]! = s.data[i]
  exact getElem!_pos s.data i h

set_option maxRecDepth 100000 in
theorem o9decode_skip (s : ByteArray) (i : Nat) (h : i < s.size) (ha : 128 ≤ (s[i]'h).toNat) : ∃ r n, Utf8.decode s i = (r, n) ∧ 128 ≤ r ∧ r ≤ 1114111 ∧ 1 ≤ n ∧ i + n ≤ s.size ∧ ∀ j, i ≤ j → j < i + n → 128 ≤ (s.get! j).toNat := by
  have h0 : 128 ≤ (s.get! i).toNat := by rw [o9get_bang s i h]; exact ha
  rw [Lib.decode_at]
  unfold Lib.decodeN
  rw [if_neg (by omega)]
  have one : ∀ j, i ≤ j → j < i + 1 → 128 ≤ (s.get! j).toNat := fun j h1 h2 => by
    have : j = i := by omega
    rw [this]; exact h0
  split
  · split
    · refine ⟨_, _, rfl, by omega, by omega, by omega, by omega, fun j h1 h2 => ?_⟩
      have : j = i ∨ j = i + 1 := by omega
      rcases this with rfl | rfl
      · exact h0
      · omega
    · exact ⟨_, _, rfl, by omega, by omega, by omega, by omega, one⟩
  · split
    · split
      · refine ⟨_, _, rfl, by omega, by omega, by omega, by omega, fun j h1 h2 => ?_⟩
        have : j = i ∨ j = i + 1 ∨ j = i + 2 := by omega
        rcases this with rfl | rfl | rfl
        · exact h0
        · omega
        · omega
      · exact ⟨_, _, rfl, by omega, by omega, by omega, by omega, one⟩
    · split
      · split
        · refine ⟨_, _, rfl, by omega, by omega, by omega, by omega, fun j h1 h2 => ?_⟩
          have : j = i ∨ j = i + 1 ∨ j = i + 2 ∨ j = i + 3 := by omega
          rcases this with rfl | rfl | rfl | rfl
          · exact h0
          · omega
          · omega
          · omega
        · exact ⟨_, _, rfl, by omega, by omega, by omega, by omega, one⟩
      · exact ⟨_, _, rfl, by omega, by omega, by omega, by omega, one⟩

/-- One of the five blanks. -/
def p9 (r : Nat) : Bool := r == 9 || r == 10 || r == 12 || r == 13 || r == 32
def bl9 (c : UInt8) : Bool := p9 c.toNat

/-- The words of a text, behind what was read of the first one. -/
def wdsF : List UInt8 → List UInt8 → List (List UInt8)
  | [], cur => if cur = [] then [] else [cur]
  | c :: r, cur => if bl9 c then (if cur = [] then wdsF r [] else cur :: wdsF r []) else wdsF r (cur ++ [c])
def words9 (l : List UInt8) : List (List UInt8) := wdsF l []

theorem wds_skip : ∀ (x r cur : List UInt8), (∀ c ∈ x, bl9 c = false) → wdsF (x ++ r) cur = wdsF r (cur ++ x)
  | [], r, cur, _ => by simp
  | c :: x, r, cur, h => by
    rw [List.cons_append, wdsF, if_neg (by rw [h c (by simp)]; decide), wds_skip x r _ (fun d hd => h d (by simp [hd]))]
    simp

theorem p9_high (r : Nat) (h : 128 ≤ r) : p9 r = false := by
  unfold p9
  simp
  omega

def ext9 (s : ByteArray) (x : Nat × Nat) : List UInt8 := (s.data.toList.drop x.1).take (x.2 - x.1)
def cur9 (s : ByteArray) (pos : Nat) : Option Nat → List UInt8
  | some a => (s.data.toList.drop a).take (pos - a)
  | none => []

theorem cur_more (s : ByteArray) (a pos n : Nat) (ha : a ≤ pos) : (s.data.toList.drop a).take (pos + n - a) = (s.data.toList.drop a).take (pos - a) ++ (s.data.toList.drop pos).take n := by
  rw [show pos + n - a = (pos - a) + n by omega, List.take_add, List.drop_drop, show a + (pos - a) = pos by omega]

theorem spans_end (s : ByteArray) (pos : Nat) (st : Option Nat) (acc : List (Nat × Nat)) (hp : s.size ≤ pos) (hpos : pos ≤ s.size) (hst : ∀ a, st = some a → a < pos) :
    (Lib.closeSpans s (acc, st)).map (ext9 s) = acc.map (ext9 s) ++ wdsF (s.data.toList.drop pos) (cur9 s pos st) := by
  have hsz : s.data.toList.length = s.size := (Lib.size_eq s).symm
  rw [List.drop_eq_nil_of_le (by omega)]
  obtain rfl : pos = s.size := by omega
  cases st with
  | none => simp [Lib.closeSpans, wdsF, cur9]
  | some a =>
    have ha := hst a rfl
    have hne : (s.data.toList.drop a).take (s.size - a) ≠ [] := by
      intro h
      have := congrArg List.length h
      rw [List.length_take, List.length_drop, hsz] at this
      simp at this
      omega
    simp only [Lib.closeSpans, List.map_append, List.map_cons, List.map_nil]
    unfold wdsF cur9
    rw [if_neg hne]
    rfl

theorem spans_words (s : ByteArray) : ∀ (f pos : Nat) (st : Option Nat) (acc : List (Nat × Nat)), s.size - pos ≤ f → pos ≤ s.size → (∀ a, st = some a → a < pos) →
    (Lib.closeSpans s (Lib.spansFromP p9 s f pos st acc)).map (ext9 s) = acc.map (ext9 s) ++ wdsF (s.data.toList.drop pos) (cur9 s pos st)
  | 0, pos, st, acc, hf, hpos, hst => spans_end s pos st acc (by omega) hpos hst
  | f + 1, pos, st, acc, hf, hpos, hst => by
    by_cases hlt : pos < s.size
    · have hsz : s.data.toList.length = s.size := (Lib.size_eq s).symm
      have hd : s.data.toList.drop pos = s[pos] :: s.data.toList.drop (pos + 1) := by
        rw [List.drop_eq_getElem_cons (by omega)]
        rfl
      unfold Lib.spansFromP
      rw [if_pos hlt]
      by_cases hb : s[pos].toNat < 128
      · have hdec : Utf8.decode s pos = (s[pos].toNat, 1) := by
          rw [Lib.decode_at, o9get_bang s pos hlt]
          simp [Lib.decodeN, hb]
        rw [hdec]
        dsimp only
        by_cases hbl : p9 s[pos].toNat = true
        · rw [if_pos hbl]
          cases st with
          | none =>
            dsimp only
            rw [spans_words s f (pos + 1) none acc (by omega) (by omega) (fun a h => by cases h), hd, wdsF, if_pos (show bl9 s[pos] = true from hbl)]
            simp [cur9]
          | some a =>
            dsimp only
            have ha := hst a rfl
            have hne : (s.data.toList.drop a).take (pos - a) ≠ [] := by
              intro h
              have := congrArg List.length h
              rw [List.length_take, List.length_drop, hsz] at this
              simp at this
              omega
            rw [spans_words s f (pos + 1) none (acc ++ [(a, pos)]) (by omega) (by omega) (fun a h => by cases h), hd, wdsF, if_pos (show bl9 s[pos] = true from hbl)]
            unfold cur9
            rw [if_neg hne, List.map_append, List.append_assoc]
            rfl
        · rw [if_neg hbl]
          have hbf : bl9 s[pos] = false := by simpa [bl9] using hbl
          have hstep : ∀ a, a ≤ pos → wdsF (s.data.toList.drop pos) ((s.data.toList.drop a).take (pos - a)) = wdsF (s.data.toList.drop (pos + 1)) ((s.data.toList.drop a).take (pos + 1 - a)) := fun a ha => by
            rw [cur_more s a pos 1 ha, hd, wdsF, if_neg (by rw [hbf]; decide)]
            rfl
          cases st with
          | none =>
            dsimp only
            rw [spans_words s f (pos + 1) (some pos) acc (by omega) (by omega) (fun a h => by cases h; omega)]
            have := hstep pos (Nat.le_refl _)
            rw [Nat.sub_self, List.take_zero] at this
            unfold cur9
            rw [this]
          | some a =>
            dsimp only
            have ha := hst a rfl
            rw [spans_words s f (pos + 1) (some a) acc (by omega) (by omega) (fun b h => by cases h; omega)]
            unfold cur9
            rw [hstep a (by omega)]
      · obtain ⟨r, n, hdec, hr, _, hn1, hn2, hj⟩ := o9decode_skip s pos hlt (by omega)
        rw [hdec]
        dsimp only
        rw [if_neg (by rw [p9_high r hr]; decide)]
        have hx : ∀ c ∈ (s.data.toList.drop pos).take n, bl9 c = false := by
          intro c hc
          obtain ⟨k, hk, rfl⟩ := List.getElem_of_mem hc
          rw [List.length_take, List.length_drop, hsz] at hk
          have h1 := hj (pos + k) (by omega) (by omega)
          rw [o9get_bang s (pos + k) (by omega)] at h1
          unfold bl9
          rw [List.getElem_take, List.getElem_drop]
          exact p9_high _ h1
        have hstep : ∀ a, a ≤ pos → wdsF (s.data.toList.drop pos) ((s.data.toList.drop a).take (pos - a)) = wdsF (s.data.toList.drop (pos + n)) ((s.data.toList.drop a).take (pos + n - a)) := fun a ha => by
          rw [cur_more s a pos n ha, ← wds_skip _ _ _ hx, ← List.drop_drop, List.take_append_drop]
        cases st with
        | none =>
          dsimp only
          rw [spans_words s f (pos + n) (some pos) acc (by omega) (by omega) (fun a h => by cases h; omega)]
          have := hstep pos (Nat.le_refl _)
          rw [Nat.sub_self, List.take_zero] at this
          unfold cur9
          rw [this]
        | some a =>
          dsimp only
          have ha := hst a rfl
          rw [spans_words s f (pos + n) (some a) acc (by omega) (by omega) (fun b h => by cases h; omega)]
          unfold cur9
          rw [hstep a (by omega)]
    · rw [Lib.spansFromP_end p9 s (f + 1) pos st acc hlt]
      exact spans_end s pos st acc (by omega) hpos hst

theorem fields_words (s : ByteArray) : Lib.goFieldsP p9 s = (words9 s.data.toList).map fun x => ⟨x.toArray⟩ := by
  have h := spans_words s s.size 0 none [] (by omega) (by omega) (fun a h => by cases h)
  rw [List.drop_zero] at h
  have h2 : words9 s.data.toList = (Lib.spansOfP p9 s).map (ext9 s) := by
    rw [Lib.spansOfP, h]; rfl
  rw [h2, List.map_map]
  unfold Lib.goFieldsP
  apply List.map_congr_left
  intro x _
  show s.extract x.1 x.2 = ⟨(ext9 s x).toArray⟩
  rw [← Lib.mk_data (s.extract x.1 x.2)]
  congr 2
  rw [← ByteArray.toList_eq, Lib.extract_toList]
  rfl

theorem wds_len : ∀ (l cur : List UInt8), (wdsF l cur).length ≤ l.length + 1 ∧ ∀ x ∈ wdsF l cur, x.length ≤ cur.length + l.length
  | [], cur => by
    unfold wdsF
    split
    · simp
    · simp
  | c :: r, cur => by
    unfold wdsF
    split
    · split
      · have := wds_len r []
        refine ⟨by have := this.1; simp only [List.length_cons]; omega, fun x hx => ?_⟩
        have := this.2 x hx
        simp only [List.length_cons, List.length_nil] at this ⊢
        omega
      · have := wds_len r []
        refine ⟨by have := this.1; simp only [List.length_cons]; omega, fun x hx => ?_⟩
        rcases List.mem_cons.1 hx with rfl | hx
        · simp only [List.length_cons]; omega
        · have := this.2 x hx
          simp only [List.length_cons, List.length_nil] at this ⊢
          omega
    · have := wds_len r (cur ++ [c])
      refine ⟨by have := this.1; simp only [List.length_cons]; omega, fun x hx => ?_⟩
      have := this.2 x hx
      simp only [List.length_append, List.length_cons, List.length_nil] at this ⊢
      omega

structure It where
  bits : Int
  want : List UInt8
  opt : List UInt8

def sha2 : List UInt8 := [115, 104, 97, 50, 53, 54]
def sha3 : List UInt8 := [115, 104, 97, 51, 56, 52]
def sha5 : List UInt8 := [115, 104, 97, 53, 49, 50]
/-- Of a name; 0: none. -/
def bitsV (n : List UInt8) : Int := if low n = sha2 then 256 else if low n = sha3 then 384 else if low n = sha5 then 512 else 0
def nameV9 (x : List UInt8) : List UInt8 := (part 45 (part 63 x).1).1
def wantV9 (x : List UInt8) : List UInt8 := (part 45 (part 63 x).1).2.1
def optV9 (x : List UInt8) : List UInt8 := (part 63 x).2.1
def okV9 (x : List UInt8) : Bool := (part 45 (part 63 x).1).2.2 && bitsV (nameV9 x) != 0
def itemV (x : List UInt8) : Option It := if okV9 x then some ⟨bitsV (nameV9 x), wantV9 x, optV9 x⟩ else none
def parse9 (l : List UInt8) : List It := (words9 l).filterMap itemV

def mostV : List It → Int → Int
  | [], m => m
  | x :: L, m => mostV L (max m x.bits)
def strong (L : List It) : List It := L.filter fun x => x.bits == mostV L (-9223372036854775808)
def wantsV (r : List UInt8) (y : It) : Bool := match b64 y.want with
  | some b => b == r
  | none => false
def holdsL (Hs Ks : List Nat) (L : List It) (body : List UInt8) : Bool := match L with
  | [] => true
  | x :: _ => match sumV Hs Ks x.bits body with
    | none => false
    | some r => L.any (wantsV r)
def holdsV (Hs Ks : List Nat) (l body : List UInt8) : Bool := holdsL Hs Ks (strong (parse9 l)) body

theorem bits_cases (n : List UInt8) : bitsV n = 256 ∨ bitsV n = 384 ∨ bitsV n = 512 ∨ bitsV n = 0 := by
  unfold bitsV
  split
  · exact .inl rfl
  · split
    · exact .inr (.inl rfl)
    · split
      · exact .inr (.inr (.inl rfl))
      · exact .inr (.inr (.inr rfl))

theorem parse_bits (l : List UInt8) : ∀ x ∈ parse9 l, x.bits = 256 ∨ x.bits = 384 ∨ x.bits = 512 := by
  intro x hx
  obtain ⟨y, _, hy⟩ := List.mem_filterMap.1 hx
  unfold itemV at hy
  split at hy
  · rename_i h
    obtain rfl := Option.some.inj hy
    dsimp only
    unfold okV9 at h
    rw [Bool.and_eq_true, bne_iff_ne] at h
    rcases bits_cases (nameV9 y) with h' | h' | h' | h'
    · exact .inl h'
    · exact .inr (.inl h')
    · exact .inr (.inr h')
    · exact absurd h' h.2
  · cases hy

end Go.Proofs.YtbdlicomkpnalaaDoor

namespace Go.Proofs.YtbdlicomkpnalaaDoor
open Go.RowKit

def itC (x : It) : List Value := [.int .i64 x.bits, .string ⟨x.want.toArray⟩, .string ⟨x.opt.toArray⟩]
def cellsI (L : List It) : List Value := L.flatMap itC

theorem cellsI_app (a b : List It) : cellsI (a ++ b) = cellsI a ++ cellsI b := by simp [cellsI]
theorem cellsI_len (a : List It) : (cellsI a).length = a.length * 3 := by
  induction a with
  | nil => rfl
  | cons h a ih =>
    have e : cellsI (h :: a) = itC h ++ cellsI a := rfl
    rw [e, List.length_append, ih, List.length_cons]
    show 3 + _ = _
    omega
theorem cellsI_at (L : List It) : ∀ j (h : j < L.length), (cellsI L)[j * 3]? = some (.int .i64 L[j].bits) ∧ (cellsI L)[j * 3 + 1]? = some (.string ⟨L[j].want.toArray⟩) ∧ (cellsI L)[j * 3 + 2]? = some (.string ⟨L[j].opt.toArray⟩) := by
  induction L with
  | nil => intro j h; simp at h
  | cons a L ih =>
    intro j h
    have e : cellsI (a :: L) = .int .i64 a.bits :: .string ⟨a.want.toArray⟩ :: .string ⟨a.opt.toArray⟩ :: cellsI L := rfl
    cases j with
    | zero => rw [e]; exact ⟨rfl, rfl, rfl⟩
    | succ j =>
      have := ih j (by simpa using h)
      rw [e, show (j + 1) * 3 = j * 3 + 1 + 1 + 1 by omega]
      simpa using this

/-- The value v reads as the items L. -/
def ItAt (w : World) (v : Value) (L : List It) : Prop :=
  ∃ a cap, v = .slice a L.length cap ∧ L.length ≤ cap ∧ cap ≤ maxLen ∧ ∀ j (hj : j < L.length), ∃ b off, a = some ⟨b, off, none⟩ ∧ w.cell? ⟨b, off + j * 3, none⟩ = some (.int .i64 L[j].bits) ∧ w.cell? ⟨b, off + j * 3 + 1, none⟩ = some (.string ⟨L[j].want.toArray⟩) ∧ w.cell? ⟨b, off + j * 3 + 2, none⟩ = some (.string ⟨L[j].opt.toArray⟩)

theorem ItAt.view {w : World} {v : Value} {L : List It} (h : ItAt w v L) : ∃ a cap, v = .slice a L.length cap ∧ L.length ≤ cap ∧ cap ≤ maxLen ∧ ∀ j (hj : j < L.length), ∃ b off, a = some ⟨b, off, none⟩ ∧ w.cell? ⟨b, off + j * 3, none⟩ = some (.int .i64 L[j].bits) ∧ w.cell? ⟨b, off + j * 3 + 1, none⟩ = some (.string ⟨L[j].want.toArray⟩) ∧ w.cell? ⟨b, off + j * 3 + 2, none⟩ = some (.string ⟨L[j].opt.toArray⟩) := h

theorem it_nil (w : World) : ItAt w (.slice none 0 0) [] := ⟨none, 0, rfl, Nat.le_refl _, by decide, fun j hj => by simp at hj⟩

theorem ItAt.kept {w w' : World} {v : Value} {L : List It} (h : ItAt w v L) (hb : Below w.heap.size w w') : ItAt w' v L := by
  obtain ⟨a, cap, h1, h2, h3, h4⟩ := h
  refine ⟨a, cap, h1, h2, h3, fun j hj => ?_⟩
  obtain ⟨b, off, e, c1, c2, c3⟩ := h4 j hj
  exact ⟨b, off, e, kept_cell c1 hb, kept_cell c2 hb, kept_cell c3 hb⟩

theorem own_it {w : World} {B : Nat} {e : TypeId} {v : Value} {L : List It} (h : w.ownsRow B e 3 v L.length (cellsI L)) : ItAt w v L := by
  have h2 := h.2
  rcases h2 with ⟨hv, hn⟩ | ⟨g, cap, cur, rfl, hg, hrow, hnc, hcm, hcs, htake⟩
  · obtain rfl := List.eq_nil_of_length_eq_zero hn
    rw [hv]; exact it_nil w
  · refine ⟨_, cap, rfl, hnc, hcm, fun j hj => ⟨g, 0, rfl, ?_⟩⟩
    rw [Nat.zero_add, h.cellAt _ (by omega), h.cellAt _ (by omega), h.cellAt _ (by omega)]
    exact cellsI_at L j hj

def Gm (w : World) : Prop := ∃ m, w.cell? ⟨3, 0, none⟩ = some (.int .i64 m)
theorem Gm.kept {w w' : World} (h : Gm w) (hb : Below w.heap.size w w') : Gm w' := by
  obtain ⟨m, hm⟩ := h
  exact ⟨m, kept_cell hm hb⟩

theorem beq_no9 (a : ByteArray) (l : List UInt8) (h : a.data.toList ≠ l) : (a.toList == l) = false := by
  rw [Lib.toList_data, beq_eq_false_iff_ne]; exact h
theorem beq_yes9 (a : ByteArray) (l : List UInt8) (h : a.data.toList = l) : (a.toList == l) = true := by
  rw [Lib.toList_data, h]; exact beq_self_eq_true _

theorem cut9 (s : ByteArray) (c : UInt8) (w : World) (hg : Gm w) (hs : s.size ≤ 4000000000) :
    Calls Tryd.prog 74 #[.string s, .string ⟨#[c]⟩] w fun e w' => e = .returned (.tuple #[.string ⟨(part c s.data.toList).1.toArray⟩, .string ⟨(part c s.data.toList).2.1.toArray⟩, .bool (part c s.data.toList).2.2]) ∧ Below w.heap.size w w' := by
  obtain ⟨m, hm⟩ := hg
  have h := Tryd.strings_Cut s ⟨#[c]⟩ m w (by omega) hm
  rw [show (⟨#[c]⟩ : ByteArray).data.toList = [c] from rfl, cut_part] at h
  refine h.mono ?_
  rintro e w' ⟨rfl, n, rfl⟩
  exact ⟨rfl, below_drewN (Below.refl _ _) n⟩

set_option maxHeartbeats 400000 in
theorem blank9_any (x : Nat) (w : World) : Calls Tryd.prog 45 #[.int .i32 (x : Int)] w fun e w' => e = .returned (.bool (p9 x)) ∧ w = w' := by
  by_cases h : p9 x = true
  · have h' : x = 9 ∨ x = 10 ∨ x = 12 ∨ x = 13 ∨ x = 32 := by unfold p9 at h; simp at h; omega
    clear h
    rcases h' with rfl | rfl | rfl | rfl | rfl <;>
      (go_enter Tryd.func45, Tryd.ntmps45
       go_wp2
       go_ret
       exact ⟨rfl, rfl⟩)
  · have HP := hid (show p9 x = false by simpa using h)
    have h' : x ≠ 9 ∧ x ≠ 10 ∧ x ≠ 12 ∧ x ≠ 13 ∧ x ≠ 32 := by unfold p9 at h; simp at h; omega
    have e1 : ((x : Int) == 9) = false := by rw [beq_eq_false_iff_ne]; omega
    have e2 : ((x : Int) == 10) = false := by rw [beq_eq_false_iff_ne]; omega
    have e3 : ((x : Int) == 12) = false := by rw [beq_eq_false_iff_ne]; omega
    have e4 : ((x : Int) == 13) = false := by rw [beq_eq_false_iff_ne]; omega
    have e5 : ((x : Int) == 32) = false := by rw [beq_eq_false_iff_ne]; omega
    clear h h'
    go_enter Tryd.func45, Tryd.ntmps45
    go_wp2
    go_ret
    rw [HP.out]
    exact ⟨rfl, rfl⟩

theorem ret_nb9 {a b : Int} {x y : Bool} (h : a = b) (g : x = y) : Ending.returned (.tuple #[.int .i64 a, .bool x]) = .returned (.tuple #[.int .i64 b, .bool y]) := by rw [h, g]

set_option maxHeartbeats 1000000 in
theorem size9_any (s : ByteArray) (w : World) (hs : s.size ≤ 4000000000) :
    Calls Tryd.prog 75 #[.string s] w fun e w' => e = .returned (.tuple #[.int .i64 (bitsV s.data.toList), .bool (bitsV s.data.toList != 0)]) ∧ Below w.heap.size w w' := by
  obtain ⟨L, hL⟩ : ∃ L : ByteArray, L = ⟨(low s.data.toList).toArray⟩ := ⟨_, rfl⟩
  have HLw := hid (show Calls Tryd.prog 94 #[.string s] w fun e w' => e = .returned (.string L) ∧ Below w.heap.size w w' by rw [hL]; exact lower_any s w (by omega))
  have hLl : L.data.toList = low s.data.toList := by rw [hL]
  by_cases h1 : low s.data.toList = sha2
  · have HN := hid (show bitsV s.data.toList = 256 by unfold bitsV; rw [if_pos h1])
    have e1 := beq_yes9 L [115, 104, 97, 50, 53, 54] (hLl.trans h1)
    clear h1 hL hLl
    go_enter Tryd.func75, Tryd.ntmps75
    go_wp2_with fail
    refine HLw.out.mono ?_
    rintro e w1 ⟨rfl, hb⟩
    have HB := hid hb
    go_wp2_with fail
    go_ret2
    exact ⟨ret_nb9 HN.out.symm (by rw [HN.out]; rfl), HB.out⟩
  · have e1 := beq_no9 L [115, 104, 97, 50, 53, 54] (fun h => h1 (hLl.symm.trans h))
    by_cases h2 : low s.data.toList = sha3
    · have HN := hid (show bitsV s.data.toList = 384 by unfold bitsV; rw [if_neg h1, if_pos h2])
      have e2 := beq_yes9 L [115, 104, 97, 51, 56, 52] (hLl.trans h2)
      clear h1 h2 hL hLl
      go_enter Tryd.func75, Tryd.ntmps75
      go_wp2_with fail
      refine HLw.out.mono ?_
      rintro e w1 ⟨rfl, hb⟩
      have HB := hid hb
      go_wp2_with fail
      go_ret2
      exact ⟨ret_nb9 HN.out.symm (by rw [HN.out]; rfl), HB.out⟩
    · have e2 := beq_no9 L [115, 104, 97, 51, 56, 52] (fun h => h2 (hLl.symm.trans h))
      by_cases h3 : low s.data.toList = sha5
      · have HN := hid (show bitsV s.data.toList = 512 by unfold bitsV; rw [if_neg h1, if_neg h2, if_pos h3])
        have e3 := beq_yes9 L [115, 104, 97, 53, 49, 50] (hLl.trans h3)
        clear h1 h2 h3 hL hLl
        go_enter Tryd.func75, Tryd.ntmps75
        go_wp2_with fail
        refine HLw.out.mono ?_
        rintro e w1 ⟨rfl, hb⟩
        have HB := hid hb
        go_wp2_with fail
        go_ret2
        exact ⟨ret_nb9 HN.out.symm (by rw [HN.out]; rfl), HB.out⟩
      · have HN := hid (show bitsV s.data.toList = 0 by unfold bitsV; rw [if_neg h1, if_neg h2, if_neg h3])
        have e3 := beq_no9 L [115, 104, 97, 53, 49, 50] (fun h => h3 (hLl.symm.trans h))
        clear h1 h2 h3 hL hLl
        go_enter Tryd.func75, Tryd.ntmps75
        go_wp2_with fail
        refine HLw.out.mono ?_
        rintro e w1 ⟨rfl, hb⟩
        have HB := hid hb
        go_wp2_with fail
        go_ret2
        exact ⟨ret_nb9 HN.out.symm (by rw [HN.out]; rfl), HB.out⟩

def itVal (x : It) : Value := .agg (itC x).toArray
def ItmPost (l : List UInt8) (w : World) (e : Ending) (w' : World) : Prop :=
  e = .returned (.tuple #[(match itemV l with | some x => itVal x | none => .agg #[.int .i64 0, .string ⟨#[]⟩, .string ⟨#[]⟩]), .bool (itemV l).isSome]) ∧ Below w.heap.size w w'

def TriI (w : World) (b : Nat) (n : Int) (v o : ByteArray) : Prop := w.heap[b]? = some (.cells #[.int .i64 n, .string v, .string o] 56 (0, 0))
theorem TriI.lt {w : World} {b : Nat} {n : Int} {v o : ByteArray} (h : TriI w b n v o) : b < w.heap.size := (Array.getElem?_eq_some_iff.1 h).1
theorem TriI.range {w : World} {b : Nat} {n : Int} {v o : ByteArray} (h : TriI w b n v o) : w.rangeAt b 0 [.int .i64 n, .string v, .string o] := fun j u hu => by
  rw [Nat.zero_add, Lib.cell_of_heap h]
  match j, hu with
  | 0, hu => simpa using hu
  | 1, hu => simpa using hu
  | 2, hu => simpa using hu
  | j + 3, hu => simp at hu
theorem TriI.cells {w : World} {b : Nat} {n : Int} {v o : ByteArray} (h : TriI w b n v o) : w.cell? ⟨b, 0, none⟩ = some (.int .i64 n) ∧ w.cell? ⟨b, 1, none⟩ = some (.string v) ∧ w.cell? ⟨b, 2, none⟩ = some (.string o) ∧ w.frozen? ⟨b, 0, none⟩ = false ∧ w.frozen? ⟨b, 1, none⟩ = false ∧ w.frozen? ⟨b, 2, none⟩ = false :=
  ⟨by rw [Lib.cell_of_heap h]; rfl, by rw [Lib.cell_of_heap h]; rfl, by rw [Lib.cell_of_heap h]; rfl, Lib.frozen_of_heap h 0, Lib.frozen_of_heap h 1, Lib.frozen_of_heap h 2⟩
theorem TriI.kept {w w' : World} {b : Nat} {n : Int} {v o : ByteArray} (h : TriI w b n v o) (hb : Below w.heap.size w w') : TriI w' b n v o := row_kept h hb
theorem TriI.set {w : World} {b : Nat} {n n' : Int} {v v' o o' : ByteArray} (h : TriI w b n v o) : TriI (((w.setCell ⟨b, 0, none⟩ (.int .i64 n')).setCell ⟨b, 1, none⟩ (.string v')).setCell ⟨b, 2, none⟩ (.string o')) b n' v' o' := by
  have h1 := Lib.heap_setCell_same h (i := 0) (.int .i64 n')
  have h2 := Lib.heap_setCell_same h1 (i := 1) (.string v')
  have h3 := Lib.heap_setCell_same h2 (i := 2) (.string o')
  unfold TriI
  rw [h3]
  rfl
theorem below_set3 {B : Nat} {w0 w : World} {b : Nat} {x y z : Value} (h : Below B w0 w) (hb : B ≤ b) : Below B w0 (((w.setCell ⟨b, 0, none⟩ x).setCell ⟨b, 1, none⟩ y).setCell ⟨b, 2, none⟩ z) :=
  ((h.setCell (p := ⟨b, 0, none⟩) hb x).setCell (p := ⟨b, 1, none⟩) hb y).setCell (p := ⟨b, 2, none⟩) hb z

theorem results_i2 {fn : Func} {p q : Tmp} (h : fn.results = #[.cell p 56, .tmp q]) (tmps : Array Value) (w : World) (b : Nat) (n : Int) (v o : ByteArray) (hp : tmps.getD p undef = .pointer (some ⟨b, 0, none⟩)) (hc : w.rangeAt b 0 [.int .i64 n, .string v, .string o]) : (results fn tmps).run Tryd.prog w = .ok (.tuple #[.agg #[.int .i64 n, .string v, .string o], tmps.getD q undef]) w := by
  rw [Array.getD_eq_getD_getElem?] at hp
  simp only [results, h]
  simp [Sem.run_bind, Result.andThen, hp, asAddr, run_loadVar_mid w b 0 56 [.int .i64 n, .string v, .string o] _ hc Tryd.underlying56 rfl (by kernel_rfl)]

set_option maxHeartbeats 2000000 in
theorem item9_any (s : ByteArray) (w : World) (hg : Gm w) (hs : s.size ≤ 4000000000) :
    Calls Tryd.prog 46 #[.string s] w (ItmPost s.data.toList w) := by
  have hp1 := part_le 63 s.data.toList
  have hp2 := part_le 45 (part 63 s.data.toList).1
  obtain ⟨A, hA⟩ : ∃ A : ByteArray, A = ⟨(part 63 s.data.toList).1.toArray⟩ := ⟨_, rfl⟩
  obtain ⟨O, hO⟩ : ∃ A : ByteArray, A = ⟨(part 63 s.data.toList).2.1.toArray⟩ := ⟨_, rfl⟩
  have hAl : A.data.toList = (part 63 s.data.toList).1 := by rw [hA]
  obtain ⟨N, hN⟩ : ∃ A' : ByteArray, A' = ⟨(part 45 A.data.toList).1.toArray⟩ := ⟨_, rfl⟩
  obtain ⟨V, hV⟩ : ∃ A' : ByteArray, A' = ⟨(part 45 A.data.toList).2.1.toArray⟩ := ⟨_, rfl⟩
  obtain ⟨d, hd⟩ : ∃ d, d = (part 45 A.data.toList).2.2 := ⟨_, rfl⟩
  have hNl : N.data.toList = nameV9 s.data.toList := by rw [hN]; show (part 45 A.data.toList).1 = _; rw [hAl]; rfl
  have hAs : A.size ≤ 4000000000 := by rw [Lib.size_eq, hAl]; rw [Lib.size_eq] at hs; omega
  have hNs : N.size ≤ 4000000000 := by rw [Lib.size_eq, hN]; show (part 45 A.data.toList).1.length ≤ _; rw [hAl]; rw [Lib.size_eq] at hs; omega
  obtain ⟨q, hq⟩ : ∃ q, q = (part 63 s.data.toList).2.2 := ⟨_, rfl⟩
  have HC1 := hid (show ∀ X, Below w.heap.size w X → Calls Tryd.prog 74 #[.string s, .string ⟨#[63]⟩] X fun e w' => e = .returned (.tuple #[.string A, .string O, .bool q]) ∧ Below X.heap.size X w' from fun X hX => by rw [hA, hO, hq]; exact cut9 s 63 X (hg.kept hX) hs)
  have HC2 := hid (show ∀ X, Below w.heap.size w X → Calls Tryd.prog 74 #[.string A, .string ⟨#[45]⟩] X fun e w' => e = .returned (.tuple #[.string N, .string V, .bool d]) ∧ Below X.heap.size X w' from fun X hX => by rw [hN, hV, hd]; exact cut9 A 45 X (hg.kept hX) hAs)
  obtain ⟨b, hb⟩ : ∃ b, b = bitsV N.data.toList := ⟨_, rfl⟩
  obtain ⟨k, hk⟩ : ∃ k, k = (bitsV N.data.toList != 0) := ⟨_, rfl⟩
  have HSZ := hid (show ∀ X, Calls Tryd.prog 75 #[.string N] X fun e w' => e = .returned (.tuple #[.int .i64 b, .bool k]) ∧ Below X.heap.size X w' from fun X => by rw [hb, hk]; exact size9_any N X hNs)
  have HOK := hid (show okV9 s.data.toList = (d && k) by unfold okV9; rw [hd, hk, hNl, hAl])
  have HIT := hid (show (⟨bitsV (nameV9 s.data.toList), wantV9 s.data.toList, optV9 s.data.toList⟩ : It) = ⟨b, V.data.toList, O.data.toList⟩ by
    rw [hb, hNl, hV, hO, hAl]; rfl)
  clear hp1 hp2 hA hO hAl hN hV hd hNl hAs hNs hq hb hk hg
  have hfin : (d && k) = true ∨ (d && k) = false := by cases (d && k) <;> simp
  rcases hfin with hf | hf
  · have HI := hid (show itemV s.data.toList = some ⟨b, V.data.toList, O.data.toList⟩ by unfold itemV; rw [HOK.out, hf, if_pos rfl, HIT.out])
    obtain ⟨rfl, rfl⟩ : d = true ∧ k = true := by simpa using hf
    clear hf HOK HIT
    go_enter Tryd.func46, Tryd.ntmps46
    go_wp2_with fail
    refine (HC1.out _ ((Below.refl _ w).alloc (Nat.le_refl _) _)).mono ?_
    rintro e w1 ⟨rfl, hb1⟩
    have HB1 := hid (below2 ((Below.refl _ w).alloc (Nat.le_refl _) _) hb1)
    have HR1 := hid (row_kept (heap_alloc_new w _) hb1)
    clear hb1
    go_wp2_with fail
    refine (HC2.out _ HB1.out).mono ?_
    rintro e w2 ⟨rfl, hb2⟩
    have HB2 := hid (below2 HB1.out hb2)
    have HR2 := hid (row_kept HR1.out hb2)
    clear hb2 HR1
    go_wp2_with fail
    refine (HSZ.out _).mono ?_
    rintro e w3 ⟨rfl, hb3⟩
    have HB3 := hid (below2 HB2.out hb3)
    have HR3 := hid (row_kept HR2.out hb3)
    clear hb3 HR2
    obtain ⟨c0, c1, c2, z0, z1, z2⟩ := TriI.cells HR3.out
    go_wp2_with fail
    refine bodyPost_ret (results_i2 rfl _ _ w.heap.size b V O rfl (TriI.set HR3.out).range) rfl ⟨?_, below_set3 HB3.out (Nat.le_refl _)⟩
    rw [HI.out]
    show _ = Ending.returned (.tuple #[.agg #[.int .i64 b, .string ⟨V.data.toList.toArray⟩, .string ⟨O.data.toList.toArray⟩], .bool true])
    rw [Lib.mk_data, Lib.mk_data]
    rfl
  · have HI := hid (show itemV s.data.toList = none by unfold itemV; rw [HOK.out, hf]; rfl)
    clear HOK HIT
    cases d with
    | false =>
      clear hf
      go_enter Tryd.func46, Tryd.ntmps46
      go_wp2_with fail
      refine (HC1.out _ ((Below.refl _ w).alloc (Nat.le_refl _) _)).mono ?_
      rintro e w1 ⟨rfl, hb1⟩
      have HB1 := hid (below2 ((Below.refl _ w).alloc (Nat.le_refl _) _) hb1)
      have HR1 := hid (row_kept (heap_alloc_new w _) hb1)
      clear hb1
      go_wp2_with fail
      refine (HC2.out _ HB1.out).mono ?_
      rintro e w2 ⟨rfl, hb2⟩
      have HB2 := hid (below2 HB1.out hb2)
      have HR2 := hid (row_kept HR1.out hb2)
      clear hb2 HR1
      go_wp2_with fail
      refine (HSZ.out _).mono ?_
      rintro e w3 ⟨rfl, hb3⟩
      have HB3 := hid (below2 HB2.out hb3)
      have HR3 := hid (row_kept HR2.out hb3)
      clear hb3 HR2
      obtain ⟨c0, c1, c2, z0, z1, z2⟩ := TriI.cells HR3.out
      go_wp2_with fail
      refine bodyPost_ret (results_i2 rfl _ _ w.heap.size 0 ⟨#[]⟩ ⟨#[]⟩ rfl (TriI.set HR3.out).range) rfl ⟨?_, below_set3 HB3.out (Nat.le_refl _)⟩
      rw [HI.out]
      rfl
    | true =>
      obtain rfl : k = false := by simpa using hf
      clear hf
      go_enter Tryd.func46, Tryd.ntmps46
      go_wp2_with fail
      refine (HC1.out _ ((Below.refl _ w).alloc (Nat.le_refl _) _)).mono ?_
      rintro e w1 ⟨rfl, hb1⟩
      have HB1 := hid (below2 ((Below.refl _ w).alloc (Nat.le_refl _) _) hb1)
      have HR1 := hid (row_kept (heap_alloc_new w _) hb1)
      clear hb1
      go_wp2_with fail
      refine (HC2.out _ HB1.out).mono ?_
      rintro e w2 ⟨rfl, hb2⟩
      have HB2 := hid (below2 HB1.out hb2)
      have HR2 := hid (row_kept HR1.out hb2)
      clear hb2 HR1
      go_wp2_with fail
      refine (HSZ.out _).mono ?_
      rintro e w3 ⟨rfl, hb3⟩
      have HB3 := hid (below2 HB2.out hb3)
      have HR3 := hid (row_kept HR2.out hb3)
      clear hb3 HR2
      obtain ⟨c0, c1, c2, z0, z1, z2⟩ := TriI.cells HR3.out
      go_wp2_with fail
      refine bodyPost_ret (results_i2 rfl _ _ w.heap.size 0 ⟨#[]⟩ ⟨#[]⟩ rfl (TriI.set HR3.out).range) rfl ⟨?_, below_set3 HB3.out (Nat.le_refl _)⟩
      rw [HI.out]
      rfl

end Go.Proofs.YtbdlicomkpnalaaDoor

namespace Go.Proofs.YtbdlicomkpnalaaDoor
open Go.RowKit

theorem infoIt : (Tryd.prog.info? 56).map (fun i => (i.zero, i.size, i.bytes)) = some (some (.agg #[.int .i64 0, .string ByteArray.empty, .string ByteArray.empty]), 3, 40) := by kernel_rfl

theorem enters_blank : ∀ args w, (callFunc 45 args).run Tryd.prog w = .ok (.enter 45 args) w := enters_of Tryd.func45 (by kernel_rfl) rfl

theorem fields9 (s : ByteArray) (w : World) (hs : s.size ≤ 4294967296) :
    Calls Tryd.prog 44 #[.string s, .func (.func 45) #[] #[]] w fun e w' => ∃ A, e = .returned (.slice (some ⟨A, 0, none⟩) (words9 s.data.toList).length (words9 s.data.toList).length) ∧
      (∀ j (hj : j < (words9 s.data.toList).length), w'.cell? ⟨A, j, none⟩ = some (.string ⟨(words9 s.data.toList)[j].toArray⟩)) ∧ Below w.heap.size w w' := by
  have h := Tryd.strings_FieldsFunc_runes 45 #[] enters_blank p9 s w hs (fun W x hx hb => by
    refine (blank9_any x W).mono ?_
    rintro e w' ⟨rfl, rfl⟩
    exact ⟨rfl, 0, rfl⟩)
  rw [fields_words, List.length_map, List.map_map] at h
  refine h.mono ?_
  rintro e w' ⟨A, rfl, hA, hown, hb⟩
  refine ⟨A, rfl, fun j hj => ?_, hb⟩
  rw [hown.cellAt j (by omega)]
  simp [hj]

theorem own_lower9 {w : World} {B B' : Nat} {e : TypeId} {size : Nat} {v : Value} {n : Nat} {xs : List Value} (h : w.ownsRow B e size v n xs) (hB : B' ≤ B) : w.ownsRow B' e size v n xs := by
  refine ⟨h.1, ?_⟩
  rcases h.2 with h | ⟨g, cap, cur, hv, h1, h2⟩
  · exact .inl h
  · exact .inr ⟨g, cap, cur, hv, by omega, h2⟩

def ParsePost9 (l : List UInt8) (w : World) (e : Ending) (w' : World) : Prop :=
  ∃ v, e = .returned v ∧ w'.ownsRow w.heap.size 56 3 v (parse9 l).length (cellsI (parse9 l)) ∧ Below w.heap.size w w'

theorem it_one (w : World) (n : Int) (v o : ByteArray) (t : TypeId) : ∀ j u, [Value.int .i64 n, .string v, .string o][j]? = some u → (w.alloc (.cells #[.int .i64 n, .string v, .string o] t)).cell? ((⟨w.heap.size, 0, none⟩ : Addr).add j) = some u := by
  intro q u hq
  match q, hq with
  | 0, hq => simp at hq; subst hq; simp [Addr.add]
  | 1, hq => simp at hq; subst hq; simp [Addr.add]
  | 2, hq => simp at hq; subst hq; simp [Addr.add]
  | q + 3, hq => simp at hq

theorem words_at (l : List UInt8) (k : Nat) (hk : k < (words9 l).length) : (words9 l)[k].length ≤ l.length := by
  have := (wds_len l []).2 _ (List.getElem_mem hk)
  simpa using this

theorem filt_le (l : List UInt8) (k : Nat) : (((words9 l).take k).filterMap itemV).length ≤ k := by
  have h1 := List.length_filterMap_le itemV ((words9 l).take k)
  rw [List.length_take] at h1
  omega

set_option maxHeartbeats 4000000 in
set_option maxRecDepth 100000 in
theorem parse9_any (s : ByteArray) (w : World) (hg : Gm w) (hs : s.size ≤ 1000000000) :
    Calls Tryd.prog 19 #[.string s] w (ParsePost9 s.data.toList w) := by
  obtain ⟨i0, hi, hz0, hz1, hz2⟩ := info_parts infoIt
  obtain ⟨W, hW⟩ : ∃ W, W = words9 s.data.toList := ⟨_, rfl⟩
  have HWL := hid (show W.length ≤ 1000000001 by rw [hW]; have := (wds_len s.data.toList []).1; rw [← Lib.size_eq] at this; unfold words9; omega)
  have HWA := hid (show ∀ k (hk : k < W.length), W[k].length ≤ 1000000000 by subst hW; intro k hk; have := words_at s.data.toList k hk; rw [← Lib.size_eq] at this; omega)
  have HPE := hid (show parse9 s.data.toList = W.filterMap itemV by rw [hW]; rfl)
  have HG := hid hg
  obtain ⟨n, hn⟩ : ∃ n, n = W.length := ⟨_, rfl⟩
  have HN := hid hn
  have HF := hid (show Calls Tryd.prog 44 #[.string s, .func (.func 45) #[] #[]] w fun e w' => ∃ A, e = .returned (.slice (some ⟨A, 0, none⟩) n n) ∧ (∀ j (hj : j < W.length), w'.cell? ⟨A, j, none⟩ = some (.string ⟨W[j].toArray⟩)) ∧ Below w.heap.size w w' by
    subst hW
    rw [hn]
    exact fields9 s w (by omega))
  rw [← hn] at HWL
  clear hW hg hn
  go_enter Tryd.func19, Tryd.ntmps19
  go_wp2_with fail
  refine HF.out.mono ?_
  rintro e w1 ⟨A, rfl, hA, hb1⟩
  have HA := hid hA
  have HB1 := hid hb1
  clear hA hb1 HF
  have hnb : n ≤ 1000000001 := HWL.out
  go_wp2_with fail
  go_loopw [3, 11] (fun v3 v11 wr => ∃ k m : Nat, k ≤ n ∧ m ≤ k ∧ v11 = .int .i64 k ∧ Hid (m = ((W.take k).filterMap itemV).length ∧ wr.ownsRow w1.heap.size 56 3 v3 m (cellsI ((W.take k).filterMap itemV)) ∧ Below w1.heap.size w1 wr ∧ Below w.heap.size w wr)) (fun _ v11 _ => n - (intOf v11).toNat)
  case atStart => exact ⟨0, 0, Nat.zero_le _, Nat.zero_le _, rfl, rfl, World.ownsRow_nil _ _ _ _, Below.refl _ _, HB1.out⟩
  case round =>
    obtain ⟨k, m, hk, hmk, rfl, HR⟩ := hrel
    by_cases hlt : k < n
    · have hkW : k < W.length := by have := HN.out; omega
      obtain ⟨X, hX⟩ : ∃ X : ByteArray, X = ⟨W[k].toArray⟩ := ⟨_, rfl⟩
      have cA : wr.cell? ⟨A, k, none⟩ = some (.string X) := by rw [hX]; exact kept_cell (HA.out k hkW) HR.out.2.2.1
      have hXs : X.size ≤ 4000000000 := by have := HWA.out k hkW; rw [Lib.size_eq, hX]; show W[k].length ≤ _; omega
      have HT := hid (show (W.take (k + 1)).filterMap itemV = (W.take k).filterMap itemV ++ (match itemV X.data.toList with | some x => [x] | none => []) by
        rw [List.take_succ_eq_append_getElem hkW, List.filterMap_append, hX]
        congr 1
        show List.filterMap itemV [W[k]] = _
        cases h : itemV W[k] <;> simp [h])
      have HI := hid (item9_any X wr (HG.out.kept HR.out.2.2.2) hXs)
      have hin : (k : Int) < (n : Int) := by omega
      clear hX hXs hkW
      rcases hiv : itemV X.data.toList with _ | x
      · have HV := hid hiv
        have HI2 := hid (show Calls Tryd.prog 46 #[.string X] wr fun e w' => e = .returned (.tuple #[.agg #[.int .i64 0, .string ⟨#[]⟩, .string ⟨#[]⟩], .bool false]) ∧ Below wr.heap.size wr w' by
          refine HI.out.mono ?_
          rintro e w' ⟨rfl, hb⟩
          rw [HV.out]
          exact ⟨rfl, hb⟩)
        rw [HV.out] at HT
        clear hiv HI
        go_wp2_with fail
        refine HI2.out.mono ?_
        rintro e w2 ⟨rfl, hb2⟩
        have HB2 := hid hb2
        clear hb2
        go_wp2_with fail
        go_roundw
        case rel =>
          have hbw : Below wr.heap.size wr (w2.alloc (.cells #[.int .i64 0, .string ⟨#[]⟩, .string ⟨#[]⟩] 56)) := below2 HB2.out ((Below.refl _ _).alloc (Nat.le_refl _) _)
          have e3 := HR.out
          have e4 : (m = ((W.take (k + 1)).filterMap itemV).length ∧ (w2.alloc (.cells #[.int .i64 0, .string ⟨#[]⟩, .string ⟨#[]⟩] 56)).ownsRow w1.heap.size 56 3 u3 m (cellsI ((W.take (k + 1)).filterMap itemV)) ∧ Below w1.heap.size w1 (w2.alloc (.cells #[.int .i64 0, .string ⟨#[]⟩, .string ⟨#[]⟩] 56)) ∧ Below w.heap.size w (w2.alloc (.cells #[.int .i64 0, .string ⟨#[]⟩, .string ⟨#[]⟩] 56))) := by
            rw [HT.out, List.append_nil]
            exact ⟨e3.1, own_kept e3.2.1 hbw, below2 e3.2.2.1 hbw, below2 e3.2.2.2 hbw⟩
          first
            | exact ⟨k + 1, m, by omega, by omega, by go_num, e4⟩
            | ((repeat apply Exists.intro); refine ⟨?_, rfl⟩; exact ⟨k + 1, m, by omega, by omega, by go_num, e4⟩)
            | ((repeat apply Exists.intro); exact ⟨⟨k + 1, m, by omega, by omega, by go_num, e4⟩, rfl⟩)
        case measure => simp [intOf]; omega
      · have HV := hid hiv
        obtain ⟨b, hbx⟩ : ∃ b, b = x.bits := ⟨_, rfl⟩
        obtain ⟨V, hVx⟩ : ∃ V : ByteArray, V = ⟨x.want.toArray⟩ := ⟨_, rfl⟩
        obtain ⟨O, hOx⟩ : ∃ V : ByteArray, V = ⟨x.opt.toArray⟩ := ⟨_, rfl⟩
        have HI2 := hid (show Calls Tryd.prog 46 #[.string X] wr fun e w' => e = .returned (.tuple #[.agg #[.int .i64 b, .string V, .string O], .bool true]) ∧ Below wr.heap.size wr w' by
          refine HI.out.mono ?_
          rintro e w' ⟨rfl, hb⟩
          rw [HV.out, hbx, hVx, hOx]
          exact ⟨rfl, hb⟩)
        have HCE := hid (show cellsI [x] = [.int .i64 b, .string V, .string O] by rw [hbx, hVx, hOx]; rfl)
        rw [HV.out] at HT
        clear hiv HI hbx hVx hOx
        go_wp2_with fail
        refine HI2.out.mono ?_
        rintro e w2 ⟨rfl, hb2⟩
        have HB2 := hid hb2
        clear hb2
        have HX3 := hid (show Below wr.heap.size wr (w2.alloc (.cells #[.int .i64 b, .string V, .string O] 56)) from below2 HB2.out ((Below.refl _ _).alloc (Nat.le_refl _) _))
        have HO3 := hid (own_kept HR.out.2.1 HX3.out)
        have HSZ := hid (show w1.heap.size ≤ w2.heap.size from Nat.le_trans HR.out.2.2.1.size HB2.out.size)
        go_wp2_with (at_builtin; refine wpList_append_own _ rfl _ _ 42 rfl w1.heap.size 56 i0 _ 3 40 Tryd.underlying42 hi hz0 hz1 hz2 rfl (by decide) _ _ _ rfl (HO3.out.alloc _) ⟨w2.heap.size + 1, 0, none⟩ 1 1 [.int .i64 b, .string V, .string O] rfl rfl ?c1 ?c2 (by unfold maxLen; omega) (by omega) (by have := HSZ.out; simp; omega) ?_)
        case c1 =>
          intro q u hq
          match q, hq with
          | 0, hq => simp at hq; subst hq; simp [Addr.add]
          | 1, hq => simp at hq; subst hq; simp [Addr.add]
          | 2, hq => simp at hq; subst hq; simp [Addr.add]
        case c2 => intro u hu; simp at hu; rcases hu with rfl | rfl | rfl <;> rfl
        intro v4 w4 hown hgrow hnil
        have HR4 := hid (show m + 1 = ((W.take (k + 1)).filterMap itemV).length ∧ w4.ownsRow w1.heap.size 56 3 v4 (m + 1) (cellsI ((W.take (k + 1)).filterMap itemV)) ∧ Below w1.heap.size w1 w4 ∧ Below w.heap.size w w4 by
          have e1 : Below w1.heap.size w1 w4 := ((below2 HR.out.2.2.1 HX3.out).alloc (by have := HSZ.out; simp; omega) _).grown hgrow (by have := HSZ.out; simp; omega) (fun k hk => (HO3.out.lt k hk).1)
          refine ⟨?_, ?_, e1, below2 HB1.out e1⟩
          · rw [HT.out, List.length_append, ← HR.out.1]; rfl
          · rw [HT.out, cellsI_app, HCE.out]
            exact hown)
        go_wp2_with fail
        go_roundw
        case rel =>
          first
            | exact ⟨k + 1, m + 1, by omega, by omega, by go_num, HR4.out⟩
            | ((repeat apply Exists.intro); refine ⟨?_, rfl⟩; exact ⟨k + 1, m + 1, by omega, by omega, by go_num, HR4.out⟩)
            | ((repeat apply Exists.intro); exact ⟨⟨k + 1, m + 1, by omega, by omega, by go_num, HR4.out⟩, rfl⟩)
        case measure => simp [intOf]; omega
    · obtain rfl : k = n := by omega
      have HFN := hid (show wr.ownsRow w.heap.size 56 3 u3 (parse9 s.data.toList).length (cellsI (parse9 s.data.toList)) by
        have h := HR.out
        rw [List.take_of_length_le (by have := HN.out; omega), ← HPE.out] at h
        rw [← h.1]
        exact own_lower9 h.2.1 HB1.out.size)
      have HBF := hid HR.out.2.2.2
      clear HR hk hmk hlt
      go_wp2_with fail
      go_ret
      exact ⟨u3, rfl, HFN.out, HBF.out⟩

end Go.Proofs.YtbdlicomkpnalaaDoor

namespace Go.Proofs.YtbdlicomkpnalaaDoor
open Go.RowKit

set_option maxHeartbeats 1000000 in
theorem isMost_any (p : Nat) (m n : Int) (v o : ByteArray) (w : World) (hp : w.cell? ⟨p, 0, none⟩ = some (.int .i64 m)) :
    Calls Tryd.prog 48 #[.agg #[.int .i64 n, .string v, .string o], .pointer (some ⟨p, 0, none⟩)] w fun e w' => e = .returned (.bool (n == m)) ∧ Below w.heap.size w w' := by
  have hp2 := kept_cell hp ((Below.refl _ w).alloc (Nat.le_refl _) (.cells #[.int .i64 n, .string v, .string o] 56))
  go_enter Tryd.func48, Tryd.ntmps48
  go_wp2_with fail
  go_ret
  exact ⟨rfl, (Below.refl _ w).alloc (Nat.le_refl _) _⟩

/-- What is asked of a closure on items: an answer, and nothing that lay there is changed. -/
def Keeps (f : Nat) (lb : Array Value) (q : It → Bool) (w : World) : Prop := ∀ (X : World) (x : It), Below w.heap.size w X → Calls Tryd.prog f (#[itVal x] ++ lb) X fun e w' => e = .returned (.bool (q x)) ∧ Below X.heap.size X w'

theorem filter_snoc9 (q : It → Bool) (L : List It) (k : Nat) (hk : k < L.length) : (L.take (k + 1)).filter q = (L.take k).filter q ++ (if q L[k] then [L[k]] else []) := by
  rw [List.take_succ_eq_append_getElem hk, List.filter_append]
  congr 1
  cases h : q L[k] <;> simp [h]

set_option maxHeartbeats 4000000 in
set_option maxRecDepth 100000 in
theorem chosen_any (f : Nat) (lb : Array Value) (eg : ∀ args w, (callFunc f args).run Tryd.prog w = .ok (.enter f args) w) (q : It → Bool) (v : Value) (L : List It) (w : World) (hv : ItAt w v L) (hl : L.length ≤ 1000000001) (hq : Keeps f lb q w) :
    Calls Tryd.prog 47 #[v, .func (.func f) #[] lb] w fun e w' => ∃ v', e = .returned v' ∧ w'.ownsRow w.heap.size 56 3 v' (L.filter q).length (cellsI (L.filter q)) ∧ Below w.heap.size w w' := by
  obtain ⟨i0, hi, hz0, hz1, hz2⟩ := info_parts infoIt
  obtain ⟨a1, c1, rfl, hc1, hm1, hv1⟩ := hv.view
  have HV := hid hv1
  have HQ := hid hq
  have HL := hid hl
  obtain ⟨n, hn⟩ : ∃ n, n = L.length := ⟨_, rfl⟩
  have HN := hid hn
  rw [← hn] at hc1 hl ⊢
  clear hv hv1 hq hn
  go_enter Tryd.func47, Tryd.ntmps47
  go_wp2_with fail
  go_loopw [5, 10] (fun v5 v10 wr => ∃ k m : Nat, k ≤ n ∧ m ≤ k ∧ v10 = .int .i64 k ∧ Hid (m = ((L.take k).filter q).length ∧ wr.ownsRow w.heap.size 56 3 v5 m (cellsI ((L.take k).filter q)) ∧ Below w.heap.size w wr)) (fun _ v10 _ => n - (intOf v10).toNat)
  case atStart => exact ⟨0, 0, Nat.zero_le _, Nat.zero_le _, rfl, rfl, World.ownsRow_nil _ _ _ _, Below.refl _ _⟩
  case round =>
    obtain ⟨k, m, hk, hmk, rfl, HR⟩ := hrel
    by_cases hlt : k < n
    · have hkL : k < L.length := by have := HN.out; omega
      obtain ⟨b1, o1, rfl, e1, e2, e3⟩ := HV.out k hkL
      obtain ⟨x, hx⟩ : ∃ x, x = L[k] := ⟨_, rfl⟩
      rw [← hx] at e1 e2 e3
      obtain ⟨b, hbx⟩ : ∃ b, b = x.bits := ⟨_, rfl⟩
      obtain ⟨V, hVx⟩ : ∃ V : ByteArray, V = ⟨x.want.toArray⟩ := ⟨_, rfl⟩
      obtain ⟨O, hOx⟩ : ∃ V : ByteArray, V = ⟨x.opt.toArray⟩ := ⟨_, rfl⟩
      rw [← hbx] at e1
      rw [← hVx] at e2
      rw [← hOx] at e3
      have f1 := kept_cell e1 HR.out.2.2
      have f2 := kept_cell e2 HR.out.2.2
      have f3 := kept_cell e3 HR.out.2.2
      have HT := hid (show (L.take (k + 1)).filter q = (L.take k).filter q ++ (if q x then [x] else []) by rw [hx]; exact filter_snoc9 q L k hkL)
      have HCE := hid (show cellsI [x] = [.int .i64 b, .string V, .string O] by rw [hbx, hVx, hOx]; rfl)
      have HCL := hid (show ∀ X, Below w.heap.size w X → Calls Tryd.prog f (#[.agg #[.int .i64 b, .string V, .string O]] ++ lb) X fun e w' => e = .returned (.bool (q x)) ∧ Below X.heap.size X w' from fun X hX => by
        rw [hbx, hVx, hOx]
        exact HQ.out X x hX)
      obtain ⟨y, hy⟩ : ∃ y, y = q x := ⟨_, rfl⟩
      rw [← hy] at HCL HT
      have hin : (k : Int) < (n : Int) := by omega
      clear e1 e2 e3 hx hbx hVx hOx hkL hy
      have HX2 := hid (show Below wr.heap.size wr (wr.alloc (.cells #[.int .i64 b, .string V, .string O] 56)) from (Below.refl _ _).alloc (Nat.le_refl _) _)
      go_wp2_with fail
      refine (HCL.out _ (below2 HR.out.2.2 HX2.out)).mono ?_
      rintro e w2 ⟨rfl, hb2⟩
      have HB2 := hid (below2 HX2.out hb2)
      have hTr : TriI w2 wr.heap.size b V O := row_kept (heap_alloc_new wr _) hb2
      obtain ⟨d0, d1, d2, _, _, _⟩ := hTr.cells
      have HSW := hid (show w.heap.size ≤ w2.heap.size from Nat.le_trans HR.out.2.2.size HB2.out.size)
      have HO2 := hid (own_kept HR.out.2.1 HB2.out)
      have HW2 := hid (below2 HR.out.2.2 HB2.out)
      clear hb2 hTr f1 f2 f3
      cases y with
      | false =>
        clear d0 d1 d2
        go_wp2_with fail
        go_roundw
        case rel =>
          have e4 : (m = ((L.take (k + 1)).filter q).length ∧ w2.ownsRow w.heap.size 56 3 u5 m (cellsI ((L.take (k + 1)).filter q)) ∧ Below w.heap.size w w2) := by
            rw [HT.out, if_neg (by decide), List.append_nil]
            exact ⟨HR.out.1, HO2.out, HW2.out⟩
          first
            | exact ⟨k + 1, m, by omega, by omega, by go_num, e4⟩
            | ((repeat apply Exists.intro); refine ⟨?_, rfl⟩; exact ⟨k + 1, m, by omega, by omega, by go_num, e4⟩)
            | ((repeat apply Exists.intro); exact ⟨⟨k + 1, m, by omega, by omega, by go_num, e4⟩, rfl⟩)
        case measure => simp [intOf]; omega
      | true =>
        go_wp2_with (at_builtin; refine wpList_append_own _ rfl _ _ 42 rfl w.heap.size 56 i0 _ 3 40 Tryd.underlying42 hi hz0 hz1 hz2 rfl (by decide) _ _ _ rfl (HO2.out.alloc _) ⟨w2.heap.size, 0, none⟩ 1 1 [.int .i64 b, .string V, .string O] rfl rfl ?c1 ?c2 (by unfold maxLen; omega) (by omega) (by have := HSW.out; simp; omega) ?_)
        case c1 =>
          intro q u hq
          match q, hq with
          | 0, hq => simp at hq; subst hq; simp [Addr.add]
          | 1, hq => simp at hq; subst hq; simp [Addr.add]
          | 2, hq => simp at hq; subst hq; simp [Addr.add]
        case c2 => intro u hu; simp at hu; rcases hu with rfl | rfl | rfl <;> rfl
        intro v4 w4 hown hgrow hnil
        have HR4 := hid (show m + 1 = ((L.take (k + 1)).filter q).length ∧ w4.ownsRow w.heap.size 56 3 v4 (m + 1) (cellsI ((L.take (k + 1)).filter q)) ∧ Below w.heap.size w w4 by
          refine ⟨?_, ?_, (HW2.out.alloc HW2.out.size _).grown hgrow (by have := HSW.out; simp; omega) (fun k hk => (HO2.out.lt k hk).1)⟩
          · rw [HT.out, if_pos trivial, List.length_append, ← HR.out.1]; rfl
          · rw [HT.out, if_pos trivial, cellsI_app, HCE.out]
            exact hown)
        clear hown hgrow hnil
        go_wp2_with fail
        go_roundw
        case rel =>
          first
            | exact ⟨k + 1, m + 1, by omega, by omega, by go_num, HR4.out⟩
            | ((repeat apply Exists.intro); refine ⟨?_, rfl⟩; exact ⟨k + 1, m + 1, by omega, by omega, by go_num, HR4.out⟩)
            | ((repeat apply Exists.intro); exact ⟨⟨k + 1, m + 1, by omega, by omega, by go_num, HR4.out⟩, rfl⟩)
        case measure => simp [intOf]; omega
    · obtain rfl : k = n := by omega
      have HFN := hid (show wr.ownsRow w.heap.size 56 3 u5 (L.filter q).length (cellsI (L.filter q)) by
        have h := HR.out
        rw [List.take_of_length_le (by have := HN.out; omega)] at h
        rw [← h.1]
        exact h.2.1)
      have HBF := hid HR.out.2.2
      clear HR hk hmk hlt
      go_wp2_with fail
      go_ret
      exact ⟨u5, rfl, HFN.out, HBF.out⟩

theorem enters_most : ∀ args w, (callFunc 48 args).run Tryd.prog w = .ok (.enter 48 args) w := enters_of Tryd.func48 (by kernel_rfl) rfl

theorem most_snoc : ∀ (L : List It) (m : Int) (x : It), mostV (L ++ [x]) m = max (mostV L m) x.bits
  | [], m, x => rfl
  | y :: L, m, x => by rw [List.cons_append, mostV, most_snoc L, mostV]

def StrPost (L : List It) (w : World) (e : Ending) (w' : World) : Prop :=
  ∃ v, e = .returned v ∧ w'.ownsRow (w.heap.size + 1) 56 3 v (strong L).length (cellsI (strong L)) ∧ Below w.heap.size w w'

set_option maxHeartbeats 4000000 in
set_option maxRecDepth 100000 in
theorem strongest_any (v : Value) (L : List It) (w : World) (hv : ItAt w v L) (hl : L.length ≤ 1000000001) :
    Calls Tryd.prog 20 #[v] w (StrPost L w) := by
  obtain ⟨a1, c1, rfl, hc1, hm1, hv1⟩ := hv.view
  have HIT := hid hv
  have HV := hid hv1
  have HL := hid hl
  obtain ⟨n, hn⟩ : ∃ n, n = L.length := ⟨_, rfl⟩
  have HN := hid hn
  rw [← hn] at hc1 hl HIT ⊢
  clear hv hv1 hn
  go_enter Tryd.func20, Tryd.ntmps20
  go_wp2_with fail
  go_loopw [8] (fun v8 wr => ∃ k : Nat, k ≤ n ∧ v8 = .int .i64 k ∧ Hid (wr.heap[w.heap.size]? = some (.cells #[.int .i64 (mostV (L.take k) (-9223372036854775808))] 3 (0, 0)) ∧ Below w.heap.size w wr)) (fun v8 _ => n - (intOf v8).toNat)
  case atStart => exact ⟨0, Nat.zero_le _, rfl, heap_alloc_new w _, (Below.refl _ w).alloc (Nat.le_refl _) _⟩
  case round =>
    obtain ⟨k, hk, rfl, HR⟩ := hrel
    by_cases hlt : k < n
    · have hkL : k < L.length := by have := HN.out; omega
      obtain ⟨b1, o1, rfl, e1, e2, e3⟩ := HV.out k hkL
      obtain ⟨x, hx⟩ : ∃ x, x = L[k] := ⟨_, rfl⟩
      rw [← hx] at e1 e2 e3
      obtain ⟨b, hbx⟩ : ∃ b, b = x.bits := ⟨_, rfl⟩
      obtain ⟨V, hVx⟩ : ∃ V : ByteArray, V = ⟨x.want.toArray⟩ := ⟨_, rfl⟩
      obtain ⟨O, hOx⟩ : ∃ V : ByteArray, V = ⟨x.opt.toArray⟩ := ⟨_, rfl⟩
      rw [← hbx] at e1
      rw [← hVx] at e2
      rw [← hOx] at e3
      have f1 := kept_cell e1 HR.out.2
      have f2 := kept_cell e2 HR.out.2
      have f3 := kept_cell e3 HR.out.2
      obtain ⟨M, hM⟩ : ∃ M, M = mostV (L.take k) (-9223372036854775808) := ⟨_, rfl⟩
      have HMN := hid (show mostV (L.take (k + 1)) (-9223372036854775808) = max M b by rw [List.take_succ_eq_append_getElem hkL, most_snoc, ← hM, ← hx, hbx])
      rw [← hM] at HR
      have HX2 := hid (show Below wr.heap.size wr (wr.alloc (.cells #[.int .i64 b, .string V, .string O] 56)) from (Below.refl _ _).alloc (Nat.le_refl _) _)
      have hrow := row_kept HR.out.1 HX2.out
      have cM : (wr.alloc (.cells #[.int .i64 b, .string V, .string O] 56)).cell? ⟨w.heap.size, 0, none⟩ = some (.int .i64 M) := Lib.cell_of_heap hrow 0
      have zM : (wr.alloc (.cells #[.int .i64 b, .string V, .string O] 56)).frozen? ⟨w.heap.size, 0, none⟩ = false := Lib.frozen_of_heap hrow 0
      have HROW := hid hrow
      have hin : (k : Int) < (n : Int) := by omega
      clear e1 e2 e3 hx hbx hVx hOx hkL hM hrow
      go_wp2_with fail
      go_roundw
      case rel =>
        have e1 := Lib.heap_setCell_same HROW.out (i := 0) (.int .i64 (max M b))
        have e4 : ((wr.alloc (.cells #[.int .i64 b, .string V, .string O] 56)).setCell ⟨w.heap.size, 0, none⟩ (.int .i64 (max M b))).heap[w.heap.size]? = some (.cells #[.int .i64 (mostV (L.take (k + 1)) (-9223372036854775808))] 3 (0, 0)) ∧ Below w.heap.size w ((wr.alloc (.cells #[.int .i64 b, .string V, .string O] 56)).setCell ⟨w.heap.size, 0, none⟩ (.int .i64 (max M b))) := by
          rw [HMN.out]
          exact ⟨e1, (below2 HR.out.2 HX2.out).setCell (p := ⟨w.heap.size, 0, none⟩) (Nat.le_refl _) _⟩
        first
          | exact ⟨k + 1, by omega, by go_num, e4⟩
          | ((repeat apply Exists.intro); refine ⟨?_, rfl⟩; exact ⟨k + 1, by omega, by go_num, e4⟩)
          | ((repeat apply Exists.intro); exact ⟨⟨k + 1, by omega, by go_num, e4⟩, rfl⟩)
      case measure => simp [intOf]; omega
    · obtain rfl : k = n := by omega
      have hrow := HR.out.1
      rw [List.take_of_length_le (by have := HN.out; omega)] at hrow
      obtain ⟨M, hM⟩ : ∃ M, M = mostV L (-9223372036854775808) := ⟨_, rfl⟩
      rw [← hM] at hrow
      have HCM := hid (show wr.cell? ⟨w.heap.size, 0, none⟩ = some (.int .i64 M) from Lib.cell_of_heap hrow 0)
      have HW1 := hid (show w.heap.size + 1 ≤ wr.heap.size from (Array.getElem?_eq_some_iff.1 hrow).1)
      have HCH := hid (chosen_any 48 #[.pointer (some ⟨w.heap.size, 0, none⟩)] enters_most (fun x => x.bits == M) (.slice a1 k c1) L wr (HIT.out.kept HR.out.2) HL.out (fun X x hX => isMost_any w.heap.size M x.bits ⟨x.want.toArray⟩ ⟨x.opt.toArray⟩ X (kept_cell HCM.out hX)))
      have HST := hid (show L.filter (fun x => x.bits == M) = strong L by rw [hM]; rfl)
      have HBW := hid HR.out.2
      clear hrow hM HR hk hlt
      go_wp2_with fail
      refine HCH.out.mono ?_
      rintro e w2 ⟨v', rfl, hown, hb2⟩
      rw [HST.out] at hown
      have HO := hid (own_lower9 hown HW1.out)
      have HB := hid (below2 HBW.out hb2)
      clear hown hb2
      go_wp2_with fail
      go_ret
      exact ⟨v', rfl, HO.out, HB.out⟩

end Go.Proofs.YtbdlicomkpnalaaDoor
