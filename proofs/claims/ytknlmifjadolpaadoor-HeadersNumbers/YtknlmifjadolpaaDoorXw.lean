/-
  The walk of the law HeadersAdded.
-/
import Derived.Test.YtknlmifjadolpaaDoorXv
set_option linter.unusedSimpArgs false
set_option linter.unusedVariables false
namespace Go.Proofs.YtknlmifjadolpaaDoor
open Go.RowKit

theorem join_snoc (xs : List (List UInt8)) (x sep : List UInt8) : Lib.join (xs ++ [x]) sep = if xs = [] then x else Lib.join xs sep ++ sep ++ x := by
  unfold Lib.join
  induction xs with
  | nil => simp [List.intercalate]
  | cons y r ih =>
    cases r with
    | nil => simp [List.intercalate]
    | cons z r =>
      simp only [List.cons_append, List.intercalate, List.intersperse, List.flatten_cons] at ih ⊢
      simp only [List.cons_append, reduceCtorEq, if_false] at ih ⊢
      rw [ih]; simp

theorem wrd_val {x : List UInt8} (h : Wrd x) : valT x = x ∧ valB x = true := by
  have hc : ∀ c ∈ x, [(9 : UInt8), 10, 13, 32].contains c = false := fun c hc => by
    have := wrd_mem h hc
    simp
    refine ⟨?_, ?_, ?_, ?_⟩ <;> (intro e; subst e; simp at this)
  have hd : ∀ l : List UInt8, (∀ c ∈ l, [(9 : UInt8), 10, 13, 32].contains c = false) → l.dropWhile ([(9 : UInt8), 10, 13, 32].contains ·) = l := fun l hl => by
    cases l with
    | nil => rfl
    | cons c l => rw [List.dropWhile_cons_of_neg]; rw [hl c (by simp)]; simp
  have e : valT x = x := by
    unfold valT Lib.trimS Lib.trimLeftS Lib.trimRightS
    rw [hd x.reverse (fun c hc' => hc c (by simpa using hc')), List.reverse_reverse, hd x hc]
  refine ⟨e, ?_⟩
  unfold valB
  rw [e]
  have : x.any badC = false := by
    rw [List.any_eq_false]
    intro c hc
    have := wrd_mem h hc
    simp [badC]
    refine ⟨?_, ?_, ?_⟩ <;> (intro e; subst e; simp at this)
  rw [this]; rfl

def hdX (xs : List (List UInt8)) : List Hd := xs.map fun x => ⟨[88], x⟩

theorem hdX_sel (xs : List (List UInt8)) : selV (hdX xs) [120] = xs := by
  induction xs with
  | nil => rfl
  | cons x xs ih =>
    unfold hdX at ih ⊢
    unfold selV at ih ⊢
    rw [List.map_cons, List.filter_cons_of_pos (by rfl), List.map_cons, ih]

theorem hdX_drop (xs : List (List UInt8)) : dropV (hdX xs) [120] = [] := by
  unfold dropV hdX
  rw [List.filter_eq_nil_iff]
  intro h hh
  simp at hh
  obtain ⟨x, _, rfl⟩ := hh
  simp [isN]; rfl

theorem hdX_add (xs : List (List UInt8)) (x : List UInt8) (hx : Wrd x) (hl : x.length ≤ 12) : addE (hdX xs) [88] x = if 64 ≤ xs.length then 4 else 0 := by
  have h0 : hdE [88] x = 0 := by
    unfold hdE
    rw [if_neg, if_neg]
    · rw [(wrd_val hx).1]; simp; omega
    · rw [(wrd_val hx).2]; simp; decide
  unfold addE
  rw [h0]
  simp [hdX]

/-- What is known at each round's head. -/
def AdInv (k : Nat) (xs : List (List UInt8)) (S : ByteArray) : Prop := xs.length = k ∧ (∀ x ∈ xs, Wrd x ∧ x.length ≤ 12) ∧ S.data.toList = Lib.join xs [44, 32] ∧ S.size ≤ 14 * k

theorem AdInv.start : AdInv 0 [] ⟨#[]⟩ := ⟨rfl, by simp, rfl, by decide⟩

theorem AdInv.first {xs : List (List UInt8)} {S : ByteArray} (h : AdInv 0 xs S) (T : List UInt8) (hT : Wrd T) (hl : T.length ≤ 12) : AdInv 1 (xs ++ [T]) (S ++ ⟨T.toArray⟩) := by
  obtain ⟨h1, h2, h3, h4⟩ := h
  have e : xs = [] := List.eq_nil_of_length_eq_zero h1
  subst e
  have hS : S = ⟨#[]⟩ := xba (by rw [h3]; rfl)
  subst hS
  refine ⟨rfl, fun x hx => by simp at hx; subst hx; exact ⟨hT, hl⟩, ?_, ?_⟩
  · rw [join_snoc, if_pos rfl, ByteArray.data_append]; simp
  · have h1 := xsize T
    have h2 : (⟨#[]⟩ : ByteArray).size = 0 := rfl
    rw [ByteArray.size_append]; omega

theorem AdInv.more {k : Nat} {xs : List (List UInt8)} {S : ByteArray} (h : AdInv k xs S) (hk : 0 < k) (T : List UInt8) (hT : Wrd T) (hl : T.length ≤ 12) : AdInv (k + 1) (xs ++ [T]) (S ++ ⟨#[44, 32]⟩ ++ ⟨T.toArray⟩) := by
  obtain ⟨h1, h2, h3, h4⟩ := h
  have e : ¬ xs = [] := fun e => by subst e; simp at h1; omega
  refine ⟨by simp [h1], fun x hx => ?_, ?_, ?_⟩
  · rcases List.mem_append.1 hx with hx | hx
    · exact h2 x hx
    · simp at hx; subst hx; exact ⟨hT, hl⟩
  · rw [join_snoc, if_neg e, ByteArray.data_append, ByteArray.data_append, Array.toList_append, Array.toList_append, h3]
  · have h5 := xsize T
    have h6 : (⟨#[44, 32]⟩ : ByteArray).size = 2 := rfl
    rw [ByteArray.size_append, ByteArray.size_append]
    omega

theorem AdInv.szd {k : Nat} {xs : List (List UInt8)} {S : ByteArray} (h : AdInv k xs S) : Szd 140737488351232 (hdX xs) := fun hd hh => by
  simp [hdX] at hh
  obtain ⟨x, hx, rfl⟩ := hh
  have := (h.2.1 x hx).2
  simp; omega

theorem AdInv.bulk {k : Nat} {xs : List (List UInt8)} {S : ByteArray} (h : AdInv k xs S) : bulkV (hdX xs) ≤ 14 * k := by
  obtain ⟨h1, h2, h3, h4⟩ := h
  subst h1
  unfold bulkV hdX
  clear h3 h4 S
  induction xs with
  | nil => simp
  | cons x xs ih =>
    have h3 := (h2 x (by simp)).2
    have := ih (fun y hy => h2 y (by simp [hy]))
    simp at this ⊢
    omega

set_option maxHeartbeats 8000000 in
set_option maxRecDepth 100000 in
theorem headersAdded_walk (v : Value) (L : List (List UInt8)) (w : World) (hv : TxAt w v L) (hz : ∀ x ∈ L, x.length ≤ maxLen) (hg : G5 w) :
    Calls Tryd.prog 9 #[v] w fun e w' => e = .returned (.bool true) ∧ Below w.heap.size w w' := by
  have HG := hid hg
  have HZ := hid hz
  clear hg hz
  obtain ⟨a1, c1, rfl, hc1, hm1, hv1⟩ := hv.view
  have V1 := hid hv1
  clear hv hv1
  go_enter Tryd.func9, Tryd.ntmps9
  go_wp2
  go_loopw [3, 4, 5, 6, 7, 8] (fun mv s i x y z wr => ∃ (k : Nat) (xs : List (List UInt8)) (S : ByteArray), k ≤ 64 ∧ i = .int .i64 k ∧ s = .string S ∧ AdInv k xs S ∧ wr.ownsRow w.heap.size 28 2 mv xs.length (cellsH (hdX xs)) ∧ Below w.heap.size w wr)
    (fun _ _ i _ _ _ _ => 65 - (intOf i).toNat)
  case atStart => exact ⟨0, [], ⟨#[]⟩, by omega, rfl, rfl, AdInv.start, World.ownsRow_nil _ _ _ _, Below.refl _ _⟩
  case round =>
    obtain ⟨k, xs, S, hk64, rfl, rfl, hinv, hown, hbw⟩ := hrel
    have hSs : S.size ≤ 1000 := by have := hinv.2.2.2; omega
    have hxl : xs.length = k := hinv.1
    have HI := hid hinv
    have HO := hid hown
    have hwr := hbw.size
    clear hinv hown
    have h70 : (k : Int) < 70 := by omega
    have hdl : (hdX xs).length = xs.length := by simp [hdX]
    have hhd : HdAt wr u3 (hdX xs) := own_hd (by rw [hdl]; exact HO.out)
    have HH := hid hhd
    obtain ⟨a3, c3, rfl, _, _, _⟩ := hhd.view
    clear hhd
    have HAdd : Hid (∀ T : List UInt8, Wrd T → T.length ≤ 12 → Calls Tryd.prog 11 #[.slice a3 (hdX xs).length c3, .string ⟨#[88]⟩, .string ⟨T.toArray⟩] wr (AddPost (hdX xs) [88] T wr)) := fun T hT hl =>
      add_any _ (hdX xs) ⟨#[88]⟩ ⟨T.toArray⟩ wr HH.out (by omega) (by decide) (by rw [xsize]; omega)
    have HE : Hid (∀ T : List UInt8, Wrd T → T.length ≤ 12 → addE (hdX xs) [88] T = if 64 ≤ k then 4 else 0) := fun T hT hl => by rw [hdX_add xs T hT hl, hxl]
    have HDL := hid hdl
    have HXL := hid hxl
    clear hdl hxl
    by_cases hlt : k < L.length
    · have hlt' : (k : Int) < (L.length : Int) := by omega
      obtain ⟨b1, o1, rfl, e1⟩ := V1.out k hlt
      have f1 : wr.cell? ⟨b1, o1 + k, none⟩ = some (.string ⟨L[k].toArray⟩) := (hbw.cell (World.block_lt_of_cell? w _ e1)).trans e1
      clear e1
      obtain ⟨X, hX⟩ : ∃ x : ByteArray, x = ⟨L[k].toArray⟩ := ⟨_, rfl⟩
      rw [← hX] at f1
      have hXs : X.size ≤ 9223372036854775807 := by rw [hX, xsize]; exact HZ.out _ (List.getElem_mem hlt)
      clear hX
      go_wp2_with fail
      refine (word_any X _ hXs).mono ?_
      rintro e w1 ⟨T, rfl, hT, hTl, rfl⟩
      have HT := hid hT
      clear hT
      go_wp2_with fail
      refine (HAdd.out T HT.out hTl).mono ?_
      rintro e w2 ⟨hb2, hres⟩
      rw [HE.out T HT.out hTl] at hres
      have hbw2 := hbw.trans (hb2.mono hwr)
      by_cases h64 : k < 64
      · have h64' : (k : Int) < 64 := by omega
        rw [if_neg (by omega)] at hres
        obtain ⟨v2, rfl, hown2⟩ : ∃ vv, e = .returned (.tuple #[vv, .int .i64 0]) ∧ w2.ownsRow wr.heap.size 28 2 vv ((hdX xs).length + 1) (cellsH (hdX xs ++ [⟨[88], valT T⟩])) := by
          rcases hres with ⟨h, _⟩ | ⟨_, h⟩
          · exact absurd rfl h
          · exact h
        have HO2 := hid (show w2.ownsRow w.heap.size 28 2 v2 (xs ++ [T]).length (cellsH (hdX (xs ++ [T]))) by
          have e1 : hdX xs ++ [⟨[88], valT T⟩] = hdX (xs ++ [T]) := by rw [(wrd_val HT.out).1]; simp [hdX]
          rw [e1, HDL.out, show xs.length + 1 = (xs ++ [T]).length by simp] at hown2
          rcases hown2.2 with ⟨h1, h2⟩ | ⟨g, cap, cur, e1, e2, e3⟩
          · simp at h2
          · exact ⟨hown2.1, .inr ⟨g, cap, cur, e1, Nat.le_trans hwr e2, e3⟩⟩)
        clear hres hown2
        by_cases hk0 : k = 0
        · subst hk0
          go_wp2
          go_roundw
          case rel => exact ⟨1, xs ++ [T], S ++ ⟨T.toArray⟩, by omega, by go_num, rfl, HI.out.first T HT.out hTl, HO2.out, hbw2⟩
          case measure => simp [intOf]
        · have hk0' : (0 : Int) < (k : Int) := by omega
          go_wp2
          go_roundw
          case rel => exact ⟨k + 1, xs ++ [T], S ++ ⟨#[44, 32]⟩ ++ ⟨T.toArray⟩, by omega, by go_num, rfl, HI.out.more (by omega) T HT.out hTl, HO2.out, hbw2⟩
          case measure => simp [intOf]; omega
      · have hke : k = 64 := by omega
        subst hke
        rw [if_pos (by omega)] at hres
        obtain rfl : e = .returned (.tuple #[.slice none 0 0, .int .i64 (4 : Nat)]) := by
          rcases hres with ⟨_, h⟩ | ⟨h, _⟩
          · exact h
          · cases h
        clear hres
        have HH2 := hid (HH.out.kept hb2)
        have HGt := hid (get_any _ (hdX xs) ⟨#[120]⟩ w2 HH2.out (by decide) HI.out.szd (by rw [HDL.out, HXL.out]; omega) (by have := HI.out.bulk; omega))
        rw [show (⟨#[120]⟩ : ByteArray).data.toList = [120] from rfl, show getT (hdX xs) [120] = S.data.toList by rw [getT, hdX_sel, HI.out.2.2.1], show getB (hdX xs) [120] = true by rw [getB, hdX_sel]; cases xs with | nil => have := HXL.out; simp at this | cons a b => rfl, ← xself S] at HGt
        have HL64 := hid (show ((hdX xs).length : Int) = 64 by rw [HDL.out, HXL.out]; rfl)
        have hl64 : ((hdX xs).length : Int) = 64 := HL64.out
        go_wp2_with fail
        refine HGt.out.mono ?_
        rintro e w3 ⟨rfl, hb3⟩
        have HH3 := hid (HH2.out.kept hb3)
        have hbw3 := belowT hbw2 hb3
        go_wp2_with fail
        refine (drop_any _ (hdX xs) ⟨#[120]⟩ w3 HH3.out (by decide) HI.out.szd (by rw [HDL.out, HXL.out]; omega)).mono ?_
        rintro e w4 ⟨v4, rfl, hown4, hb4, _⟩
        rw [show (⟨#[120]⟩ : ByteArray).data.toList = [120] from rfl, hdX_drop] at hown4
        obtain ⟨a4, c4, rfl, _, _, _⟩ := (own_hd hown4).view
        have hbw4 := belowT hbw3 hb4
        have HG4 := hid (HG.out.kept hbw4)
        clear hown4
        go_wp2_with fail
        refine (known_any _ HG4.out).mono ?_
        rintro e w5 ⟨rfl, hb5⟩
        go_wp2
        go_ret
        exact ⟨rfl, belowT hbw4 hb5⟩
    · have hlt' : ¬ (k : Int) < (L.length : Int) := by omega
      obtain ⟨T, hTe⟩ : ∃ T : List UInt8, T = [113] := ⟨_, rfl⟩
      have HT := hid (show Wrd T by rw [hTe]; exact wrd_q)
      have hTl : T.length ≤ 12 := by rw [hTe]; decide
      have HTe := hid (show (⟨#[113]⟩ : ByteArray) = ⟨T.toArray⟩ by rw [hTe])
      clear hTe
      go_wp2_with fail
      rw [HTe.out]
      refine (HAdd.out T HT.out hTl).mono ?_
      rintro e w2 ⟨hb2, hres⟩
      rw [HE.out T HT.out hTl] at hres
      have hbw2 := hbw.trans (hb2.mono hwr)
      by_cases h64 : k < 64
      · have h64' : (k : Int) < 64 := by omega
        rw [if_neg (by omega)] at hres
        obtain ⟨v2, rfl, hown2⟩ : ∃ vv, e = .returned (.tuple #[vv, .int .i64 0]) ∧ w2.ownsRow wr.heap.size 28 2 vv ((hdX xs).length + 1) (cellsH (hdX xs ++ [⟨[88], valT T⟩])) := by
          rcases hres with ⟨h, _⟩ | ⟨_, h⟩
          · exact absurd rfl h
          · exact h
        have HO2 := hid (show w2.ownsRow w.heap.size 28 2 v2 (xs ++ [T]).length (cellsH (hdX (xs ++ [T]))) by
          have e1 : hdX xs ++ [⟨[88], valT T⟩] = hdX (xs ++ [T]) := by rw [(wrd_val HT.out).1]; simp [hdX]
          rw [e1, HDL.out, show xs.length + 1 = (xs ++ [T]).length by simp] at hown2
          rcases hown2.2 with ⟨h1, h2⟩ | ⟨g, cap, cur, e1, e2, e3⟩
          · simp at h2
          · exact ⟨hown2.1, .inr ⟨g, cap, cur, e1, Nat.le_trans hwr e2, e3⟩⟩)
        clear hres hown2
        by_cases hk0 : k = 0
        · subst hk0
          go_wp2
          go_roundw
          case rel => exact ⟨1, xs ++ [T], S ++ ⟨T.toArray⟩, by omega, by go_num, by first | rfl | (rw [← HTe.out]), HI.out.first T HT.out hTl, HO2.out, hbw2⟩
          case measure => simp [intOf]
        · have hk0' : (0 : Int) < (k : Int) := by omega
          go_wp2
          go_roundw
          case rel => exact ⟨k + 1, xs ++ [T], S ++ ⟨#[44, 32]⟩ ++ ⟨T.toArray⟩, by omega, by go_num, by first | rfl | (rw [← HTe.out]), HI.out.more (by omega) T HT.out hTl, HO2.out, hbw2⟩
          case measure => simp [intOf]; omega
      · have hke : k = 64 := by omega
        subst hke
        rw [if_pos (by omega)] at hres
        obtain rfl : e = .returned (.tuple #[.slice none 0 0, .int .i64 (4 : Nat)]) := by
          rcases hres with ⟨_, h⟩ | ⟨h, _⟩
          · exact h
          · cases h
        clear hres
        have HH2 := hid (HH.out.kept hb2)
        have HGt := hid (get_any _ (hdX xs) ⟨#[120]⟩ w2 HH2.out (by decide) HI.out.szd (by rw [HDL.out, HXL.out]; omega) (by have := HI.out.bulk; omega))
        rw [show (⟨#[120]⟩ : ByteArray).data.toList = [120] from rfl, show getT (hdX xs) [120] = S.data.toList by rw [getT, hdX_sel, HI.out.2.2.1], show getB (hdX xs) [120] = true by rw [getB, hdX_sel]; cases xs with | nil => have := HXL.out; simp at this | cons a b => rfl, ← xself S] at HGt
        have HL64 := hid (show ((hdX xs).length : Int) = 64 by rw [HDL.out, HXL.out]; rfl)
        have hl64 : ((hdX xs).length : Int) = 64 := HL64.out
        go_wp2_with fail
        refine HGt.out.mono ?_
        rintro e w3 ⟨rfl, hb3⟩
        have HH3 := hid (HH2.out.kept hb3)
        have hbw3 := belowT hbw2 hb3
        go_wp2_with fail
        refine (drop_any _ (hdX xs) ⟨#[120]⟩ w3 HH3.out (by decide) HI.out.szd (by rw [HDL.out, HXL.out]; omega)).mono ?_
        rintro e w4 ⟨v4, rfl, hown4, hb4, _⟩
        rw [show (⟨#[120]⟩ : ByteArray).data.toList = [120] from rfl, hdX_drop] at hown4
        obtain ⟨a4, c4, rfl, _, _, _⟩ := (own_hd hown4).view
        have hbw4 := belowT hbw3 hb4
        have HG4 := hid (HG.out.kept hbw4)
        clear hown4
        go_wp2_with fail
        refine (known_any _ HG4.out).mono ?_
        rintro e w5 ⟨rfl, hb5⟩
        go_wp2
        go_ret
        exact ⟨rfl, belowT hbw4 hb5⟩

end Go.Proofs.YtknlmifjadolpaaDoor
