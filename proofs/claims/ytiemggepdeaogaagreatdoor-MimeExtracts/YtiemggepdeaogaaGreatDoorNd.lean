/-
  The walk of the document's own answer of chapter 6: ostiaryref6's Parse.
-/
import Derived.Test.YtiemggepdeaogaaGreatDoorNc
set_option linter.unusedSimpArgs false
set_option linter.unusedVariables false
namespace Go.Proofs.YtiemggepdeaogaaGreatDoor
open Go.RowKit

/-- The block p holds a kind of the document's own. -/
def TriR (w : World) (p : Nat) (a m : ByteArray) (v : Value) : Prop := w.heap[p]? = some (.cells #[.string a, .string m, v] 31 (0, 0))

theorem TriR.lt {w : World} {p : Nat} {a m : ByteArray} {v : Value} (h : TriR w p a m v) : p < w.heap.size := (Array.getElem?_eq_some_iff.1 h).1
theorem TriR.range {w : World} {p : Nat} {a m : ByteArray} {v : Value} (h : TriR w p a m v) : w.rangeAt p 0 [.string a, .string m, v] := fun j u hu => by
  rw [Nat.zero_add, Lib.cell_of_heap h]
  match j, hu with
  | 0, hu => simpa using hu
  | 1, hu => simpa using hu
  | 2, hu => simpa using hu
  | j + 3, hu => simp at hu
theorem TriR.cells {w : World} {p : Nat} {a m : ByteArray} {v : Value} (h : TriR w p a m v) : w.cell? ⟨p, 0, none⟩ = some (.string a) ∧ w.cell? ⟨p, 1, none⟩ = some (.string m) ∧ w.cell? ⟨p, 2, none⟩ = some v :=
  ⟨by rw [Lib.cell_of_heap h]; rfl, by rw [Lib.cell_of_heap h]; rfl, by rw [Lib.cell_of_heap h]; rfl⟩
theorem TriR.frozen {w : World} {p : Nat} {a m : ByteArray} {v : Value} (h : TriR w p a m v) (j : Nat) : w.frozen? ⟨p, j, none⟩ = false := Lib.frozen_of_heap h j
theorem TriR.set {w : World} {p : Nat} {a m a' m' : ByteArray} {v v' : Value} (h : TriR w p a m v) : TriR (((w.setCell ⟨p, 0, none⟩ (.string a')).setCell ⟨p, 1, none⟩ (.string m')).setCell ⟨p, 2, none⟩ v') p a' m' v' := by
  have h1 := Lib.heap_setCell_same h (i := 0) (.string a')
  have h2 := Lib.heap_setCell_same h1 (i := 1) (.string m')
  exact Lib.heap_setCell_same h2 (i := 2) v'
theorem TriR.kept {w w' : World} {p : Nat} {a m : ByteArray} {v : Value} (h : TriR w p a m v) (hb : Below w.heap.size w w') : TriR w' p a m v := (hb.block p h.lt).trans h
theorem TriR.but {w w' : World} {p c : Nat} {a m : ByteArray} {v : Value} (h : TriR w p a m v) (hb : But c w w') (hne : p ≠ c) : TriR w' p a m v := (hb.block p h.lt hne).trans h

theorem results_q2 {fn : Func} {p q : Tmp} (h : fn.results = #[.cell p 31, .tmp q]) (tmps : Array Value) (w : World) (b : Nat) (x y : ByteArray) (v : Value) (hp : tmps.getD p undef = .pointer (some ⟨b, 0, none⟩)) (hc : w.rangeAt b 0 [.string x, .string y, v]) : (results fn tmps).run Tryz.prog w = .ok (.tuple #[knVal x y v, tmps.getD q undef]) w := by
  rw [Array.getD_eq_getD_getElem?] at hp
  simp only [results, h]
  simp [Sem.run_bind, Result.andThen, hp, asAddr, run_loadVar_mid w b 0 31 [.string x, .string y, v] _ hc Tryz.underlying31 rfl (by kernel_rfl), knVal]


theorem TriR.set2 {w : World} {p : Nat} {a m : ByteArray} {v : Value} (h : TriR w p a m v) (v' : Value) : TriR (w.setCell ⟨p, 2, none⟩ v') p a m v' := Lib.heap_setCell_same h (i := 2) v'

theorem infoPr : (Tryz.prog.info? 50).map (fun i => (i.zero, i.size, i.bytes)) = some (some (.agg #[.string ByteArray.empty, .string ByteArray.empty]), 2, 32) := by kernel_rfl

theorem own_triR {w : World} {B n p : Nat} {v u : Value} {a m : ByteArray} {xs : List Value} (h : w.ownsRow B 50 2 v n xs) (ht : TriR w p a m u) : v.ownBlock ≠ some p := fun e => by
  rcases h.2 with ⟨hv, _⟩ | ⟨g, cap, cur, hv, _, hrow, _⟩
  · subst hv; cases e
  · subst hv
    cases e
    unfold TriR at ht
    rw [hrow] at ht
    simp at ht

theorem cut_up (l : List UInt8) (c : UInt8) : (Lib.cut l [c]).1 = upA [c] l ∧ (Lib.cut l [c]).2.1 = (upR [c] l).drop 1 := by
  rcases split6 c l with h | ⟨a, r, h, rfl⟩
  · have hu := up_stop [c] l [] (fun x hx => by
      simp only [List.contains_eq_mem, List.mem_singleton, decide_eq_false_iff_not]
      rintro rfl; exact h hx) (.inl rfl)
    rw [List.append_nil] at hu
    rw [xcut_none l c h, hu.1, hu.2]; exact ⟨rfl, rfl⟩
  · have hu := up_stop [c] a (c :: r) (fun x hx => by
      simp only [List.contains_eq_mem, List.mem_singleton, decide_eq_false_iff_not]
      rintro rfl; exact h hx) (.inr ⟨c, r, rfl, by simp⟩)
    rw [xcut_some a r c h, hu.1, hu.2]; exact ⟨rfl, rfl⟩

/-- What is left, as a text. -/
def leftL (m : Bool) (l : List UInt8) : List UInt8 := if m then 59 :: l else []

theorem left_of (l : List UInt8) (h : l = [] ∨ l.head? = some 59) : leftL (!l.isEmpty) (l.drop 1) = l := by
  cases l with
  | nil => rfl
  | cons c r =>
    rcases h with h | h
    · cases h
    · simp at h; subst h; rfl

theorem upR_59 (l : List UInt8) : upR [59] l = [] ∨ (upR [59] l).head? = some 59 := by
  cases h : upR [59] l with
  | nil => exact .inl rfl
  | cons c r =>
    right
    have := upR_head [59] l c (by rw [h]; rfl)
    simp at this
    rw [this]; rfl

theorem parR_59 (l : List UInt8) : parR l = [] ∨ (parR l).head? = some 59 := by
  unfold parR
  split
  · unfold valR
    split <;> exact upR_59 _
  · rename_i hE
    cases h : rstP l with
    | nil => exact .inl rfl
    | cons c r =>
      right
      have := upR_head [59, 61] (tL l) c (by show (rstP l).head? = _; rw [h]; rfl)
      simp at this
      rcases this with rfl | rfl
      · rfl
      · exfalso; apply hE; unfold isE; rw [h]; rfl

theorem prm_left (out : List Hd) (l : List UInt8) : prm out (leftL true l) = prm (stepP out l) (leftL (!(parR l).isEmpty) ((parR l).drop 1)) := by
  rw [left_of _ (parR_59 l)]
  exact prm_step out (59 :: l) rfl

theorem prm_done (out : List Hd) (l : List UInt8) : prm out (leftL false l) = out := prm_end out [] rfl

theorem has6_step (out : List Hd) (n : List UInt8) (k : Nat) (h : k < out.length) : has6 (out.take (k + 1)) n = (has6 (out.take k) n || (out[k].name == n)) := by
  rw [List.take_succ_eq_append_getElem h, has6_app]; simp [has6]

theorem left_len (l : List UInt8) : (leftL (!(parR l).isEmpty) ((parR l).drop 1)).length ≤ l.length := by
  rw [left_of _ (parR_59 l)]; exact parR_le l

theorem But.two {w w1 : World} {b c : Nat} {n v : ByteArray} (h : But b w w1) (ht : TwoR w c n v) (hne : c ≠ b) : TwoR w1 c n v := (h.block c ht.lt hne).trans ht

def KrPost (s : List UInt8) (w : World) (e : Ending) (w' : World) : Prop :=
  ∃ v, e = .returned (.tuple #[knVal (ba (knV s).major) (ba (knV s).minor) v, .bool (knOk s)]) ∧ w'.ownsRow w.heap.size 50 2 v (knV s).params.length (cellsH (knV s).params) ∧ Below w.heap.size w w'

set_option maxHeartbeats 8000000 in
set_option maxRecDepth 100000 in
theorem rparse6_any (s : ByteArray) (w : World) (hs : s.size ≤ 1000000) :
    Calls Tryz.prog 17 #[.string s] w (KrPost s.data.toList w) := by
  obtain ⟨i0, hi, hz0, hz1, hz2⟩ := info3 infoPr
  have H0 := hid (show TriR (w.alloc (.cells #[.string ⟨#[]⟩, .string ⟨#[]⟩, .slice none 0 0] 31)) w.heap.size ⟨#[]⟩ ⟨#[]⟩ (.slice none 0 0) from heap_alloc_new _ _)
  have HB0 := hid (show Below w.heap.size w (w.alloc (.cells #[.string ⟨#[]⟩, .string ⟨#[]⟩, .slice none 0 0] 31)) from (Below.refl _ w).alloc (Nat.le_refl _) _)
  have hbl := tB_le s.data.toList
  rw [← Lib.size_eq] at hbl
  obtain ⟨T, hT⟩ : ∃ T, ba (tB s.data.toList) = T := ⟨_, rfl⟩
  have hTl : T.data.toList = tB s.data.toList := by rw [← hT]; rfl
  have hTs : T.size ≤ 1000000 := by rw [Lib.size_eq, hTl]; omega
  have hcu := cut_up (tB s.data.toList) 47
  have hcl := cut6_le (tB s.data.toList) 47
  obtain ⟨M, hM⟩ : ∃ M, ba (mjr s.data.toList) = M := ⟨_, rfl⟩
  obtain ⟨H, hH⟩ : ∃ H, ba (bhn s.data.toList) = H := ⟨_, rfl⟩
  obtain ⟨cb, hcb⟩ : ∃ cb, (!(upR [47] (tB s.data.toList)).isEmpty) = cb := ⟨_, rfl⟩
  have hMl : M.data.toList = mjr s.data.toList := by rw [← hM]; rfl
  have hHl : H.data.toList = bhn s.data.toList := by rw [← hH]; rfl
  have hMs : M.size ≤ 1000000 := by rw [Lib.size_eq, hMl]; unfold mjr; omega
  have hHs : H.size ≤ 1000000 := by rw [Lib.size_eq, hHl]; unfold bhn; omega
  have HTr : Hid (∀ w : World, Calls Tryz.prog 37 #[.string s, .bool false] w fun e w' => e = .returned (.string T) ∧ w = w') := fun w => by
    rw [← hT]; exact rtrim_any s w (by omega)
  have HP1 : Hid (∀ w : World, Calls Tryz.prog 38 #[.string T, .int .u8 47] w fun e w' => e = .returned (.tuple #[.string M, .string H, .bool cb]) ∧ Below w.heap.size w w') := fun w => by
    have := rpart6_any T 47 w (by omega)
    rw [hTl, ← hcu.1, ← hcu.2, hcb] at this
    rw [← hM, ← hH]; exact this
  obtain ⟨A, hA⟩ : ∃ A, ba (upA [59] H.data.toList) = A := ⟨_, rfl⟩
  have hAl : A.data.toList = upA [59] H.data.toList := by rw [← hA]; rfl
  have hul := upA_le [59] H.data.toList
  have hrl := upR_le [59] H.data.toList
  rw [← Lib.size_eq] at hul hrl
  have hAs : A.size ≤ 1000000 := by rw [Lib.size_eq, hAl]; omega
  obtain ⟨Z, hZ⟩ : ∃ Z, ba ((upR [59] H.data.toList).drop 1) = Z := ⟨_, rfl⟩
  obtain ⟨mo, hmo⟩ : ∃ b, (!(upR [59] H.data.toList).isEmpty) = b := ⟨_, rfl⟩
  have hZl : Z.data.toList = (upR [59] H.data.toList).drop 1 := by rw [← hZ]; rfl
  have hZs : Z.size ≤ 1000000 := by rw [Lib.size_eq, hZl, List.length_drop]; omega
  have HLf := hid (show leftL mo Z.data.toList = upR [59] (bhn s.data.toList) by rw [hZl, ← hmo, left_of _ (upR_59 _), hHl])
  have HP2 : Hid (∀ w : World, Calls Tryz.prog 38 #[.string H, .int .u8 59] w fun e w' => e = .returned (.tuple #[.string A, .string Z, .bool mo]) ∧ Below w.heap.size w w') := fun w => by
    have := rpart6_any H 59 w (by omega)
    rw [hmo] at this
    rw [← hA, ← hZ]; exact this
  have htl := tR_le A.data.toList
  rw [← Lib.size_eq] at htl
  obtain ⟨N, hN⟩ : ∃ N, ba (tR A.data.toList) = N := ⟨_, rfl⟩
  have hNl : N.data.toList = mnr s.data.toList := by rw [← hN, hAl, hHl]; rfl
  have hNs : N.size ≤ 1000000 := by rw [← hN, ba_size]; omega
  have HBk : Hid (∀ w : World, Calls Tryz.prog 39 #[.string A] w fun e w' => e = .returned (.string N) ∧ w = w') := fun w => by
    rw [← hN]; exact rback_any A w (by omega)
  obtain ⟨t1, ht1⟩ : ∃ t, tokL M.data.toList = t := ⟨_, rfl⟩
  obtain ⟨t2, ht2⟩ : ∃ t, tokL N.data.toList = t := ⟨_, rfl⟩
  have HT1 : Hid (∀ w : World, Calls Tryz.prog 40 #[.string M] w fun e w' => e = .returned (.bool t1) ∧ w = w') := fun w => by
    rw [← ht1]; exact rtoken_any M w (by omega)
  have HT2 : Hid (∀ w : World, Calls Tryz.prog 40 #[.string N] w fun e w' => e = .returned (.bool t2) ∧ w = w') := fun w => by
    rw [← ht2]; exact rtoken_any N w (by omega)
  have hok : knOk s.data.toList = (t1 && t2) := by unfold knOk; rw [← hMl, ← hNl, ht1, ht2]
  have hcb2 : cb = false → t2 = false := by
    intro h
    rw [← ht2, hNl]
    have : bhn s.data.toList = [] := by
      unfold bhn; rw [hcu.2]
      rw [← hcb] at h
      cases hu : upR [47] (tB s.data.toList) with
      | nil => rfl
      | cons c r => rw [hu] at h; cases h
    unfold mnr; rw [this]; rfl
  have HOk := hid hok
  have HMl := hid hMl
  have HNl := hid hNl
  clear hbl hT hTl hcu hcl hM hH hcb hMl hHl hA hAl hul hrl hZ hmo hZl htl hN hNl ht1 ht2 hok
  go_enter Tryz.func17, Tryz.ntmps17
  go_wp2_with fail
  generalize (w.alloc (.cells #[.string ⟨#[]⟩, .string ⟨#[]⟩, .slice none 0 0] 31)) = W at *
  refine (HTr.out _).mono ?_
  rintro e w' ⟨rfl, rfl⟩
  go_wp2_with fail
  refine (HP1.out _).mono ?_
  rintro e w1 ⟨rfl, hb1⟩
  go_wp2_with fail
  refine (HP2.out _).mono ?_
  rintro e w2 ⟨rfl, hb2⟩
  have HB2 := hid (belowT (belowT HB0.out hb1) hb2)
  have HR2 := hid ((H0.out.kept hb1).kept hb2)
  clear hb1 hb2
  go_wp2_with fail
  refine (HBk.out _).mono ?_
  rintro e w' ⟨rfl, rfl⟩
  have hfin : (cb = true ∧ t1 = true ∧ t2 = true) ∨ ((t1 && t2) = false ∧ (cb = false ∨ (cb = true ∧ t1 = false) ∨ (cb = true ∧ t1 = true ∧ t2 = false))) := by
    revert hcb2; cases cb <;> cases t1 <;> cases t2 <;> simp
  clear hcb2
  rcases hfin with ⟨rfl, rfl, rfl⟩ | ⟨hf, hcs⟩
  · have HKV := hid (show knV s.data.toList = ⟨low M.data.toList, low N.data.toList, prm [] (leftL mo Z.data.toList)⟩ by unfold knV; rw [HOk.out, Bool.and_self, if_pos rfl, HMl.out, HNl.out, HLf.out])
    go_wp2_with fail
    refine (HT1.out _).mono ?_
    rintro e w' ⟨rfl, rfl⟩
    go_wp2_with fail
    refine (HT2.out _).mono ?_
    rintro e w' ⟨rfl, rfl⟩
    go_wp2_with fail
    refine (rlower_any M _ (by omega)).mono ?_
    rintro e w3 ⟨rfl, hb3⟩
    go_wp2_with fail
    refine (rlower_any N _ (by omega)).mono ?_
    rintro e w4 ⟨rfl, hb4⟩
    have HB4 := hid (belowT (belowT HB2.out hb3) hb4)
    have HR4 := hid ((HR2.out.kept hb3).kept hb4)
    clear hb3 hb4
    have HRa := hid (HR4.out.kept ((Below.refl _ w4).alloc (Nat.le_refl _) (.cells #[.string ⟨(low M.data.toList).toArray⟩, .string ⟨(low N.data.toList).toArray⟩, .slice none 0 0] 31)))
    have HTa := hid (show TriR (w4.alloc (.cells #[.string ⟨(low M.data.toList).toArray⟩, .string ⟨(low N.data.toList).toArray⟩, .slice none 0 0] 31)) w4.heap.size (ba (low M.data.toList)) (ba (low N.data.toList)) (.slice none 0 0) from heap_alloc_new _ _)
    have HBa := hid (HB4.out.alloc HB4.out.size (.cells #[.string ⟨(low M.data.toList).toArray⟩, .string ⟨(low N.data.toList).toArray⟩, .slice none 0 0] 31))
    have hlt4 := HR4.out.lt
    go_wp2
    generalize (w4.alloc (.cells #[.string ⟨(low M.data.toList).toArray⟩, .string ⟨(low N.data.toList).toArray⟩, .slice none 0 0] 31)) = W4 at *
    have hW4 := HTa.out.lt
    generalize w4.heap.size = tb at *
    obtain ⟨MA, hMA⟩ : ∃ x, ba (low M.data.toList) = x := ⟨_, rfl⟩
    obtain ⟨MI, hMI⟩ : ∃ x, ba (low N.data.toList) = x := ⟨_, rfl⟩
    rw [hMA, hMI] at HTa
    have HMA := hid hMA
    have HMI := hid hMI
    have hm0 : (leftL mo Z.data.toList).length ≤ 1000001 := by unfold leftL; split <;> simp <;> omega
    clear hMA hMI
    go_loopw [8, 9] (fun l mm wr => ∃ (L : ByteArray) (m : Bool) (out : List Hd) (v : Value), l = .string L ∧ mm = .bool m ∧ L.size ≤ 1000000 ∧ out.length + (leftL m L.data.toList).length ≤ 1000001 ∧ TriR wr tb MA MI v ∧ wr.ownsRow (tb + 1) 50 2 v out.length (cellsH out) ∧ prm out (leftL m L.data.toList) = prm [] (leftL mo Z.data.toList) ∧ TriR wr w.heap.size ⟨#[]⟩ ⟨#[]⟩ (.slice none 0 0) ∧ Below w.heap.size w wr ∧ tb + 1 ≤ wr.heap.size)
      (fun l mm _ => match l, mm with | .string L, .bool true => L.size + 1 | _, _ => 0)
    case atStart => exact ⟨Z, mo, [], .slice none 0 0, rfl, rfl, hZs, by simpa using hm0, HTa.out, World.ownsRow_nil _ _ _ _, rfl, HRa.out, HBa.out, by omega⟩
    case round =>
      obtain ⟨L, m, out, v, rfl, rfl, hLs, hol, hTr, hown, hpr, hR, hbw, hsz⟩ := hrel
      obtain ⟨v1, v2, v3, rfl⟩ := own_slice hown
      have HTr' := hid hTr
      have HO := hid hown
      have HPr := hid hpr
      have HR := hid hR
      have HBw := hid hbw
      clear hTr hown hpr hR hbw
      cases m with
      | false =>
        have HE := hid (show out = prm [] (leftL mo Z.data.toList) by rw [← HPr.out, prm_done])
        obtain ⟨x0, x1, x2⟩ := HTr'.out.cells
        obtain ⟨y0, y1, y2⟩ := HR.out.cells
        have f0 := HR.out.frozen 0
        have f1 := HR.out.frozen 1
        have f2 := HR.out.frozen 2
        go_wp2
        refine bodyPost_ret (results_q2 rfl _ _ w.heap.size MA MI (.slice v1 v2 v3) rfl HR.out.set.range) rfl ⟨.slice v1 v2 v3, ?_, ?_, ?_⟩
        · rw [HKV.out, HOk.out, HMA.out, HMI.out]; rfl
        · rw [HKV.out, ← HE.out]
          exact ((((But.refl w.heap.size wr).set 0 _).set 1 _).set 2 _).own (own_base HO.out (show w.heap.size ≤ tb + 1 by omega)) (own_triR HO.out HR.out)
        · exact ((HBw.out.setCell (p := ⟨w.heap.size, 0, none⟩) (Nat.le_refl _) _).setCell (p := ⟨w.heap.size, 1, none⟩) (Nat.le_refl _) _).setCell (p := ⟨w.heap.size, 2, none⟩) (Nat.le_refl _) _
      | true =>
        have HSt := hid (show prm (stepP out L.data.toList) (leftL (!(parR L.data.toList).isEmpty) ((parR L.data.toList).drop 1)) = prm [] (leftL mo Z.data.toList) by rw [← HPr.out, prm_left])
        have hll := left_len L.data.toList
        have hpl := parR_le L.data.toList
        rw [← Lib.size_eq] at hll hpl
        have hol' : out.length + (L.size + 1) ≤ 1000001 := by
          have : (leftL true L.data.toList).length = L.size + 1 := by rw [Lib.size_eq]; rfl
          omega
        obtain ⟨RN, hRN⟩ : ∃ x, ba (rNV L.data.toList) = x := ⟨_, rfl⟩
        obtain ⟨RV, hRV⟩ : ∃ x, ba (rVV L.data.toList) = x := ⟨_, rfl⟩
        obtain ⟨L', hL'⟩ : ∃ x, ba ((parR L.data.toList).drop 1) = x := ⟨_, rfl⟩
        obtain ⟨m', hm'⟩ : ∃ x, (!(parR L.data.toList).isEmpty) = x := ⟨_, rfl⟩
        have hL'l : (parR L.data.toList).drop 1 = L'.data.toList := by rw [← hL']; rfl
        have hRNl : rNV L.data.toList = RN.data.toList := by rw [← hRN]; rfl
        have hRVl : rVV L.data.toList = RV.data.toList := by rw [← hRV]; rfl
        have hRNs : RN.size ≤ 1000000 := by
          have h1 := upA_le [59, 61] (tL L.data.toList)
          have h2 := tL_le L.data.toList
          rw [Lib.size_eq, ← hRNl]; rw [← Lib.size_eq] at h2
          unfold rNV namP low
          split
          · rw [List.length_map]; omega
          · simp
        have hRVs : RV.size ≤ 1000000 := by
          have h1 := upR_le [59, 61] (tL L.data.toList)
          have h2 := tL_le L.data.toList
          have h3 := valV_le ((rstP L.data.toList).drop 1)
          rw [Lib.size_eq, ← hRVl]; rw [← Lib.size_eq] at h2
          rw [List.length_drop] at h3
          unfold rVV
          split
          · unfold rstP at *; omega
          · simp
        have hL's : L'.size ≤ 1000000 := by rw [Lib.size_eq, ← hL'l, List.length_drop]; omega
        have hL'm : m' = true → L'.size + 1 ≤ L.size := by
          intro h
          rw [Lib.size_eq, ← hL'l, List.length_drop]
          have : parR L.data.toList ≠ [] := by intro e; rw [e] at hm'; rw [← hm'] at h; cases h
          have := List.length_pos_iff.2 this
          omega
        have HPa : Hid (∀ w : World, Calls Tryz.prog 41 #[.string L] w fun e w' => e = .returned (.tuple #[.agg #[.string RN, .string RV], .string L', .bool m']) ∧ Below w.heap.size w w') := fun w => by
          have := rparam_any L w (by omega)
          unfold RpPost hdVal at this
          rw [hRN, hRV, hL', hm'] at this
          exact this
        rw [hm', hL'l] at HSt hll
        have HSp := hid (show stepP out L.data.toList = if (tokL RN.data.toList && fitV RV.data.toList) && !has6 out RN.data.toList then out ++ [⟨RN.data.toList, RV.data.toList⟩] else out by rw [step_ref, hRNl, hRVl])
        have hll' : out.length + 1 + (leftL m' L'.data.toList).length ≤ 1000001 := by omega
        have Hll := hid hll'
        have HL'm := hid hL'm
        clear hRN hRV hL' hm' hL'l hRNl hRVl hll hpl hol hL'm hll'
        have HTx := hid (HTr'.out.kept ((Below.refl _ wr).alloc (Nat.le_refl _) (.cells #[.string ⟨#[]⟩, .string ⟨#[]⟩] 50)))
        have HRx := hid (HR.out.kept ((Below.refl _ wr).alloc (Nat.le_refl _) (.cells #[.string ⟨#[]⟩, .string ⟨#[]⟩] 50)))
        have HOx := hid (HO.out.alloc (.cells #[.string ⟨#[]⟩, .string ⟨#[]⟩] 50))
        have HBx := hid (HBw.out.alloc HBw.out.size (.cells #[.string ⟨#[]⟩, .string ⟨#[]⟩] 50))
        have HPx := hid (show TwoR (wr.alloc (.cells #[.string ⟨#[]⟩, .string ⟨#[]⟩] 50)) wr.heap.size ⟨#[]⟩ ⟨#[]⟩ from heap_alloc_new _ _)
        go_wp2_with fail
        generalize (wr.alloc (.cells #[.string ⟨#[]⟩, .string ⟨#[]⟩] 50)) = X0 at *
        have hpbw : tb + 1 ≤ wr.heap.size := hsz
        have HApw := hid (own_far (j := 0) HO.out)
        have HTlt := hid HTr'.out.lt
        have HRlt := hid HR.out.lt
        generalize wr.heap.size = pb at *
        refine (HPa.out _).mono ?_
        rintro e w5 ⟨rfl, hb5⟩
        have HT5 := hid (HTx.out.kept hb5)
        have HR5 := hid (HRx.out.kept hb5)
        have HO5 := hid (own_same HOx.out hb5)
        have HB5 := hid (belowT HBx.out hb5)
        have HP5 := hid (HPx.out.kept hb5)
        obtain ⟨c0, c1, g0, g1⟩ := HP5.out.cells
        have HBt := hid (((But.refl pb w5).set 0 (.string RN)).set 1 (.string RV))
        have HT6 := hid (show TriR ((w5.setCell ⟨pb, 0, none⟩ (.string RN)).setCell ⟨pb, 1, none⟩ (.string RV)) tb MA MI (.slice v1 v2 v3) from HT5.out.but HBt.out (by omega))
        have HR6 := hid (show TriR ((w5.setCell ⟨pb, 0, none⟩ (.string RN)).setCell ⟨pb, 1, none⟩ (.string RV)) w.heap.size ⟨#[]⟩ ⟨#[]⟩ (.slice none 0 0) from HR5.out.but HBt.out (by have := HRlt.out; omega))
        have HO6 := hid (HBt.out.own HO5.out HApw.out)
        have HB6 := hid (show Below w.heap.size w ((w5.setCell ⟨pb, 0, none⟩ (.string RN)).setCell ⟨pb, 1, none⟩ (.string RV)) from (HB5.out.setCell (p := ⟨pb, 0, none⟩) (by show w.heap.size ≤ pb; have := HRlt.out; omega) _).setCell (p := ⟨pb, 1, none⟩) (by show w.heap.size ≤ pb; have := HRlt.out; omega) _)
        have HP6 := hid (HP5.out.set (n' := RN) (v' := RV))
        have hs6 : pb + 1 ≤ ((w5.setCell ⟨pb, 0, none⟩ (.string RN)).setCell ⟨pb, 1, none⟩ (.string RV)).heap.size := HP6.out.lt
        clear hb5
        go_wp2
        generalize ((w5.setCell ⟨pb, 0, none⟩ (.string RN)).setCell ⟨pb, 1, none⟩ (.string RV)) = w6 at *
        obtain ⟨_, _, ez, hz2', hz3', hzv⟩ := (own_hd HO6.out).view
        cases ez
        have HZ := hid hzv
        clear hzv c0 c1 g0 g1
        go_loopw [12, 13] (fun kn i wx => ∃ k : Nat, k ≤ out.length ∧ i = .int .i64 k ∧ kn = .bool (has6 (out.take k) RN.data.toList) ∧ Below w6.heap.size w6 wx) (fun _ i _ => out.length - (intOf i).toNat)
        case atStart => exact ⟨0, Nat.zero_le _, rfl, rfl, Below.refl _ _⟩
        case round =>
          obtain ⟨k, hk, rfl, rfl, hbk⟩ := hrel
          have HBk := hid hbk
          have hT := HT6.out.kept hbk
          have hP := HP6.out.kept hbk
          obtain ⟨y0, y1, y2⟩ := hT.cells
          obtain ⟨p0, p1, _, _⟩ := hP.cells
          clear hbk hT hP
          obtain ⟨kb, hkb⟩ : ∃ b, has6 (out.take k) RN.data.toList = b := ⟨_, rfl⟩
          rw [hkb]
          by_cases hlt : k < out.length
          · have hlt' : (k : Int) < (out.length : Int) := by omega
            have hst := has6_step out RN.data.toList k hlt
            rw [hkb] at hst
            obtain ⟨b1, o1, rfl, e1, _⟩ := HZ.out k hlt
            have f1 := (HBk.out.cell (World.block_lt_of_cell? w6 _ e1)).trans e1
            obtain ⟨nm, hnm⟩ : ∃ x : ByteArray, (⟨out[k].name.toArray⟩ : ByteArray) = x := ⟨_, rfl⟩
            rw [hnm] at f1
            obtain ⟨q, hq⟩ : ∃ q, (nm.toList == RN.toList) = q := ⟨_, rfl⟩
            have HN := hid (show has6 (out.take (k + 1)) RN.data.toList = (kb || q) by rw [hst, ← hq, Lib.toList_data, Lib.toList_data, ← hnm])
            clear hst e1 hnm hkb
            cases kb with
            | true =>
              go_wp2
              go_quiet (fail)
              go_wp2
              go_roundw
              case rel => exact ⟨k + 1, by omega, by go_num, by rw [HN.out]; rfl, below_drewN HBk.out _⟩
              case measure => simp [intOf]; omega
            | false =>
              go_wp2
              go_quiet (fail)
              go_wp2
              go_roundw
              case rel => exact ⟨k + 1, by omega, by go_num, by rw [HN.out]; rfl, below_drewN HBk.out _⟩
              case measure => simp [intOf]; omega
          · have hke : k = out.length := by omega
            subst hke
            rw [List.take_length] at hkb
            have hkb' := hkb
            clear hkb
            obtain ⟨tk, htk⟩ : ∃ t, tokL RN.data.toList = t := ⟨_, rfl⟩
            obtain ⟨ft, hft⟩ : ∃ t, fitV RV.data.toList = t := ⟨_, rfl⟩
            have HTk : Hid (∀ w : World, Calls Tryz.prog 40 #[.string RN] w fun e w' => e = .returned (.bool tk) ∧ w = w') := fun w => by
              rw [← htk]; exact rtoken_any RN w (by omega)
            have HFt : Hid (∀ w : World, Calls Tryz.prog 42 #[.string RV] w fun e w' => e = .returned (.bool ft) ∧ w' = w) := fun w => by
              rw [← hft]; exact rvalue_any RV w (by omega)
            have HSq := hid (show stepP out L.data.toList = if (tk && ft) && !kb then out ++ [⟨RN.data.toList, RV.data.toList⟩] else out by rw [HSp.out, htk, hft, hkb'])
            have HTf := hid (HT6.out.kept HBk.out)
            have HRf := hid (HR6.out.kept HBk.out)
            have HOf := hid (own_same HO6.out HBk.out)
            have HBf := hid (HB6.out.trans (HBk.out.mono HB6.out.size))
            have hsf : pb + 1 ≤ wr.heap.size := by have := HBk.out.size; omega
            clear htk hft hkb'
            have hcs : ((tk && ft) && !kb) = true ∨ ((tk && ft) && !kb) = false := by cases ((tk && ft) && !kb) <;> simp
            rcases hcs with hc | hc
            · obtain ⟨⟨rfl, rfl⟩, rfl⟩ : (tk = true ∧ ft = true) ∧ kb = false := by simpa using hc
              have HSr := hid (show stepP out L.data.toList = out ++ [⟨RN.data.toList, RV.data.toList⟩] by rw [HSq.out]; rfl)
              clear hc
              have g2 := HTf.out.frozen 2
              go_wp2_with fail
              refine (HTk.out _).mono ?_
              rintro e w' ⟨rfl, rfl⟩
              go_wp2_with fail
              refine (HFt.out _).mono ?_
              rintro e w' ⟨rfl, rfl⟩
              go_wp2_with (at_builtin; go_must (refine wpList_append_own _ rfl _ _ 29 rfl (tb + 1) 50 i0 _ 2 32 Tryz.underlying29 hi hz0 hz1 hz2 rfl (by decide) _ _ _ rfl (HOf.out.alloc _) ⟨w'.heap.size, 0, none⟩ 1 1 [.string RN, .string RV] rfl rfl ?c1 ?c2 ?c3 ?c4 ?c5 ?_))
              case c1 =>
                intro q u hq
                match q, hq with
                | 0, hq => simp at hq; subst hq; simp [Addr.add]
                | 1, hq => simp at hq; subst hq; simp [Addr.add]
              case c2 => intro u hu; simp at hu; rcases hu with rfl | rfl <;> rfl
              case c3 => unfold maxLen; omega
              case c4 => omega
              case c5 => simp; omega
              intro v' w7 hown' hgrow hnil
              obtain ⟨s5, n5, d5, rfl⟩ := own_slice hown'
              have HT7 := hid (show TriR w7 tb MA MI (.slice v1 out.length v3) from (hgrow.block _ (HTf.out.kept ((Below.refl _ _).alloc (Nat.le_refl _) (.cells #[.string RN, .string RV] 50))).lt (fun e => own_apart2 HOf.out (Nat.lt_succ_self _) e.symm)).trans (HTf.out.kept ((Below.refl _ _).alloc (Nat.le_refl _) _)))
              have HR7 := hid (show TriR w7 w.heap.size ⟨#[]⟩ ⟨#[]⟩ (.slice none 0 0) from (hgrow.block _ (HRf.out.kept ((Below.refl _ _).alloc (Nat.le_refl _) (.cells #[.string RN, .string RV] 50))).lt (fun e => own_apart2 HOf.out (show w.heap.size < tb + 1 by omega) e.symm)).trans (HRf.out.kept ((Below.refl _ _).alloc (Nat.le_refl _) _)))
              have HB7 := hid (show Below w.heap.size w w7 from (HBf.out.alloc HBf.out.size (.cells #[.string RN, .string RV] 50)).grown hgrow (by have := HBf.out.size; simp; omega) (fun g hg => by have := (HOf.out.lt g hg).1; omega))
              have HO7 := hid hown'
              have hs7 := hgrow.size
              simp at hs7
              clear hown' hgrow hnil y0 y1 y2 p0 p1
              obtain ⟨y0, y1, y2⟩ := HT7.out.cells
              have g2 := HT7.out.frozen 2
              go_wp2
              go_roundw
              case rel =>
                refine ⟨L', m', out ++ [⟨RN.data.toList, RV.data.toList⟩], .slice s5 n5 d5, rfl, rfl, hL's, ?_, HT7.out.set2 _, ?_, ?_, ?_, ?_, ?_⟩
                · have := Hll.out; simp; omega
                · rw [cellsH_app, cellsH_one, List.length_append]
                  have e1 : (⟨RN.data.toList.toArray⟩ : ByteArray) = RN := (xself RN).symm
                  have e2 : (⟨RV.data.toList.toArray⟩ : ByteArray) = RV := (xself RV).symm
                  rw [e1, e2]
                  exact ((But.refl tb w7).set 2 _).own HO7.out (own_triR HO7.out HT7.out)
                · rw [← HSr.out]; exact HSt.out
                · exact HR7.out.but ((But.refl tb w7).set 2 _) (by omega)
                · exact HB7.out.setCell (p := ⟨tb, 2, none⟩) (by show w.heap.size ≤ tb; omega) _
                · simp; omega
              case measure =>
                cases m' with
                | false => simp
                | true => have := HL'm.out rfl; simp; omega
            · have HSr := hid (show stepP out L.data.toList = out by rw [HSq.out, hc]; rfl)
              have hcs2 : tk = false ∨ (tk = true ∧ ft = false) ∨ (tk = true ∧ ft = true ∧ kb = true) := by revert hc; cases tk <;> cases ft <;> cases kb <;> simp
              clear hc
              rcases hcs2 with rfl | ⟨rfl, rfl⟩ | ⟨rfl, rfl, rfl⟩
              · go_wp2_with fail
                refine (HTk.out _).mono ?_
                rintro e w' ⟨rfl, rfl⟩
                go_wp2
                go_roundw
                case rel =>
                  refine ⟨L', m', out, .slice v1 out.length v3, rfl, rfl, hL's, by have := Hll.out; omega, HTf.out, HOf.out, ?_, HRf.out, HBf.out, by omega⟩
                  have := HSt.out; rw [HSr.out] at this; exact this
                case measure =>
                  cases m' with
                  | false => simp
                  | true => have := HL'm.out rfl; simp; omega
              · go_wp2_with fail
                refine (HTk.out _).mono ?_
                rintro e w' ⟨rfl, rfl⟩
                go_wp2_with fail
                refine (HFt.out _).mono ?_
                rintro e w' ⟨rfl, rfl⟩
                go_wp2
                go_roundw
                case rel =>
                  refine ⟨L', m', out, .slice v1 out.length v3, rfl, rfl, hL's, by have := Hll.out; omega, HTf.out, HOf.out, ?_, HRf.out, HBf.out, by omega⟩
                  have := HSt.out; rw [HSr.out] at this; exact this
                case measure =>
                  cases m' with
                  | false => simp
                  | true => have := HL'm.out rfl; simp; omega
              · go_wp2_with fail
                refine (HTk.out _).mono ?_
                rintro e w' ⟨rfl, rfl⟩
                go_wp2_with fail
                refine (HFt.out _).mono ?_
                rintro e w' ⟨rfl, rfl⟩
                go_wp2
                go_roundw
                case rel =>
                  refine ⟨L', m', out, .slice v1 out.length v3, rfl, rfl, hL's, by have := Hll.out; omega, HTf.out, HOf.out, ?_, HRf.out, HBf.out, by omega⟩
                  have := HSt.out; rw [HSr.out] at this; exact this
                case measure =>
                  cases m' with
                  | false => simp
                  | true => have := HL'm.out rfl; simp; omega

  · have HKV := hid (show knV s.data.toList = knNone by unfold knV; rw [HOk.out, hf]; rfl)
    have HOk2 := hid (show knOk s.data.toList = false by rw [HOk.out, hf])
    obtain ⟨c0, c1, c2⟩ := HR2.out.cells
    have f0 := HR2.out.frozen 0
    have f1 := HR2.out.frozen 1
    have f2 := HR2.out.frozen 2
    clear hf
    rcases hcs with rfl | ⟨rfl, rfl⟩ | ⟨rfl, rfl, rfl⟩
    · go_wp2
      refine bodyPost_ret (results_q2 rfl _ _ w.heap.size ⟨#[]⟩ ⟨#[]⟩ (.slice none 0 0) rfl HR2.out.set.range) rfl ⟨.slice none 0 0, ?_, ?_, ?_⟩
      · rw [HKV.out, HOk2.out]; rfl
      · rw [HKV.out]; exact World.ownsRow_nil _ _ _ _
      · exact ((HB2.out.setCell (p := ⟨w.heap.size, 0, none⟩) (Nat.le_refl _) _).setCell (p := ⟨w.heap.size, 1, none⟩) (Nat.le_refl _) _).setCell (p := ⟨w.heap.size, 2, none⟩) (Nat.le_refl _) _
    · go_wp2_with fail
      refine (HT1.out _).mono ?_
      rintro e w' ⟨rfl, rfl⟩
      go_wp2
      refine bodyPost_ret (results_q2 rfl _ _ w.heap.size ⟨#[]⟩ ⟨#[]⟩ (.slice none 0 0) rfl HR2.out.set.range) rfl ⟨.slice none 0 0, ?_, ?_, ?_⟩
      · rw [HKV.out, HOk2.out]; rfl
      · rw [HKV.out]; exact World.ownsRow_nil _ _ _ _
      · exact ((HB2.out.setCell (p := ⟨w.heap.size, 0, none⟩) (Nat.le_refl _) _).setCell (p := ⟨w.heap.size, 1, none⟩) (Nat.le_refl _) _).setCell (p := ⟨w.heap.size, 2, none⟩) (Nat.le_refl _) _
    · go_wp2_with fail
      refine (HT1.out _).mono ?_
      rintro e w' ⟨rfl, rfl⟩
      go_wp2_with fail
      refine (HT2.out _).mono ?_
      rintro e w' ⟨rfl, rfl⟩
      go_wp2
      refine bodyPost_ret (results_q2 rfl _ _ w.heap.size ⟨#[]⟩ ⟨#[]⟩ (.slice none 0 0) rfl HR2.out.set.range) rfl ⟨.slice none 0 0, ?_, ?_, ?_⟩
      · rw [HKV.out, HOk2.out]; rfl
      · rw [HKV.out]; exact World.ownsRow_nil _ _ _ _
      · exact ((HB2.out.setCell (p := ⟨w.heap.size, 0, none⟩) (Nat.le_refl _) _).setCell (p := ⟨w.heap.size, 1, none⟩) (Nat.le_refl _) _).setCell (p := ⟨w.heap.size, 2, none⟩) (Nat.le_refl _) _

end Go.Proofs.YtiemggepdeaogaaGreatDoor
