/-
  The walk of the reader's quoted.
-/
import Derived.Test.YtplabofdcnpcpaaDoorZMe
import Derived.Deep.LoopGhost
set_option linter.unusedSimpArgs false
set_option linter.unusedVariables false
namespace Go.Proofs.YtplabofdcnpcpaaDoor
open Go.RowKit

/-- What has been read in quotes, and what is still to be. -/
def QR (A B out l : List UInt8) : Prop := out ++ (quo l).1 = A ∧ (quo l).2 = B

theorem QR.start (l : List UInt8) : QR (quo l).1 (quo l).2 [] l := ⟨rfl, rfl⟩
theorem QR.one {A B out : List UInt8} {c : UInt8} (h : QR A B out [c]) (hc : c ≠ 34) : QR A B (out ++ [c]) [] := by
  obtain ⟨h1, h2⟩ := h
  rw [quo, if_neg hc] at h1 h2
  exact ⟨by rw [← h1]; simp [quo], h2⟩
theorem QR.esc {A B out r : List UInt8} {d : UInt8} (h : QR A B out (92 :: d :: r)) : QR A B (out ++ [d]) r := by
  obtain ⟨h1, h2⟩ := h
  rw [quo, if_neg (by decide), if_pos rfl] at h1 h2
  exact ⟨by rw [← h1]; simp, h2⟩
theorem QR.oth {A B out r : List UInt8} {c d : UInt8} (h : QR A B out (c :: d :: r)) (h1 : c ≠ 34) (h2 : c ≠ 92) : QR A B (out ++ [c]) (d :: r) := by
  obtain ⟨h3, h4⟩ := h
  rw [quo, if_neg h1, if_neg h2] at h3 h4
  exact ⟨by rw [← h3]; simp, h4⟩
theorem QR.nil {A B out : List UInt8} (h : QR A B out []) : out = A ∧ B = [] := by
  obtain ⟨h1, h2⟩ := h
  exact ⟨by simpa [quo] using h1, h2.symm⟩
theorem QR.close {A B out r : List UInt8} (h : QR A B out (34 :: r)) : out = A ∧ B = r := by
  obtain ⟨h1, h2⟩ := h
  cases r with
  | nil => exact ⟨by simpa [quo] using h1, by simpa [quo] using h2.symm⟩
  | cons d r => exact ⟨by simpa [quo] using h1, by simpa [quo] using h2.symm⟩

theorem own_slb {w : World} {B : Nat} {e : TypeId} {v : Value} {l : List UInt8} (h : w.ownsRow B e 1 v l.length (Lib.byteCells l)) : SlB w v l := by
  rcases h.2 with ⟨hv, hn⟩ | ⟨g, cap, cur, hv, rest⟩
  · exact .inl ⟨0, hv, List.eq_nil_of_length_eq_zero hn⟩
  · refine .inr ⟨⟨g, 0, none⟩, cap, hv, fun j hj => ?_⟩
    have := h.cells (g := g) (by rw [hv]; rfl) j _ (show (Lib.byteCells l)[j]? = some (.int .u8 (l[j].toNat : Int)) by simp [Lib.byteCells, hj])
    exact this

theorem But.grown {b : Nat} {w w1 w2 : World} {row : Option Nat} (h : But b w w1) (hg : w1.grownBy w2 row) (hr : ∀ k, row = some k → w.heap.size ≤ k) (hb : b < w.heap.size) : But b w w2 := by
  have h1 := h.1.size
  refine ⟨h.1.grown hg (by omega) (fun k hk => by have := hr k hk; omega), fun k hk1 hk2 => ?_⟩
  rw [hg.block k (by omega) (fun e => by have := hr k e.symm; omega)]
  exact h.2 k hk1 hk2

theorem Rdr.grown {b : Nat} {w1 w2 : World} {row : Option Nat} {Q : ByteArray} (h : Rdr w1 b Q) (hg : w1.grownBy w2 row) (hne : some b ≠ row) : Rdr w2 b Q :=
  (hg.block b h.lt hne).trans h

theorem Rdr.alloc {b : Nat} {w1 : World} {Q : ByteArray} (h : Rdr w1 b Q) (o : Obj) : Rdr (w1.alloc o) b Q := h.kept ((Below.refl _ w1).alloc (Nat.le_refl _) o)
theorem But.alloc {b : Nat} {w w1 : World} (h : But b w w1) (o : Obj) (hb : b ≤ w1.heap.size) : But b w (w1.alloc o) := h.then ((Below.refl _ w1).alloc (Nat.le_refl _) o) hb

def QuoPost (b : Nat) (l : List UInt8) (w : World) (e : Ending) (w' : World) : Prop := e = .returned (.string (ba (quo l).1)) ∧ Rdr w' b (ba (quo l).2) ∧ But b w w'

theorem own_apart6 {w : World} {b B n : Nat} {e : TypeId} {v : Value} {xs : List Value} (h : w.ownsRow B e 1 v n xs) (hb : b < B) : v.ownBlock ≠ some b := fun e => by
  have := (h.lt b e).1
  omega

set_option maxHeartbeats 4000000 in
set_option maxRecDepth 100000 in
theorem quoted_any (b : Nat) (R : ByteArray) (w : World) (hR : Rdr w b R) (hs : R.size ≤ 4000000000) :
    Calls Tryd.prog 118 #[.pointer (some ⟨b, 0, none⟩)] w (QuoPost b R.data.toList w) := by
  obtain ⟨i0, hi, hz0, hz1, hz2⟩ := info3 infoU8
  have HLt := hid hR.lt
  have HR := hid hR
  clear hR
  go_enter Tryd.func118, Tryd.ntmps118
  go_wp2
  go_loopg [3] R.size (fun g v wr => ∃ (Q : ByteArray) (out : List UInt8), Q.size ≤ g ∧ out.length + Q.size ≤ R.size ∧ Rdr wr b Q ∧ wr.ownsRow w.heap.size 5 1 v out.length (Lib.byteCells out) ∧ QR (quo R.data.toList).1 (quo R.data.toList).2 out Q.data.toList ∧ But b w wr)
  case atStart => exact ⟨R, [], Nat.le_refl _, by simp, HR.out, World.ownsRow_nil _ _ _ _, QR.start _, But.refl _ _⟩
  case round =>
    obtain ⟨Q, out, hg, hl, hRd, hown, hq, hbt⟩ := hrel
    have HRd := hid hRd
    have HO := hid hown
    have HQ := hid hq
    have HBt := hid hbt
    have hc1 := hRd.cell
    clear hRd hown hq hbt
    by_cases hne : Q.data.toList = []
    · have he : Q.toList.isEmpty = true := by rw [Lib.toList_data, hne]; rfl
      have HN := hid (show QR (quo R.data.toList).1 (quo R.data.toList).2 out [] by rw [← hne]; exact HQ.out)
      have HQe := hid (show Q = ba [] from xba hne)
      have hcv := (own_slb HO.out).string (P := Tryd.prog) (src := 83) (dst := 9) Tryd.underlying83 Tryd.underlying5 Tryd.underlying9
      clear hne
      go_wp2
      go_ret
      obtain ⟨e1, e2⟩ := HN.out.nil
      refine ⟨ret_str6 ?_, ?_, HBt.out⟩
      · rw [e1]; rfl
      · rw [e2, ← HQe.out]; exact HRd.out
    · have he := xempty_no Q hne
      by_cases h34 : Q.data.toList.head? = some 34
      · have hp := pass_yes 34 b Q wr HRd.out h34
        obtain ⟨r, hr⟩ : ∃ r, Q.data.toList = 34 :: r := by
          cases hl : Q.data.toList with
          | nil => exact absurd hl hne
          | cons c r => rw [hl] at h34; simp at h34; subst h34; exact ⟨r, rfl⟩
        have HN := hid (show QR (quo R.data.toList).1 (quo R.data.toList).2 out (34 :: r) by rw [← hr]; exact HQ.out)
        have HD := hid (show dr1 Q = ba r by unfold dr1 ba; rw [hr]; rfl)
        have HP := hid hp
        clear hp hr h34 hne
        go_wp2_with fail
        refine HP.out.mono ?_
        rintro e w1 ⟨rfl, hr1, hb1⟩
        have hcv := (own_slb (hb1.own HO.out (own_apart6 HO.out HLt.out))).string (P := Tryd.prog) (src := 83) (dst := 9) Tryd.underlying83 Tryd.underlying5 Tryd.underlying9
        have HR1 := hid hr1
        have HB1 := hid hb1
        clear hr1 hb1
        go_wp2
        go_ret
        obtain ⟨e1, e2⟩ := HN.out.close
        refine ⟨ret_str6 ?_, ?_, HBt.out.trans HB1.out⟩
        · rw [e1]; rfl
        · rw [e2, ← HD.out]; exact HR1.out
      · have HP := hid (pass_no 34 b Q wr HRd.out h34)
        obtain ⟨c, r0, hr0⟩ : ∃ c r, Q.data.toList = c :: r := by
          cases hl : Q.data.toList with
          | nil => exact absurd hl hne
          | cons c r => exact ⟨c, r, rfl⟩
        have hc34 : c ≠ 34 := fun e => h34 (by rw [hr0, e]; rfl)
        have hqs : Q.size = r0.length + 1 := by rw [Lib.size_eq, hr0]; rfl
        have hq0 : 0 < Q.size := by omega
        cases r0 with
        | nil =>
          have hlen : ¬ (1 : Int) < (Q.size : Int) := by rw [hqs]; simp
          obtain ⟨x, hx⟩ : ∃ x, Q[0]'hq0 = x := ⟨_, rfl⟩
          have hxc : x = c := by
            have := head_at Q hq0
            rw [hr0, hx] at this
            simp at this
            exact this.symm
          have HN := hid (show QR (quo R.data.toList).1 (quo R.data.toList).2 (out ++ [x]) (dr1 Q).data.toList by
            have h1 := HQ.out
            rw [hr0] at h1
            have h2 := h1.one hc34
            rw [hxc]
            have h3 : (dr1 Q).data.toList = [] := by unfold dr1; rw [hr0]; rfl
            rw [h3]; exact h2)
          have hd1 : (dr1 Q).size + 1 ≤ Q.size := by rw [dr1_size]; omega
          have hol : out.length + Q.size ≤ R.size := hl
          clear hxc hqs hr0 hc34 h34 hne hl
          go_wp2_with fail
          refine HP.out.mono ?_
          rintro e w1 ⟨rfl, rfl⟩
          go_wp2_with (at_builtin; go_must (refine wpList_append_own _ rfl _ _ 83 rfl w.heap.size 5 i0 (.int .u8 0) 1 1 Tryd.underlying83 hi hz0 hz1 hz2 rfl (by decide) _ _ _ rfl (HO.out.alloc _) ⟨w1.heap.size, 0, none⟩ 1 1 [.int .u8 (x.toNat : Int)] rfl rfl ?c1a ?c2a ?c3a ?c4a ?c5a ?_))
          case c1a =>
            intro q u hq
            match q, hq with
            | 0, hq => simp at hq; subst hq; simp [Addr.add]
          case c2a => intro u hu; simp at hu; subst hu; rfl
          case c3a => unfold maxLen; omega
          case c4a => omega
          case c5a => have := HBt.out.size; simp; omega
          intro v' w3 hown' hgrow hnil
          have HO3 := hid hown'
          have hap := fun e => own_apart6 HO.out HLt.out (Eq.symm e)
          have HR3 := hid ((HRd.out.alloc (.cells #[.int .u8 (x.toNat : Int)] 5)).grown hgrow hap)
          have HB3 := hid ((HBt.out.alloc (.cells #[.int .u8 (x.toNat : Int)] 5) (Nat.le_of_lt HRd.out.lt)).grown hgrow (fun k hk => (HO.out.lt k hk).1) HLt.out)
          have hc3 := HR3.out.cell
          have hf3 := HR3.out.frozen
          have HE := hid (dr1_ext Q)
          clear hown' hgrow hnil hap
          go_wp2
          go_roundg (gk - 1)
          case measure => omega
          case rel =>
            refine ⟨dr1 Q, out ++ [x], by omega, by simp; omega, ?_, ?_, HN.out, HB3.out.set _ _⟩
            · rw [HE.out]; exact HR3.out.set _
            · rw [Lib.byteCells_append, byteCells_one, List.length_append]
              exact (But.set (But.refl b w3) 0 _).own HO3.out (own_apart6 HO3.out HLt.out)
        | cons d r =>
          have hlen : (1 : Int) < (Q.size : Int) := by rw [hqs]; simp; omega
          by_cases h92 : c = 92
          · subst h92
            have HP2 := hid (pass_yes 92 b Q wr HRd.out (by rw [hr0]; rfl))
            have hol : out.length + Q.size ≤ R.size := hl
            have HD := hid (show (dr1 Q).data.toList = d :: r by unfold dr1; rw [hr0]; rfl)
            have hds : (dr1 Q).size + 1 ≤ Q.size := by rw [dr1_size]; omega
            obtain ⟨Q2, hQ2⟩ : ∃ Q2, dr1 Q = Q2 := ⟨_, rfl⟩
            rw [hQ2] at HP2 HD hds
            have hq2 : 0 < Q2.size := by rw [Lib.size_eq, HD.out]; simp
            obtain ⟨x, hx⟩ : ∃ x, Q2[0]'hq2 = x := ⟨_, rfl⟩
            have hxc : x = d := by
              have := head_at Q2 hq2
              rw [HD.out, hx] at this
              simp at this
              exact this.symm
            have HN := hid (show QR (quo R.data.toList).1 (quo R.data.toList).2 (out ++ [x]) (dr1 Q2).data.toList by
              have h1 := HQ.out
              rw [hr0] at h1
              have h2 := h1.esc
              rw [hxc]
              have h3 : (dr1 Q2).data.toList = r := by unfold dr1; rw [HD.out]; rfl
              rw [h3]; exact h2)
            have hd1 : (dr1 Q2).size + 1 ≤ Q2.size := by rw [dr1_size]; omega
            clear hxc hqs hr0 hc34 h34 hne hl hQ2
            go_wp2_with fail
            refine HP.out.mono ?_
            rintro e w1 ⟨rfl, rfl⟩
            go_wp2_with fail
            refine HP2.out.mono ?_
            rintro e w2 ⟨rfl, hr2, hb2⟩
            replace HO := hid (hb2.own HO.out (own_apart6 HO.out HLt.out))
            replace HBt := hid (HBt.out.trans hb2)
            replace HRd := hid hr2
            have hc2 := hr2.cell
            clear hr2 hb2 hc1 HP HP2
            go_wp2_with (at_builtin; go_must (refine wpList_append_own _ rfl _ _ 83 rfl w.heap.size 5 i0 (.int .u8 0) 1 1 Tryd.underlying83 hi hz0 hz1 hz2 rfl (by decide) _ _ _ rfl (HO.out.alloc _) ⟨w2.heap.size, 0, none⟩ 1 1 [.int .u8 (x.toNat : Int)] rfl rfl ?c1b ?c2b ?c3b ?c4b ?c5b ?_))
            case c1b =>
              intro q u hq
              match q, hq with
              | 0, hq => simp at hq; subst hq; simp [Addr.add]
            case c2b => intro u hu; simp at hu; subst hu; rfl
            case c3b => unfold maxLen; omega
            case c4b => omega
            case c5b => have := HBt.out.size; simp; omega
            intro v' w3 hown' hgrow hnil
            have HO3 := hid hown'
            have hap := fun e => own_apart6 HO.out HLt.out (Eq.symm e)
            have HR3 := hid ((HRd.out.alloc (.cells #[.int .u8 (x.toNat : Int)] 5)).grown hgrow hap)
            have HB3 := hid ((HBt.out.alloc (.cells #[.int .u8 (x.toNat : Int)] 5) (Nat.le_of_lt HRd.out.lt)).grown hgrow (fun k hk => (HO.out.lt k hk).1) HLt.out)
            have hc3 := HR3.out.cell
            have hf3 := HR3.out.frozen
            have HE := hid (dr1_ext Q2)
            clear hown' hgrow hnil hap
            go_wp2
            go_roundg (gk - 1)
            case measure => omega
            case rel =>
              refine ⟨dr1 Q2, out ++ [x], by omega, by simp; omega, ?_, ?_, HN.out, HB3.out.set _ _⟩
              · rw [HE.out]; exact HR3.out.set _
              · rw [Lib.byteCells_append, byteCells_one, List.length_append]
                exact (But.set (But.refl b w3) 0 _).own HO3.out (own_apart6 HO3.out HLt.out)
          · have HP2 := hid (pass_no 92 b Q wr HRd.out (by rw [hr0]; simpa using h92))
            have hol : out.length + Q.size ≤ R.size := hl
            obtain ⟨x, hx⟩ : ∃ x, Q[0]'hq0 = x := ⟨_, rfl⟩
            have hxc : x = c := by
              have := head_at Q hq0
              rw [hr0, hx] at this
              simp at this
              exact this.symm
            have HN := hid (show QR (quo R.data.toList).1 (quo R.data.toList).2 (out ++ [x]) (dr1 Q).data.toList by
              have h1 := HQ.out
              rw [hr0] at h1
              have h2 := h1.oth hc34 h92
              rw [hxc]
              have h3 : (dr1 Q).data.toList = d :: r := by unfold dr1; rw [hr0]; rfl
              rw [h3]; exact h2)
            have hd1 : (dr1 Q).size + 1 ≤ Q.size := by rw [dr1_size]; omega
            clear hxc hqs hr0 hc34 h34 hne hl h92
            go_wp2_with fail
            refine HP.out.mono ?_
            rintro e w1 ⟨rfl, rfl⟩
            go_wp2_with fail
            refine HP2.out.mono ?_
            rintro e w2 ⟨rfl, rfl⟩
            go_wp2_with (at_builtin; go_must (refine wpList_append_own _ rfl _ _ 83 rfl w.heap.size 5 i0 (.int .u8 0) 1 1 Tryd.underlying83 hi hz0 hz1 hz2 rfl (by decide) _ _ _ rfl (HO.out.alloc _) ⟨w2.heap.size, 0, none⟩ 1 1 [.int .u8 (x.toNat : Int)] rfl rfl ?c1c ?c2c ?c3c ?c4c ?c5c ?_))
            case c1c =>
              intro q u hq
              match q, hq with
              | 0, hq => simp at hq; subst hq; simp [Addr.add]
            case c2c => intro u hu; simp at hu; subst hu; rfl
            case c3c => unfold maxLen; omega
            case c4c => omega
            case c5c => have := HBt.out.size; simp; omega
            intro v' w3 hown' hgrow hnil
            have HO3 := hid hown'
            have hap := fun e => own_apart6 HO.out HLt.out (Eq.symm e)
            have HR3 := hid ((HRd.out.alloc (.cells #[.int .u8 (x.toNat : Int)] 5)).grown hgrow hap)
            have HB3 := hid ((HBt.out.alloc (.cells #[.int .u8 (x.toNat : Int)] 5) (Nat.le_of_lt HRd.out.lt)).grown hgrow (fun k hk => (HO.out.lt k hk).1) HLt.out)
            have hc3 := HR3.out.cell
            have hf3 := HR3.out.frozen
            have HE := hid (dr1_ext Q)
            clear hown' hgrow hnil hap
            go_wp2
            go_roundg (gk - 1)
            case measure => omega
            case rel =>
              refine ⟨dr1 Q, out ++ [x], by omega, by simp; omega, ?_, ?_, HN.out, HB3.out.set _ _⟩
              · rw [HE.out]; exact HR3.out.set _
              · rw [Lib.byteCells_append, byteCells_one, List.length_append]
                exact (But.set (But.refl b w3) 0 _).own HO3.out (own_apart6 HO3.out HLt.out)

end Go.Proofs.YtplabofdcnpcpaaDoor
