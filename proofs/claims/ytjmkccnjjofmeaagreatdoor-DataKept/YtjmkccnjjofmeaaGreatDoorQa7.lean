/-
  Walks and plain facts that this claim leans on, put together out of 4 texts: Mf, Mb, Wj, Xj.
-/
import Derived.Test.YtjmkccnjjofmeaaGreatDoorProg
import Derived.Test.YtjmkccnjjofmeaaGreatDoorQa1
import Derived.Test.YtjmkccnjjofmeaaGreatDoorQa2
import Derived.Test.YtjmkccnjjofmeaaGreatDoorQa3
import Derived.Test.YtjmkccnjjofmeaaGreatDoorQa4
import Derived.Test.YtjmkccnjjofmeaaGreatDoorQa5
import Derived.Test.YtjmkccnjjofmeaaGreatDoorQa6
import Derived.Laws.OwnMore
import Derived.Below
import Derived.WalkSmall
import Derived.Lib.SmallJoins
import Derived.Deep.QuietTactic
import Derived.BigQuiet
import Derived.Deep.LoopGhost
import Derived.Lib.IndexAny
import Derived.Laws.BitsAllLaws
import Derived.Deep.MidRow
import Derived.Lib.BufferMore
import Derived.Lib.Bytealg
import Derived.Lib.BufferRead
import Derived.Lib.RuneBytes
import Derived.Laws.RangeAny
import Derived.Laws.AppendOwn
import Derived.Lib.Strings
import Derived.Lib.UnsafeStr
import Derived.Laws.IdiomStrings
import Derived.Lib.SlTrimSet
import Derived.Lib.Join
import Derived.Lib.IndexMore
import Derived.WalkKit
import Derived.WalkSpells
import Derived.WalkLawsBesides
import Derived.Laws.Runes
import Derived.Lib.DecodeN
import Derived.Lib.OthersKept
import Derived.RegionTactic
import Derived.Deep.RegionWith
import Derived.Shelf.Strings.Builder1
import Derived.Shelf.Strings.Builder2
import Derived.Shelf.Strings.OnBuilder
import Derived.Shelf.Strings.Trim
import Derived.Shelf.Small.Utf8
import Derived.Shelf.Small.Strs
import Derived.Shelf.Small.Wraps
import Derived.Shelf.Strings.BuilderF
import Derived.Shelf.Strings.BuilderK
import Derived.Shelf.Strings.Builder2Cap
import Derived.Shelf.Strconv.Itoa0
import Derived.Shelf.Strconv.Itoa1
import Derived.Shelf.LaysM
import Derived.Shelf.Strconv.Itoa2
import Derived.Shelf.Strconv.Itoa3
import Derived.Shelf.Strings.Search1
import Derived.Shelf.Strings.Search2
import Derived.Shelf.Strings.Search3
import Derived.Shelf.Strings.Cut
import Derived.Shelf.Strings.Count
import Derived.Shelf.Strings.Shaped
import Derived.Shelf.Strings.Prefix
import Derived.Shelf.Strings.Split
import Derived.Shelf.Strings.Replace
import Derived.Shelf.Strings.Runes
import Derived.Shelf.Strings.IndexAny
import Derived.Shelf.Strings.AsciiSet
import Derived.Shelf.Strings.IndexAnyAll
import Derived.Shelf.Unicode.DecodeSlow
import Derived.Shelf.Strings.SlTrimAscii
set_option linter.unusedSimpArgs false
set_option linter.unusedVariables false

namespace Go.Proofs.YtjmkccnjjofmeaaGreatDoor
open Go.RowKit

/-- What has been read in quotes, and what is still to be. -/
def QR (A B out l : List UInt8) : Prop := out ++ (quo l).1 = A ∧ (quo l).2 = B

theorem QR.start (l : List UInt8) : QR (quo l).1 (quo l).2 [] l := ⟨rfl, rfl⟩

theorem QR.one {A B out : List UInt8} {c : UInt8} (h : QR A B out [c]) (hc : c ≠ 34) : QR A B (out ++ [c]) [] := by
  obtain ⟨h1, h2⟩ := h
  rw [quo, if_neg hc] at h1 h2
  exact ⟨by rw [← h1]; simp [quo], h2⟩

theorem QR.esc {A B out r : List UInt8} {d : UInt8} (h : QR A B out (92 :: d :: r)) : QR A B (out ++ [d]) r := by
  obtain ⟨h1, h2⟩ := h
  rw [quo, if_neg (by decide), if_pos rfl] at h1 h2
  exact ⟨by rw [← h1]; simp, h2⟩

theorem QR.oth {A B out r : List UInt8} {c d : UInt8} (h : QR A B out (c :: d :: r)) (h1 : c ≠ 34) (h2 : c ≠ 92) : QR A B (out ++ [c]) (d :: r) := by
  obtain ⟨h3, h4⟩ := h
  rw [quo, if_neg h1, if_neg h2] at h3 h4
  exact ⟨by rw [← h3]; simp, h4⟩

theorem QR.nil {A B out : List UInt8} (h : QR A B out []) : out = A ∧ B = [] := by
  obtain ⟨h1, h2⟩ := h
  exact ⟨by simpa [quo] using h1, h2.symm⟩

theorem QR.close {A B out r : List UInt8} (h : QR A B out (34 :: r)) : out = A ∧ B = r := by
  obtain ⟨h1, h2⟩ := h
  cases r with
  | nil => exact ⟨by simpa [quo] using h1, by simpa [quo] using h2.symm⟩
  | cons d r => exact ⟨by simpa [quo] using h1, by simpa [quo] using h2.symm⟩

theorem own_slb {w : World} {B : Nat} {e : TypeId} {v : Value} {l : List UInt8} (h : w.ownsRow B e 1 v l.length (Lib.byteCells l)) : SlB w v l := by
  rcases h.2 with ⟨hv, hn⟩ | ⟨g, cap, cur, hv, rest⟩
  · exact .inl ⟨0, hv, List.eq_nil_of_length_eq_zero hn⟩
  · refine .inr ⟨⟨g, 0, none⟩, cap, hv, fun j hj => ?_⟩
    have := h.cells (g := g) (by rw [hv]; rfl) j _ (show (Lib.byteCells l)[j]? = some (.int .u8 (l[j].toNat : Int)) by simp [Lib.byteCells, hj])
    exact this

theorem But.grown {b : Nat} {w w1 w2 : World} {row : Option Nat} (h : But b w w1) (hg : w1.grownBy w2 row) (hr : ∀ k, row = some k → w.heap.size ≤ k) (hb : b < w.heap.size) : But b w w2 := by
  have h1 := h.1.size
  refine ⟨h.1.grown hg (by omega) (fun k hk => by have := hr k hk; omega), fun k hk1 hk2 => ?_⟩
  rw [hg.block k (by omega) (fun e => by have := hr k e.symm; omega)]
  exact h.2 k hk1 hk2

theorem Rdr.grown {b : Nat} {w1 w2 : World} {row : Option Nat} {Q : ByteArray} (h : Rdr w1 b Q) (hg : w1.grownBy w2 row) (hne : some b ≠ row) : Rdr w2 b Q :=
  (hg.block b h.lt hne).trans h

theorem Rdr.alloc {b : Nat} {w1 : World} {Q : ByteArray} (h : Rdr w1 b Q) (o : Obj) : Rdr (w1.alloc o) b Q := h.kept ((Below.refl _ w1).alloc (Nat.le_refl _) o)

theorem But.alloc {b : Nat} {w w1 : World} (h : But b w w1) (o : Obj) (hb : b ≤ w1.heap.size) : But b w (w1.alloc o) := h.then ((Below.refl _ w1).alloc (Nat.le_refl _) o) hb

def QuoPost (b : Nat) (l : List UInt8) (w : World) (e : Ending) (w' : World) : Prop := e = .returned (.string (ba (quo l).1)) ∧ Rdr w' b (ba (quo l).2) ∧ But b w w'

theorem own_apart6 {w : World} {b B n : Nat} {e : TypeId} {v : Value} {xs : List Value} (h : w.ownsRow B e 1 v n xs) (hb : b < B) : v.ownBlock ≠ some b := fun e => by
  have := (h.lt b e).1
  omega

set_option maxHeartbeats 4000000 in
set_option maxRecDepth 100000 in
theorem quoted_any (b : Nat) (R : ByteArray) (w : World) (hR : Rdr w b R) (hs : R.size ≤ 4000000000) :
    Calls Tryz.prog 169 #[.pointer (some ⟨b, 0, none⟩)] w (QuoPost b R.data.toList w) := by
  obtain ⟨i0, hi, hz0, hz1, hz2⟩ := info3 infoU8
  have HLt := hid hR.lt
  have HR := hid hR
  clear hR
  go_enter Tryz.func169, Tryz.ntmps169
  go_wp2
  go_loopg [3] R.size (fun g v wr => ∃ (Q : ByteArray) (out : List UInt8), Q.size ≤ g ∧ out.length + Q.size ≤ R.size ∧ Rdr wr b Q ∧ wr.ownsRow w.heap.size 5 1 v out.length (Lib.byteCells out) ∧ QR (quo R.data.toList).1 (quo R.data.toList).2 out Q.data.toList ∧ But b w wr)
  case atStart => exact ⟨R, [], Nat.le_refl _, by simp, HR.out, World.ownsRow_nil _ _ _ _, QR.start _, But.refl _ _⟩
  case round =>
    obtain ⟨Q, out, hg, hl, hRd, hown, hq, hbt⟩ := hrel
    have HRd := hid hRd
    have HO := hid hown
    have HQ := hid hq
    have HBt := hid hbt
    have hc1 := hRd.cell
    clear hRd hown hq hbt
    by_cases hne : Q.data.toList = []
    · have he : Q.toList.isEmpty = true := by rw [Lib.toList_data, hne]; rfl
      have HN := hid (show QR (quo R.data.toList).1 (quo R.data.toList).2 out [] by rw [← hne]; exact HQ.out)
      have HQe := hid (show Q = ba [] from xba hne)
      have hcv := (own_slb HO.out).string (P := Tryz.prog) (src := 27) (dst := 9) Tryz.underlying27 Tryz.underlying5 Tryz.underlying9
      clear hne
      go_wp2
      go_ret
      obtain ⟨e1, e2⟩ := HN.out.nil
      refine ⟨ret_str6 ?_, ?_, HBt.out⟩
      · rw [e1]; rfl
      · rw [e2, ← HQe.out]; exact HRd.out
    · have he := xempty_no Q hne
      by_cases h34 : Q.data.toList.head? = some 34
      · have hp := pass_yes 34 b Q wr HRd.out h34
        obtain ⟨r, hr⟩ : ∃ r, Q.data.toList = 34 :: r := by
          cases hl : Q.data.toList with
          | nil => exact absurd hl hne
          | cons c r => rw [hl] at h34; simp at h34; subst h34; exact ⟨r, rfl⟩
        have HN := hid (show QR (quo R.data.toList).1 (quo R.data.toList).2 out (34 :: r) by rw [← hr]; exact HQ.out)
        have HD := hid (show dr1 Q = ba r by unfold dr1 ba; rw [hr]; rfl)
        have HP := hid hp
        clear hp hr h34 hne
        go_wp2_with fail
        refine HP.out.mono ?_
        rintro e w1 ⟨rfl, hr1, hb1⟩
        have hcv := (own_slb (hb1.own HO.out (own_apart6 HO.out HLt.out))).string (P := Tryz.prog) (src := 27) (dst := 9) Tryz.underlying27 Tryz.underlying5 Tryz.underlying9
        have HR1 := hid hr1
        have HB1 := hid hb1
        clear hr1 hb1
        go_wp2
        go_ret
        obtain ⟨e1, e2⟩ := HN.out.close
        refine ⟨ret_str6 ?_, ?_, HBt.out.trans HB1.out⟩
        · rw [e1]; rfl
        · rw [e2, ← HD.out]; exact HR1.out
      · have HP := hid (pass_no 34 b Q wr HRd.out h34)
        obtain ⟨c, r0, hr0⟩ : ∃ c r, Q.data.toList = c :: r := by
          cases hl : Q.data.toList with
          | nil => exact absurd hl hne
          | cons c r => exact ⟨c, r, rfl⟩
        have hc34 : c ≠ 34 := fun e => h34 (by rw [hr0, e]; rfl)
        have hqs : Q.size = r0.length + 1 := by rw [Lib.size_eq, hr0]; rfl
        have hq0 : 0 < Q.size := by omega
        cases r0 with
        | nil =>
          have hlen : ¬ (1 : Int) < (Q.size : Int) := by rw [hqs]; simp
          obtain ⟨x, hx⟩ : ∃ x, Q[0]'hq0 = x := ⟨_, rfl⟩
          have hxc : x = c := by
            have := head_at Q hq0
            rw [hr0, hx] at this
            simp at this
            exact this.symm
          have HN := hid (show QR (quo R.data.toList).1 (quo R.data.toList).2 (out ++ [x]) (dr1 Q).data.toList by
            have h1 := HQ.out
            rw [hr0] at h1
            have h2 := h1.one hc34
            rw [hxc]
            have h3 : (dr1 Q).data.toList = [] := by unfold dr1; rw [hr0]; rfl
            rw [h3]; exact h2)
          have hd1 : (dr1 Q).size + 1 ≤ Q.size := by rw [dr1_size]; omega
          have hol : out.length + Q.size ≤ R.size := hl
          clear hxc hqs hr0 hc34 h34 hne hl
          go_wp2_with fail
          refine HP.out.mono ?_
          rintro e w1 ⟨rfl, rfl⟩
          go_wp2_with (at_builtin; go_must (refine wpList_append_own _ rfl _ _ 27 rfl w.heap.size 5 i0 (.int .u8 0) 1 1 Tryz.underlying27 hi hz0 hz1 hz2 rfl (by decide) _ _ _ rfl (HO.out.alloc _) ⟨w1.heap.size, 0, none⟩ 1 1 [.int .u8 (x.toNat : Int)] rfl rfl ?c1a ?c2a ?c3a ?c4a ?c5a ?_))
          case c1a =>
            intro q u hq
            match q, hq with
            | 0, hq => simp at hq; subst hq; simp [Addr.add]
          case c2a => intro u hu; simp at hu; subst hu; rfl
          case c3a => unfold maxLen; omega
          case c4a => omega
          case c5a => have := HBt.out.size; simp; omega
          intro v' w3 hown' hgrow hnil
          have HO3 := hid hown'
          have hap := fun e => own_apart6 HO.out HLt.out (Eq.symm e)
          have HR3 := hid ((HRd.out.alloc (.cells #[.int .u8 (x.toNat : Int)] 5)).grown hgrow hap)
          have HB3 := hid ((HBt.out.alloc (.cells #[.int .u8 (x.toNat : Int)] 5) (Nat.le_of_lt HRd.out.lt)).grown hgrow (fun k hk => (HO.out.lt k hk).1) HLt.out)
          have hc3 := HR3.out.cell
          have hf3 := HR3.out.frozen
          have HE := hid (dr1_ext Q)
          clear hown' hgrow hnil hap
          go_wp2
          go_roundg (gk - 1)
          case measure => omega
          case rel =>
            refine ⟨dr1 Q, out ++ [x], by omega, by simp; omega, ?_, ?_, HN.out, HB3.out.set _ _⟩
            · rw [HE.out]; exact HR3.out.set _
            · rw [Lib.byteCells_append, byteCells_one, List.length_append]
              exact (But.set (But.refl b w3) 0 _).own HO3.out (own_apart6 HO3.out HLt.out)
        | cons d r =>
          have hlen : (1 : Int) < (Q.size : Int) := by rw [hqs]; simp; omega
          by_cases h92 : c = 92
          · subst h92
            have HP2 := hid (pass_yes 92 b Q wr HRd.out (by rw [hr0]; rfl))
            have hol : out.length + Q.size ≤ R.size := hl
            have HD := hid (show (dr1 Q).data.toList = d :: r by unfold dr1; rw [hr0]; rfl)
            have hds : (dr1 Q).size + 1 ≤ Q.size := by rw [dr1_size]; omega
            obtain ⟨Q2, hQ2⟩ : ∃ Q2, dr1 Q = Q2 := ⟨_, rfl⟩
            rw [hQ2] at HP2 HD hds
            have hq2 : 0 < Q2.size := by rw [Lib.size_eq, HD.out]; simp
            obtain ⟨x, hx⟩ : ∃ x, Q2[0]'hq2 = x := ⟨_, rfl⟩
            have hxc : x = d := by
              have := head_at Q2 hq2
              rw [HD.out, hx] at this
              simp at this
              exact this.symm
            have HN := hid (show QR (quo R.data.toList).1 (quo R.data.toList).2 (out ++ [x]) (dr1 Q2).data.toList by
              have h1 := HQ.out
              rw [hr0] at h1
              have h2 := h1.esc
              rw [hxc]
              have h3 : (dr1 Q2).data.toList = r := by unfold dr1; rw [HD.out]; rfl
              rw [h3]; exact h2)
            have hd1 : (dr1 Q2).size + 1 ≤ Q2.size := by rw [dr1_size]; omega
            clear hxc hqs hr0 hc34 h34 hne hl hQ2
            go_wp2_with fail
            refine HP.out.mono ?_
            rintro e w1 ⟨rfl, rfl⟩
            go_wp2_with fail
            refine HP2.out.mono ?_
            rintro e w2 ⟨rfl, hr2, hb2⟩
            replace HO := hid (hb2.own HO.out (own_apart6 HO.out HLt.out))
            replace HBt := hid (HBt.out.trans hb2)
            replace HRd := hid hr2
            have hc2 := hr2.cell
            clear hr2 hb2 hc1 HP HP2
            go_wp2_with (at_builtin; go_must (refine wpList_append_own _ rfl _ _ 27 rfl w.heap.size 5 i0 (.int .u8 0) 1 1 Tryz.underlying27 hi hz0 hz1 hz2 rfl (by decide) _ _ _ rfl (HO.out.alloc _) ⟨w2.heap.size, 0, none⟩ 1 1 [.int .u8 (x.toNat : Int)] rfl rfl ?c1b ?c2b ?c3b ?c4b ?c5b ?_))
            case c1b =>
              intro q u hq
              match q, hq with
              | 0, hq => simp at hq; subst hq; simp [Addr.add]
            case c2b => intro u hu; simp at hu; subst hu; rfl
            case c3b => unfold maxLen; omega
            case c4b => omega
            case c5b => have := HBt.out.size; simp; omega
            intro v' w3 hown' hgrow hnil
            have HO3 := hid hown'
            have hap := fun e => own_apart6 HO.out HLt.out (Eq.symm e)
            have HR3 := hid ((HRd.out.alloc (.cells #[.int .u8 (x.toNat : Int)] 5)).grown hgrow hap)
            have HB3 := hid ((HBt.out.alloc (.cells #[.int .u8 (x.toNat : Int)] 5) (Nat.le_of_lt HRd.out.lt)).grown hgrow (fun k hk => (HO.out.lt k hk).1) HLt.out)
            have hc3 := HR3.out.cell
            have hf3 := HR3.out.frozen
            have HE := hid (dr1_ext Q2)
            clear hown' hgrow hnil hap
            go_wp2
            go_roundg (gk - 1)
            case measure => omega
            case rel =>
              refine ⟨dr1 Q2, out ++ [x], by omega, by simp; omega, ?_, ?_, HN.out, HB3.out.set _ _⟩
              · rw [HE.out]; exact HR3.out.set _
              · rw [Lib.byteCells_append, byteCells_one, List.length_append]
                exact (But.set (But.refl b w3) 0 _).own HO3.out (own_apart6 HO3.out HLt.out)
          · have HP2 := hid (pass_no 92 b Q wr HRd.out (by rw [hr0]; simpa using h92))
            have hol : out.length + Q.size ≤ R.size := hl
            obtain ⟨x, hx⟩ : ∃ x, Q[0]'hq0 = x := ⟨_, rfl⟩
            have hxc : x = c := by
              have := head_at Q hq0
              rw [hr0, hx] at this
              simp at this
              exact this.symm
            have HN := hid (show QR (quo R.data.toList).1 (quo R.data.toList).2 (out ++ [x]) (dr1 Q).data.toList by
              have h1 := HQ.out
              rw [hr0] at h1
              have h2 := h1.oth hc34 h92
              rw [hxc]
              have h3 : (dr1 Q).data.toList = d :: r := by unfold dr1; rw [hr0]; rfl
              rw [h3]; exact h2)
            have hd1 : (dr1 Q).size + 1 ≤ Q.size := by rw [dr1_size]; omega
            clear hxc hqs hr0 hc34 h34 hne hl h92
            go_wp2_with fail
            refine HP.out.mono ?_
            rintro e w1 ⟨rfl, rfl⟩
            go_wp2_with fail
            refine HP2.out.mono ?_
            rintro e w2 ⟨rfl, rfl⟩
            go_wp2_with (at_builtin; go_must (refine wpList_append_own _ rfl _ _ 27 rfl w.heap.size 5 i0 (.int .u8 0) 1 1 Tryz.underlying27 hi hz0 hz1 hz2 rfl (by decide) _ _ _ rfl (HO.out.alloc _) ⟨w2.heap.size, 0, none⟩ 1 1 [.int .u8 (x.toNat : Int)] rfl rfl ?c1c ?c2c ?c3c ?c4c ?c5c ?_))
            case c1c =>
              intro q u hq
              match q, hq with
              | 0, hq => simp at hq; subst hq; simp [Addr.add]
            case c2c => intro u hu; simp at hu; subst hu; rfl
            case c3c => unfold maxLen; omega
            case c4c => omega
            case c5c => have := HBt.out.size; simp; omega
            intro v' w3 hown' hgrow hnil
            have HO3 := hid hown'
            have hap := fun e => own_apart6 HO.out HLt.out (Eq.symm e)
            have HR3 := hid ((HRd.out.alloc (.cells #[.int .u8 (x.toNat : Int)] 5)).grown hgrow hap)
            have HB3 := hid ((HBt.out.alloc (.cells #[.int .u8 (x.toNat : Int)] 5) (Nat.le_of_lt HRd.out.lt)).grown hgrow (fun k hk => (HO.out.lt k hk).1) HLt.out)
            have hc3 := HR3.out.cell
            have hf3 := HR3.out.frozen
            have HE := hid (dr1_ext Q)
            clear hown' hgrow hnil hap
            go_wp2
            go_roundg (gk - 1)
            case measure => omega
            case rel =>
              refine ⟨dr1 Q, out ++ [x], by omega, by simp; omega, ?_, ?_, HN.out, HB3.out.set _ _⟩
              · rw [HE.out]; exact HR3.out.set _
              · rw [Lib.byteCells_append, byteCells_one, List.length_append]
                exact (But.set (But.refl b w3) 0 _).own HO3.out (own_apart6 HO3.out HLt.out)

end Go.Proofs.YtjmkccnjjofmeaaGreatDoor

namespace Go.Proofs.YtjmkccnjjofmeaaGreatDoor
open Go.RowKit

theorem m6get_bang (s : ByteArray) (i : Nat) (h : i < s.size) : s.get! i = s[i] := by
  show s.data[i]! = s.data[i]
  exact getElem!_pos s.data i h

set_option maxRecDepth 100000 in
theorem m6decode_skip (s : ByteArray) (i : Nat) (h : i < s.size) (ha : 128 ≤ (s[i]'h).toNat) : ∃ r n, Utf8.decode s i = (r, n) ∧ 128 ≤ r ∧ r ≤ 1114111 ∧ 1 ≤ n ∧ i + n ≤ s.size ∧ ∀ j, i ≤ j → j < i + n → 128 ≤ (s.get! j).toNat := by
  have h0 : 128 ≤ (s.get! i).toNat := by rw [m6get_bang s i h]; exact ha
  rw [Lib.decode_at]
  unfold Lib.decodeN
  rw [if_neg (by omega)]
  have one : ∀ j, i ≤ j → j < i + 1 → 128 ≤ (s.get! j).toNat := fun j h1 h2 => by
    have : j = i := by omega
    rw [this]; exact h0
  split
  · split
    · refine ⟨_, _, rfl, by omega, by omega, by omega, by omega, fun j h1 h2 => ?_⟩
      have : j = i ∨ j = i + 1 := by omega
      rcases this with rfl | rfl
      · exact h0
      · omega
    · exact ⟨_, _, rfl, by omega, by omega, by omega, by omega, one⟩
  · split
    · split
      · refine ⟨_, _, rfl, by omega, by omega, by omega, by omega, fun j h1 h2 => ?_⟩
        have : j = i ∨ j = i + 1 ∨ j = i + 2 := by omega
        rcases this with rfl | rfl | rfl
        · exact h0
        · omega
        · omega
      · exact ⟨_, _, rfl, by omega, by omega, by omega, by omega, one⟩
    · split
      · split
        · refine ⟨_, _, rfl, by omega, by omega, by omega, by omega, fun j h1 h2 => ?_⟩
          have : j = i ∨ j = i + 1 ∨ j = i + 2 ∨ j = i + 3 := by omega
          rcases this with rfl | rfl | rfl | rfl
          · exact h0
          · omega
          · omega
          · omega
        · exact ⟨_, _, rfl, by omega, by omega, by omega, by omega, one⟩
      · exact ⟨_, _, rfl, by omega, by omega, by omega, by omega, one⟩

theorem m6noAny_skip (s : ByteArray) (i n : Nat) (h : Lib.NoAny s.data.toList [59, 61] i) (hn : i + n ≤ s.size) (hj : ∀ j, i ≤ j → j < i + n → 128 ≤ (s.get! j).toNat) : Lib.NoAny s.data.toList [59, 61] (i + n) := by
  intro j b hjn hb
  by_cases h1 : j < i
  · exact h j b h1 hb
  · have h2 := hj j (by omega) hjn
    have hjs : j < s.size := by omega
    rw [m6get_bang s j hjs] at h2
    rw [Lib.data_getElem? s j hjs] at hb
    cases hb
    simp
    constructor <;> (intro e; rw [e] at h2; revert h2; decide)

theorem m6below_iter (w : World) (s : ByteArray) (i : Nat) : Below w.heap.size w (w.iter s i) := (Below.refl _ w).alloc (Nat.le_refl _) _

set_option maxHeartbeats 2000000 in
set_option maxRecDepth 100000 in
theorem m6indexRune_high (r : Int) (w : World) (hr1 : 128 ≤ r) (h2 : r ≤ 1114111) :
    Calls Tryz.prog 152 #[.string ⟨#[59, 61]⟩, .int .i32 r] w fun e w' => e = .returned (.int .i64 (-1)) ∧ Below w.heap.size w w' := by
  have hr0 : (0 : Int) ≤ r := by omega
  by_cases he : r = 65533
  · subst he
    go_enter Tryz.func152, Tryz.ntmps152
    go_wp2
    go_loopg [5, 6] 2 (fun g _ _ wx => ∃ i : Nat, i + g = 2 ∧ wx = w.iter ⟨#[59, 61]⟩ i)
    case atStart => exact ⟨0, by omega, rfl⟩
    case round =>
      obtain ⟨i, hig, rfl⟩ := hrel
      match gk, hig with
      | 0, hig =>
        obtain rfl : i = 2 := by omega
        have hnx := run_next_end (P := Tryz.prog) w ⟨#[59, 61]⟩ 2
        go_wp2
        go_ret
        exact ⟨rfl, m6below_iter w _ _⟩
      | 1, hig =>
        obtain rfl : i = 1 := by omega
        have hnx := fun ty => run_next_ascii (P := Tryz.prog) w ⟨#[59, 61]⟩ 1 ty (by decide) (by decide)
        go_wp2
        go_roundg 0
        case measure => omega
        case rel => exact ⟨2, by omega, rfl⟩
      | 2, hig =>
        obtain rfl : i = 0 := by omega
        have hnx := fun ty => run_next_ascii (P := Tryz.prog) w ⟨#[59, 61]⟩ 0 ty (by decide) (by decide)
        go_wp2
        go_roundg 1
        case measure => omega
        case rel => exact ⟨1, by omega, rfl⟩
      | g + 3, hig => omega
  · have he' : (r == 65533) = false := by rw [beq_eq_false_iff_ne]; exact he
    have hcv : ∀ w : World, Calls Tryz.prog 168 #[.int .i32 r] w fun e w' => e = .returned (.bool (Lib.validRune r)) ∧ w' = w := fun w => Tryz.utf8_ValidRune _ w
    have hvv : Lib.validRune r = true ∨ Lib.validRune r = false := by cases Lib.validRune r <;> simp
    rcases hvv with hv | hv
    rotate_left
    · rw [hv] at hcv
      clear hv h2 he
      go_enter Tryz.func152, Tryz.ntmps152
      go_wp2_with (go_at_call 168; refine (hcv _).mono ?_; rintro e w' ⟨rfl, rfl⟩)
      go_ret
      exact ⟨rfl, Below.refl _ _⟩
    · obtain ⟨X, hX⟩ : ∃ X, Utf8.encode r = X := ⟨_, rfl⟩
      have hvu : Utf8.valid r = true := by
        have := of_decide_eq_true hv
        simp only [Utf8.valid, Bool.or_eq_true, Bool.and_eq_true, decide_eq_true_eq]
        omega
      have hf := encode_facts r hvu (by omega)
      rw [hX] at hf
      obtain ⟨f1, f2, f3⟩ := hf
      have HF := hid f3
      rw [hv] at hcv
      clear f3 hv hvu h2 he
      by_cases hx : X.size = 2
      · obtain ⟨a, b, rfl⟩ : ∃ a b : UInt8, X = ⟨#[a, b]⟩ := by
          obtain ⟨⟨L⟩⟩ := X
          match L, hx with
          | [a, b], _ => exact ⟨a, b, rfl⟩
        have hb : 128 ≤ b.toNat := HF.out (show 1 < 2 by decide)
        have hb8 : b.toNat < 256 := b.toNat_lt
        have hb1 : ((((⟨#[59, 61]⟩ : ByteArray)[1]'(show 1 < 2 by decide)).toNat : Int) != (((⟨#[a, b]⟩ : ByteArray)[1]'(show 1 < 2 by decide)).toNat : Int)) = true := by
          show (((61 : UInt8).toNat : Int) != (b.toNat : Int)) = true
          have : (61 : UInt8).toNat = 61 := rfl
          simp only [bne_iff_ne, ne_eq]
          omega
        clear hx f1 f2 HF
        go_enter Tryz.func152, Tryz.ntmps152
        go_wp2_with (go_at_call 168; refine (hcv _).mono ?_; rintro e w' ⟨rfl, rfl⟩)
        go_step3
        go_wp2
        go_loop [9] (fun i => i = .int .i64 1) (fun _ => 0)
        case atStart => rfl
        case round =>
          subst hrel
          go_wp2
          go_step3
          go_wp2
          go_region
          go_wp2
          go_region_with (go_at_call 110; refine (Tryz.strings_IndexByte _ _ _).mono ?_; rintro e w'' ⟨rfl, rfl⟩)
          all_goals
            go_wp2
            rw [Exit.noGoto_ret]
            go_wp2
            rw [Exit.noGoto_ret]
            go_wp2
            go_ret
            exact ⟨rfl, (Below.refl _ _).drew.drew⟩
      · have f1' : (3 : Int) ≤ (X.size : Int) := by omega
        have f2' : (X.size : Int) ≤ 4 := by omega
        go_enter Tryz.func152, Tryz.ntmps152
        go_wp2_with (go_at_call 168; refine (hcv _).mono ?_; rintro e w' ⟨rfl, rfl⟩)
        go_step3
        go_wp2
        go_loop [9] (fun i => i = .int .i64 ((X.size : Int) - 1)) (fun _ => 0)
        case atStart => rfl
        case round =>
          subst hrel
          go_wp2
          go_ret
          exact ⟨rfl, Below.refl _ _⟩

set_option maxHeartbeats 2000000 in
set_option maxRecDepth 100000 in
theorem m6indexAny2_short (s : ByteArray) (w : World) (h8 : s.size ≤ 8) :
    Calls Tryz.prog 130 #[.string s, .string ⟨#[59, 61]⟩] w fun e w' => e = .returned (.int .i64 (Lib.indexAny s.data.toList [59, 61])) ∧ Below w.heap.size w w' := by
  have h8z : decide ((8 : Int) < (s.size : Int)) = false := decide_eq_false (by omega)
  go_enter Tryz.func130, Tryz.ntmps130
  go_wp2_with (go_at_call 153; refine (Tryz.strings_shouldUseASCIISet _ _).mono ?_; rintro e w' ⟨rfl, hw⟩; rw [hw, h8z])
  go_loopg [9, 10] s.size (fun g _ _ wx => ∃ i : Nat, i + g = s.size ∧ wx.heap[w.heap.size]? = some (.stringIter s i) ∧ Below w.heap.size w wx ∧ Lib.NoAny s.data.toList [59, 61] i)
  case atStart => exact ⟨0, by omega, by simp [World.iter_heap], m6below_iter w _ _, Lib.NoAny.zero _ _⟩
  case round =>
    obtain ⟨i, hig, hit, hbw, hno⟩ := hrel
    have HN := hid hno
    have HI := hid hit
    clear hno hit
    by_cases hi : i < s.size
    · obtain ⟨x, hx⟩ : ∃ x : UInt8, s[i]'hi = x := ⟨_, rfl⟩
      have hxl : s.data.toList[i]? = some x := by rw [← hx]; exact Lib.data_getElem? s i hi
      by_cases ha : x.toNat < 128
      · have hnx := fun ty => Lib.run_next_ascii_at (P := Tryz.prog) wr w.heap.size s i ty HI.out hi (by rw [hx]; exact ha)
        rw [hx] at hnx
        have HK := hid (Lib.iterAt_heap wr w.heap.size s i (i + 1) HI.out)
        have HB2 := hid (Lib.below_iterAt hbw (Nat.le_refl _) s (i + 1))
        have Hx := hid hxl
        clear hxl hx
        have hcon := Lib.contains_iff_indexByte [59, 61] x
        have hback : ((x.toNat : Int)).toNat.toUInt8 = x := by simp
        cases hin : [(59 : UInt8), 61].contains x
        · rw [hin] at hcon
          have hlt : ¬ ((0 : Int) ≤ Lib.indexByte [59, 61] x) := of_decide_eq_false hcon.symm
          have Hin := hid hin
          clear hcon hin
          go_wp2_with (go_at_call 152; refine (Tryz.strings_IndexRune_ascii _ _ _ (by omega) (by omega)).mono ?_; rintro e w' ⟨rfl, hw⟩; rw [hw, hback])
          go_roundg (gk - 1)
          case measure => omega
          case rel => exact ⟨i + 1, by omega, HK.out, HB2.out, HN.out.succ Hx.out Hin.out⟩
        · rw [hin] at hcon
          have hge : (0 : Int) ≤ Lib.indexByte [59, 61] x := of_decide_eq_true hcon.symm
          have Hin := hid hin
          clear hcon hin
          go_wp2_with (go_at_call 152; refine (Tryz.strings_IndexRune_ascii _ _ _ (by omega) (by omega)).mono ?_; rintro e w' ⟨rfl, hw⟩; rw [hw, hback])
          go_ret
          exact ⟨by rw [Lib.indexAny_hit HN.out Hx.out Hin.out]; rfl, HB2.out⟩
      · obtain ⟨r, n, hd, hr1, hr2, hn1, hn2, hj⟩ := m6decode_skip s i hi (by rw [hx]; omega)
        have hnx := fun ty => Lib.run_next_any_at (P := Tryz.prog) wr w.heap.size s i ty HI.out hi
        rw [hd] at hnx
        have HK := hid (Lib.iterAt_heap wr w.heap.size s i (i + n) HI.out)
        have HB2 := hid (Lib.below_iterAt hbw (Nat.le_refl _) s (i + n))
        have HN2 := hid (m6noAny_skip s i n HN.out hn2 hj)
        clear hxl hx hj hd
        have hr1' : (128 : Int) ≤ (r : Int) := by omega
        have HRx := hid (show (r : Int) ≤ 1114111 by omega)
        clear hr2
        go_wp2_with (go_at_call 152; refine (m6indexRune_high _ _ hr1' HRx.out).mono ?_; rintro e w2 ⟨rfl, hb2⟩)
        go_roundg (gk - n)
        case measure => omega
        case rel =>
          refine ⟨i + n, by omega, ?_, HB2.out.trans (hb2.mono ?_), HN2.out⟩
          · rw [hb2.block _ (Array.getElem?_eq_some_iff.1 HK.out).1]; exact HK.out
          · exact HB2.out.size
    · obtain rfl : i = s.size := by omega
      have hnx := fun ty => Lib.run_next_end_at (P := Tryz.prog) wr w.heap.size s s.size ty HI.out hi
      go_wp2
      go_ret
      exact ⟨by rw [Lib.indexAny_none (by rw [← Lib.size_eq]; exact HN.out)]; rfl, hbw⟩

theorem m6zero87 (w : World) : (zeroValue 141).run Tryz.prog w = .ok (.agg (Array.replicate 256 (.bool false))) w := (zero_of_info (P := Tryz.prog) (n := 256) (by kernel_rfl)).1 w

theorem m6indexAny2_any (s : ByteArray) (w : World) (hs : s.size ≤ 4000000000) :
    Calls Tryz.prog 130 #[.string s, .string ⟨#[59, 61]⟩] w fun e w' => e = .returned (.int .i64 (Lib.indexAny s.data.toList [59, 61])) ∧ Below w.heap.size w w' := by
  by_cases h : s.size ≤ 8
  · exact m6indexAny2_short s w h
  · refine (Tryz.strings_IndexAny_long m6zero87 s ⟨#[59, 61]⟩ w (by decide) (by omega) (by omega) (by decide) ?_).mono ?_
    · intro j b hb
      match j, hb with
      | 0, hb => simp at hb; subst hb; decide
      | 1, hb => simp at hb; subst hb; decide
      | j + 2, hb => simp at hb
    · rintro e w' ⟨rfl, rfl⟩
      refine ⟨rfl, ((Below.refl _ w).alloc (Nat.le_refl _) _).alloc ?_ _⟩
      simp

theorem m6indexAny1_any (s : ByteArray) (w : World) :
    Calls Tryz.prog 130 #[.string s, .string ⟨#[59]⟩] w fun e w' => e = .returned (.int .i64 (Lib.indexAny s.data.toList [59])) ∧ Below w.heap.size w w' := by
  refine (Tryz.strings_IndexAny_one s ⟨#[59]⟩ w (by decide) ?_).mono ?_
  · intro j b hb
    match j, hb with
    | 0, hb => simp at hb; subst hb; decide
    | j + 1, hb => simp at hb
  · rintro e w' ⟨rfl, rfl⟩
    exact ⟨rfl, Below.refl _ _⟩

end Go.Proofs.YtjmkccnjjofmeaaGreatDoor

namespace Go.Proofs.YtjmkccnjjofmeaaGreatDoor
open Go.RowKit

theorem ret_str {l : List UInt8} {t : ByteArray} (h : t.data.toList = l) : Ending.returned (.string t) = .returned (.string ⟨l.toArray⟩) := by
  rw [← h]

theorem strip_extract (s : ByteArray) (k m : Nat) (hkm : k ≤ m) (hm : m ≤ s.size) (hA : (s.data.toList.take k).all blC = true) (hB : (s.data.toList.drop m).all blC = true)
    (h : k = m ∨ ∃ h1 : k < s.size, ∃ h2 : m - 1 < s.size, k < m ∧ blankI (s[k].toNat : Int) = false ∧ blankI (s[m - 1].toNat : Int) = false) : (s.extract k m).data.toList = strip s.data.toList := by
  rw [Lib.extract_data, strip_between s.data.toList k m hkm (by simpa using hm) hA hB ?_, List.drop_take]
  rcases h with h | ⟨h1, h2, h3, c1, c2⟩
  · exact .inl h
  · exact .inr ⟨by simpa using h1, by simpa using h2, h3, c1, c2⟩

set_option maxHeartbeats 1000000 in
theorem strip_any (s : ByteArray) (w : World) (hs : s.size ≤ 140737488351232) :
    Calls Tryz.prog 57 #[.string s] w fun e w' => e = .returned (.string ⟨(strip s.data.toList).toArray⟩) ∧ w = w' := by
  go_enter Tryz.func57, Tryz.ntmps57
  go_wp2
  go_loop [3] (fun f => ∃ k : Nat, k ≤ s.size ∧ f = .int .i64 k ∧ (s.data.toList.take k).all blC = true) (fun f => s.size - (intOf f).toNat)
  case atStart => exact ⟨0, Nat.zero_le _, rfl, rfl⟩
  case round =>
    obtain ⟨k, hk, rfl, hall⟩ := hrel
    have HA := hid hall
    clear hall
    by_cases hc : ∃ hlt : k < s.size, blankI (s[k].toNat : Int) = true
    · obtain ⟨hlt, hbl⟩ := hc
      have HT := hid (take_snoc s k hlt)
      go_wp2_with (go_at_call 90; refine (blank_any _ _).mono ?_; rintro e w' ⟨rfl, rfl⟩)
      go_round
      case rel => exact ⟨k + 1, by omega, by go_num, by rw [HT.out, List.all_append, HA.out]; simp [blC, hbl]⟩
      case measure => simp [intOf]; omega
    · have hkN : k = s.size ∨ ∃ hlt : k < s.size, blankI (s[k].toNat : Int) = false := by
        by_cases hlt : k < s.size
        · right; exact ⟨hlt, by
            have := fun h => hc ⟨hlt, h⟩
            simpa using this⟩
        · left; omega
      have HK := hid hkN
      clear hc
      have hsplit : (k < s.size → False) ∨ ∃ hlt : k < s.size, blankI (s[k].toNat : Int) = false := by
        rcases hkN with h | h
        · left; intro; omega
        · right; exact h
      clear hkN
      rcases hsplit with hge | ⟨hlt, hbl⟩
      · have hge : ¬ k < s.size := hge
        obtain rfl : k = s.size := by omega
        go_wp2
        go_loop [4] (fun t => ∃ m : Nat, s.size ≤ m ∧ m ≤ s.size ∧ t = .int .i64 m ∧ (s.data.toList.drop m).all blC = true) (fun t => (intOf t).toNat)
        case atStart => exact ⟨s.size, Nat.le_refl _, Nat.le_refl _, rfl, by rw [drop_none s s.size (by omega)]; rfl⟩
        case round =>
          obtain ⟨m, hkm, hm, rfl, hallB⟩ := hrel
          have HB := hid hallB
          clear hallB
          by_cases hkm2 : s.size < m
          · exact absurd hkm2 (by omega)
          · obtain rfl : m = s.size := by omega
            go_wp2
            go_ret
            refine ⟨ret_str (by have := strip_extract s s.size s.size (Nat.le_refl _) (by omega) HA.out HB.out (.inl rfl); simpa using this), rfl⟩
      · go_wp2_with (go_at_call 90; refine (blank_any _ _).mono ?_; rintro e w' ⟨rfl, rfl⟩)
        go_loop [4] (fun t => ∃ m : Nat, k ≤ m ∧ m ≤ s.size ∧ t = .int .i64 m ∧ (s.data.toList.drop m).all blC = true) (fun t => (intOf t).toNat)
        case atStart => exact ⟨s.size, by omega, Nat.le_refl _, rfl, by rw [drop_none s s.size (by omega)]; rfl⟩
        case round =>
          obtain ⟨m, hkm, hm, rfl, hallB⟩ := hrel
          have HB := hid hallB
          clear hallB
          by_cases hkm2 : k < m
          · obtain ⟨q, rfl⟩ : ∃ q, m = q + 1 := ⟨m - 1, by omega⟩
            have hq : q < s.size := by omega
            have HD := hid (drop_cons s q hq)
            by_cases hbq : blankI (s[q].toNat : Int) = true
            · go_wp2_with (go_at_call 90; refine (blank_any _ _).mono ?_; rintro e w' ⟨rfl, rfl⟩)
              go_round
              case rel => exact ⟨q, by omega, by omega, by go_num, by rw [HD.out, List.all_cons, HB.out]; simp [blC, hbq]⟩
              case measure => simp [intOf]
            · have hbq' : blankI (s[q].toNat : Int) = false := by simpa using hbq
              clear hbq
              go_wp2_with (go_at_call 90; refine (blank_any _ _).mono ?_; rintro e w' ⟨rfl, rfl⟩)
              go_ret
              refine ⟨ret_str (strip_extract s k (q + 1) (by omega) (by omega) HA.out HB.out (.inr ⟨hlt, hq, by omega, hbl, hbq'⟩)), rfl⟩
          · obtain rfl : m = k := by omega
            go_wp2
            go_ret
            refine ⟨ret_str (by have := strip_extract s m m (Nat.le_refl _) (by omega) HA.out HB.out (.inl rfl); simpa using this), rfl⟩

end Go.Proofs.YtjmkccnjjofmeaaGreatDoor

namespace Go.Proofs.YtjmkccnjjofmeaaGreatDoor
open Go.RowKit

/-- What the library's own variable holds. -/
def G5 (w : World) : Prop := ∃ m, w.cell? ⟨0, 0, none⟩ = some (.int .i64 m)

theorem G5.kept {w w' : World} (h : G5 w) (hb : Below w.heap.size w w') : G5 w' := by
  obtain ⟨m, hm⟩ := h
  exact ⟨m, (hb.cell (World.block_lt_of_cell? w _ hm)).trans hm⟩

theorem cut5_any (s sep : ByteArray) (w : World) (hg : G5 w) (hs : s.size ≤ 4000000000) :
    Calls Tryz.prog 56 #[.string s, .string sep] w fun e w' => e = .returned (.tuple #[.string ⟨(Lib.cut s.data.toList sep.data.toList).1.toArray⟩, .string ⟨(Lib.cut s.data.toList sep.data.toList).2.1.toArray⟩, .bool (Lib.cut s.data.toList sep.data.toList).2.2]) ∧ Below w.heap.size w w' := by
  obtain ⟨m, hm⟩ := hg
  refine (Tryz.strings_Cut s sep m w (by omega) hm).mono ?_
  rintro e w' ⟨rfl, n, rfl⟩
  exact ⟨rfl, below_drewN (Below.refl _ _) n⟩

theorem trim5_any (s c : ByteArray) (w : World) (hs : s.size ≤ 9223372036854775807) (hc : c.size < 4294967281) (ha : c.data.toList.all (fun b => decide (b.toNat < 128)) = true) :
    Calls Tryz.prog 99 #[.string s, .string c] w fun e w' => e = .returned (.string ⟨(Lib.trimS s.data.toList c.data.toList).toArray⟩) ∧ Below w.heap.size w w' :=
  Any.strings_Trim_laid Tryz.lays160 (by kernel_rfl) s c w hs hc (ascii_of_all ha)

end Go.Proofs.YtjmkccnjjofmeaaGreatDoor
