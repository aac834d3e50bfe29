/-
  Walks and plain facts that this claim leans on, put together out of 10 texts: Sd, Uk, Ul, Um, Uo, Uq, Us, Ut, Uv, Uw.
-/
import Derived.Test.YtjmkccnjjofmeaaGreatDoorProg
import Derived.Test.YtjmkccnjjofmeaaGreatDoorQa1
import Derived.Test.YtjmkccnjjofmeaaGreatDoorQa2
import Derived.Test.YtjmkccnjjofmeaaGreatDoorQa3
import Derived.Test.YtjmkccnjjofmeaaGreatDoorQa4
import Derived.Test.YtjmkccnjjofmeaaGreatDoorQa5
import Derived.Test.YtjmkccnjjofmeaaGreatDoorQa10
import Derived.Test.YtjmkccnjjofmeaaGreatDoorQa11
import Derived.WalkKit
import Derived.WalkSpells
import Derived.WalkLawsBesides
import Derived.Deep.RegionWith
import Derived.Lib.FrozenHead2
import Derived.Lib.OthersKept
import Derived.Lib.Builder
import Derived.Laws.BitsAllLaws
import Derived.WalkMore
import Derived.Deep.LoopGhost
import Derived.Laws.AppendOwn
import Derived.OwnWalk
import Derived.Lib.Bytealg
import Derived.Lib.BufferMore
import Derived.Laws.OwnMore
import Derived.LoopN
import Derived.Lib.AppendIntMem
import Derived.Lib.SmallJoins
import Derived.WalkSmall
import Derived.Lib.Strings
import Derived.Lib.UnsafeStr
import Derived.Laws.IdiomStrings
import Derived.Shelf.Strings.Builder1
import Derived.Shelf.Strings.Builder2
import Derived.Shelf.Strings.OnBuilder
import Derived.Shelf.Strings.Trim
import Derived.Shelf.Small.Utf8
import Derived.Shelf.Small.Strs
import Derived.Shelf.Small.Wraps
import Derived.Shelf.Strings.BuilderF
import Derived.Shelf.Strings.BuilderK
import Derived.Shelf.Strings.Builder2Cap
import Derived.Shelf.Strconv.Itoa0
import Derived.Shelf.Strconv.Itoa1
import Derived.Shelf.LaysM
import Derived.Shelf.Strconv.Itoa2
import Derived.Shelf.Strconv.Itoa3
import Derived.Shelf.Strings.Search1
import Derived.Shelf.Strings.Search2
import Derived.Shelf.Strings.Search3
import Derived.Shelf.Strings.Cut
import Derived.Shelf.Strings.Count
import Derived.Shelf.Strings.Shaped
import Derived.Shelf.Strings.Prefix
import Derived.Shelf.Strings.Split
import Derived.Shelf.Strings.Replace
import Derived.Shelf.Strings.Runes
import Derived.Shelf.Strings.IndexAny
import Derived.Shelf.Strings.AsciiSet
import Derived.Shelf.Strings.IndexAnyAll
import Derived.Shelf.Unicode.DecodeSlow
import Derived.Lib.LastIndexByte
import Derived.Laws.CopyOwn
import Derived.Laws.ResultCell
import Derived.Deep.MidRow
import Derived.RegionTactic
import Derived.Deep.QuietTactic
import Derived.BigQuiet
import Derived.Lib.IndexMore
import Derived.Lib.Join
import Derived.Lib.IndexAny
import Derived.Lib.Replace
import Derived.Lib.TrimByte
import Derived.Lib.ItoaNum
import Derived.Laws.RangeAny
import Derived.Lib.DecodeN
import Derived.Laws.BytesString
import Derived.Deep.RegionLaw
import Derived.Scope
import Derived.ScopeJumps
import Derived.Deep.WholeRow
import Derived.BigRegion
import Derived.Lib.AppendStr
set_option linter.unusedSimpArgs false
set_option linter.unusedVariables false

namespace Go.Proofs.YtjmkccnjjofmeaaGreatDoor
open Go.RowKit

def cellsS (L : List (List UInt8)) : List Value := L.map fun x => Value.string ⟨x.toArray⟩

theorem cellsS_app (a b : List (List UInt8)) : cellsS (a ++ b) = cellsS a ++ cellsS b := by simp [cellsS]

theorem cellsS_len (a : List (List UInt8)) : (cellsS a).length = a.length := by simp [cellsS]

theorem cellsS_one (X : ByteArray) : cellsS [X.data.toList] = [.string X] := by
  show [Value.string ⟨X.data.toList.toArray⟩] = _
  rw [Lib.mk_data]

/-- The texts L lie in block b. -/
def TxtS (w : World) (b : Nat) (L : List (List UInt8)) : Prop := ∀ j (h : j < L.length), w.cell? ⟨b, j, none⟩ = some (.string ⟨L[j].toArray⟩)

theorem TxtS.kept {w w' : World} {b : Nat} {L : List (List UInt8)} (h : TxtS w b L) (hb : Below w.heap.size w w') : TxtS w' b L := fun j hj => by
  have h1 := h j hj
  exact (hb.cell (World.block_lt_of_cell? w _ h1)).trans h1

theorem TxtS.take {w : World} {b : Nat} {L : List (List UInt8)} (h : TxtS w b L) (n : Nat) : TxtS w b (L.take n) := fun j hj => by
  have : j < L.length := by simp at hj; omega
  rw [h j this]
  simp

/-- A list of texts, as it is answered. -/
def TxtPost (L : List (List UInt8)) (w : World) (e : Ending) (w' : World) : Prop :=
  ∃ b cap, e = .returned (.slice (some ⟨b, 0, none⟩) L.length cap) ∧ L.length ≤ cap ∧ cap ≤ maxLen ∧ TxtS w' b L ∧ Below w.heap.size w w'

theorem own_txt {w w' : World} {B : Nat} {e : TypeId} {v : Value} {L : List (List UInt8)} (h : w'.ownsRow B e 1 v L.length (cellsS L)) (h0 : L ≠ []) (hb : Below w.heap.size w w') : TxtPost L w (.returned v) w' := by
  have hl := List.length_pos_iff.2 h0
  rcases h.2 with ⟨hv, hn⟩ | ⟨g, cap, cur, rfl, hg, hrow, hnc, hcm, hcs, htake⟩
  · omega
  · refine ⟨g, cap, rfl, hnc, hcm, fun j hj => ?_, hb⟩
    rw [h.cellAt j (by omega)]
    simp [cellsS, hj]

theorem drop_split (s : ByteArray) (j k : Nat) (hj : j ≤ k) (hk : k < s.size) : s.data.toList.drop j = (s.extract j k).data.toList ++ s[k] :: s.data.toList.drop (k + 1) := by
  rw [Lib.extract_data]
  have h1 : s.data.toList.drop j = (s.data.toList.drop j).take (k - j) ++ (s.data.toList.drop j).drop (k - j) := (List.take_append_drop _ _).symm
  rw [List.drop_drop, show j + (k - j) = k by omega, drop_cons s k hk] at h1
  exact h1

theorem ext_take (s : ByteArray) (j k : Nat) : (s.extract j k).data.toList = (s.data.toList.drop j).take (k - j) := Lib.extract_data _ _ _

theorem ba_self (b : ByteArray) : b = ⟨b.data.toList.toArray⟩ := ba_ext rfl

set_option maxHeartbeats 2000000 in
set_option maxRecDepth 100000 in
theorem rcut_any (s : ByteArray) (c : UInt8) (w : World) (hs : s.size ≤ 1000000) :
    Calls Tryz.prog 141 #[.string s, .int .u8 (c.toNat : Int)] w (TxtPost (cutL c s.data.toList) w) := by
  obtain ⟨i0, hi, hz0, hz1, hz2⟩ := info_parts infoStr
  have hc8 := c.toNat_lt
  go_enter Tryz.func141, Tryz.ntmps141
  go_wp2
  go_loopw [5, 6, 7] (fun v fr i wr => ∃ (k j : Nat) (out : List (List UInt8)), j ≤ k ∧ k ≤ s.size + 1 ∧ i = .int .i64 k ∧ fr = .int .i64 j ∧ out.length ≤ k ∧ wr.ownsRow w.heap.size 9 1 v out.length (cellsS out) ∧ Below w.heap.size w wr ∧
      ((k ≤ s.size ∧ cutL c s.data.toList = out ++ cutL c (s.data.toList.drop j) ∧ c ∉ (s.extract j k).data.toList) ∨ (k = s.size + 1 ∧ out = cutL c s.data.toList)))
    (fun _ _ i _ => s.size + 1 - (intOf i).toNat)
  case atStart => exact ⟨0, 0, [], Nat.le_refl _, by omega, rfl, rfl, Nat.le_refl _, own_nil _ _ _, Below.refl _ w, .inl ⟨by omega, rfl, by rw [ext_take]; simp⟩⟩
  case round =>
    obtain ⟨k, j, out, hjk, hk, rfl, rfl, hol, hown, hbw, hor⟩ := hrel
    have HO := hid hown
    clear hown
    have hbs := hbw.size
    rcases hor with ⟨hks, hcut, hno⟩ | ⟨hks, hout⟩
    · have HC := hid hcut
      have HN := hid hno
      clear hcut hno
      have hks' : (k : Int) ≤ (s.size : Int) := by omega
      have hjk' : (j : Int) ≤ (k : Int) := by omega
      obtain ⟨X, hX⟩ : ∃ X : ByteArray, X = s.extract j k := ⟨_, rfl⟩
      by_cases hlt : k < s.size
      · have hlt' : ((k : Int) == (s.size : Int)) = false := by rw [beq_eq_false_iff_ne]; omega
        have hb8 : s[k].toNat < 256 := s[k].toNat_lt
        have HD := hid (drop_split s j k hjk hlt)
        by_cases he : s[k] = c
        · have he' : (s[k].toNat : Int) = (c.toNat : Int) := by rw [he]
          have HE := hid he
          have HX := hid hX
          clear hX he
          go_wp2_with (at_builtin; go_must (refine wpList_append_own _ rfl _ _ 30 rfl w.heap.size 9 i0 (.string ⟨#[]⟩) 1 16 Tryz.underlying30 hi hz0 hz1 hz2 rfl (by decide) _ _ _ rfl (HO.out.alloc _) ⟨wr.heap.size, 0, none⟩ 1 1 [.string (s.extract j k)] rfl rfl ?c1 ?c2 ?c3 ?c4 ?c5 ?_))
          case c1 =>
            intro q u hq
            match q, hq with
            | 0, hq => simp at hq; subst hq; simp [Addr.add]
          case c2 => intro u hu; simp at hu; subst hu; rfl
          case c3 => unfold maxLen; omega
          case c4 => omega
          case c5 => simp; omega
          intro v' w2 hown' hgrow hnil
          have HO2 := hid hown'
          have HB2 := hid (show Below w.heap.size w w2 from (hbw.alloc hbw.size _).grown hgrow (by simp; omega) (fun g hg => (HO.out.lt g hg).1))
          clear hown' hgrow hnil
          go_wp2
          go_roundw
          case rel =>
            refine ⟨k + 1, k + 1, out ++ [(s.extract j k).data.toList], by omega, by omega, by go_num, by go_num, by simp; omega, ?_, HB2.out, .inl ⟨by omega, ?_, by rw [ext_take]; simp⟩⟩
            · rw [cellsS_app, cellsS_one, List.length_append]
              exact HO2.out
            · have h1 := HC.out
              rw [HD.out, HE.out, cutL_some c _ _ HN.out] at h1
              rw [h1]; simp
          case measure => simp [intOf]; omega
        · have he' : ((s[k].toNat : Int) == (c.toNat : Int)) = false := by
            rw [beq_eq_false_iff_ne]
            intro e
            exact he (UInt8.toNat_inj.1 (by omega))
          have HE := hid he
          clear he hX
          go_wp2
          go_roundw
          case rel =>
            refine ⟨k + 1, j, out, by omega, by omega, by go_num, rfl, by omega, HO.out, hbw, .inl ⟨by omega, HC.out, ?_⟩⟩
            rw [ext_take, show k + 1 - j = (k - j) + 1 by omega, List.take_add_one]
            have h2 := HN.out
            rw [ext_take] at h2
            rw [List.mem_append]
            rintro (h | h)
            · exact h2 h
            · rw [List.getElem?_drop, show j + (k - j) = k by omega] at h
              have h3 : s.data.toList[k]? = some s[k] := by
                rw [List.getElem?_eq_getElem (by simpa using hlt)]; rfl
              rw [h3] at h
              simp at h
              exact HE.out h.symm
          case measure => simp [intOf]; omega
      · have hke : k = s.size := by omega
        subst hke
        have HX := hid hX
        clear hX
        go_wp2_with (at_builtin; go_must (refine wpList_append_own _ rfl _ _ 30 rfl w.heap.size 9 i0 (.string ⟨#[]⟩) 1 16 Tryz.underlying30 hi hz0 hz1 hz2 rfl (by decide) _ _ _ rfl (HO.out.alloc _) ⟨wr.heap.size, 0, none⟩ 1 1 [.string (s.extract j s.size)] rfl rfl ?c1 ?c2 ?c3 ?c4 ?c5 ?_))
        case c1 =>
          intro q u hq
          match q, hq with
          | 0, hq => simp at hq; subst hq; simp [Addr.add]
        case c2 => intro u hu; simp at hu; subst hu; rfl
        case c3 => unfold maxLen; omega
        case c4 => omega
        case c5 => simp; omega
        intro v' w2 hown' hgrow hnil
        have HO2 := hid hown'
        have HB2 := hid (show Below w.heap.size w w2 from (hbw.alloc hbw.size _).grown hgrow (by simp; omega) (fun g hg => (HO.out.lt g hg).1))
        clear hown' hgrow hnil
        go_wp2
        go_roundw
        case rel =>
          refine ⟨s.size + 1, s.size + 1, out ++ [(s.extract j s.size).data.toList], by omega, by omega, by go_num, by go_num, by simp; omega, ?_, HB2.out, .inr ⟨rfl, ?_⟩⟩
          · rw [cellsS_app, cellsS_one, List.length_append]
            exact HO2.out
          · have h1 := HC.out
            have e : (s.extract j s.size).data.toList = s.data.toList.drop j := by rw [ext_take]; exact List.take_of_length_le (by simp)
            rw [e]
            have h2 := HN.out
            rw [e] at h2
            rw [cutL_none c _ h2] at h1
            exact h1.symm
        case measure => simp [intOf]
    · subst hks
      have hks' : ¬ (((s.size + 1 : Nat) : Int) ≤ (s.size : Int)) := by omega
      have HX := hid hout
      clear hout
      go_wp2
      go_ret
      rw [← HX.out]
      exact own_txt HO.out (by rw [HX.out]; exact cutL_ne _ _) hbw

end Go.Proofs.YtjmkccnjjofmeaaGreatDoor

namespace Go.Proofs.YtjmkccnjjofmeaaGreatDoor
open Go.RowKit

/-- The value v reads as the texts L. -/
def PathAt (w : World) (v : Value) (L : List (List UInt8)) : Prop :=
  (v = .slice none 0 0 ∧ L = []) ∨ ∃ b cap, v = .slice (some ⟨b, 0, none⟩) L.length cap ∧ b < w.heap.size ∧ L.length ≤ cap ∧ cap ≤ maxLen ∧ TxtS w b L

theorem PathAt.kept {w w' : World} {v : Value} {L : List (List UInt8)} (h : PathAt w v L) (hb : Below w.heap.size w w') : PathAt w' v L := by
  rcases h with h | ⟨b, cap, h1, h2, h3, h4, h5⟩
  · exact .inl h
  · exact .inr ⟨b, cap, h1, by have := hb.size; omega, h3, h4, h5.kept hb⟩

theorem own_path {w : World} {B : Nat} {v : Value} {L : List (List UInt8)} (h : w.ownsRow B 9 1 v L.length (cellsS L)) : PathAt w v L := by
  have h2 := h.2
  rcases h2 with ⟨hv, hn⟩ | ⟨g, cap, cur, rfl, hg, hrow, hnc, hcm, hcs, htake⟩
  · exact .inl ⟨hv, List.eq_nil_of_length_eq_zero hn⟩
  · refine .inr ⟨g, cap, rfl, (Array.getElem?_eq_some_iff.1 hrow).1, hnc, hcm, fun j hj => ?_⟩
    rw [h.cellAt j (by omega)]
    simp [cellsS, hj]

theorem own_drop {w : World} {B : Nat} {g cap n : Nat} {L : List (List UInt8)} (h : w.ownsRow B 9 1 (.slice (some ⟨g, 0, none⟩) (n + 1) cap) (n + 1) (cellsS L)) (hl : L.length = n + 1) : w.ownsRow B 9 1 (.slice (some ⟨g, 0, none⟩) n cap) n (cellsS L.dropLast) := by
  rcases h.2 with ⟨hv, hn⟩ | ⟨g', cap', cur, hv, hg, hrow, hnc, hcm, hcs, htake⟩
  · cases hv
  · cases hv
    refine ⟨by simp [cellsS_len, hl], .inr ⟨g, cap, cur, rfl, hg, hrow, by omega, hcm, hcs, ?_⟩⟩
    have e : (cellsS L).dropLast = cellsS L.dropLast := by simp [cellsS]
    have hcl : cur.toList.length = cap := by simp [hcs]
    rw [← e, ← htake, List.dropLast_eq_take, List.take_take, List.length_take]
    congr 1
    omega

theorem own_nonnil {w : World} {B n : Nat} {v : Value} {L : List (List UInt8)} (h : w.ownsRow B 9 1 v (n + 1) (cellsS L)) : ∃ g cap, v = .slice (some ⟨g, 0, none⟩) (n + 1) cap ∧ n + 1 ≤ cap ∧ cap ≤ maxLen := by
  rcases h.2 with ⟨hv, hn⟩ | ⟨g', cap', cur, hv, hg, hrow, hnc, hcm, hcs, htake⟩
  · omega
  · exact ⟨g', cap', hv, hnc, hcm⟩

theorem own_zero {w : World} {B : Nat} {v : Value} {xs : List Value} (h : w.ownsRow B 9 1 v 0 xs) : ∃ a cap, v = .slice a 0 cap := by
  rcases h.2 with ⟨hv, hn⟩ | ⟨g', cap', cur, hv, hg, hrow, hnc, hcm, hcs, htake⟩
  · exact ⟨none, 0, hv⟩
  · exact ⟨_, cap', hv⟩

/-- What out is behind a part p; 'mo': another one follows. -/
def stepP (out : List (List UInt8)) (p : List UInt8) (mo : Bool) : List (List UInt8) :=
  if dotsV p = 2 then (if mo then out.dropLast else out.dropLast ++ [[]]) else if dotsV p = 1 then (if mo then out else out ++ [[]]) else out ++ [pct 5 p]

theorem pathL_more (out : List (List UInt8)) (p : List UInt8) (L : List (List UInt8)) (h : L ≠ []) : pathL out (p :: L) = pathL (stepP out p true) L := by
  cases L with
  | nil => exact absurd rfl h
  | cons q r =>
    rw [pathL, stepP]
    split
    · rfl
    · split <;> rfl

theorem pathL_last (out : List (List UInt8)) (p : List UInt8) : pathL out [p] = stepP out p false := by
  rw [pathL, stepP]
  split
  · rfl
  · split <;> rfl

theorem dotsV_cases (p : List UInt8) : dotsV p = 0 ∨ dotsV p = 1 ∨ dotsV p = 2 := by
  unfold dotsV; split
  · exact .inr (.inl rfl)
  · split
    · exact .inr (.inr rfl)
    · exact .inl rfl

theorem stepP0 {out : List (List UInt8)} {p : List UInt8} {mo : Bool} (h : dotsV p = 0) : stepP out p mo = out ++ [pct 5 p] := by rw [stepP, h]; rfl

theorem stepP1 {out : List (List UInt8)} {p : List UInt8} (h : dotsV p = 1) : stepP out p true = out := by rw [stepP, h]; rfl

theorem stepP1' {out : List (List UInt8)} {p : List UInt8} (h : dotsV p = 1) : stepP out p false = out ++ [[]] := by rw [stepP, h]; rfl

theorem stepP2 {out : List (List UInt8)} {p : List UInt8} (h : dotsV p = 2) : stepP out p true = out.dropLast := by rw [stepP, h]; rfl

theorem stepP2' {out : List (List UInt8)} {p : List UInt8} (h : dotsV p = 2) : stepP out p false = out.dropLast ++ [[]] := by rw [stepP, h]; rfl

theorem own_below {w w' : World} {B : Nat} {v : Value} {n : Nat} {xs : List Value} (h : w.ownsRow B 9 1 v n xs) (hb : Below w.heap.size w w') : w'.ownsRow B 9 1 v n xs :=
  ownsRow_same h fun g hg => hb.block g (h.lt g hg).2

/-- A list of texts of its own, as it is answered. -/
def OwnPost (L : List (List UInt8)) (w : World) (e : Ending) (w' : World) : Prop := ∃ v, e = .returned v ∧ w'.ownsRow w.heap.size 9 1 v L.length (cellsS L) ∧ Below w.heap.size w w'

theorem pathV_some {special : Bool} {hv : List (List UInt8)} {s : List UInt8} (h : ¬ (s = [] ∧ special = false)) : pathV special hv s = pathL hv (cutL 47 (over1 s)) := by rw [pathV, if_neg h]

theorem over1_le (l : List UInt8) : (over1 l).length ≤ l.length := by
  unfold over1; split
  · simp
  · split <;> simp

end Go.Proofs.YtjmkccnjjofmeaaGreatDoor

namespace Go.Proofs.YtjmkccnjjofmeaaGreatDoor
open Go.RowKit

/-- The cells of an address whose path is the value pv. -/
def adrCells (u : Adr) (pv : Value) : List Value :=
  [.string ⟨u.scheme.toArray⟩, .string ⟨u.user.toArray⟩, .string ⟨u.pass.toArray⟩, .string ⟨u.host.toArray⟩, .bool u.hasHost, .int .i64 u.port, .bool u.opq, pv, .string ⟨u.query.toArray⟩, .string ⟨u.fragment.toArray⟩, .bool u.hasQuery, .bool u.hasFragment]

def adrVal (u : Adr) (pv : Value) : Value := .agg (adrCells u pv).toArray

theorem sizeU : (Tryz.prog.info? 32).map (·.size) = some 12 := by kernel_rfl

theorem sizeUl (u : Adr) (pv : Value) : (Tryz.prog.info? 32).map (·.size) = some (adrCells u pv).length := sizeU

theorem sizeUa (u : Adr) (pv : Value) : (Tryz.prog.info? 32).map (·.size) = some (adrCells u pv).toArray.size := sizeU

/-- What may stand as an address's path. -/
def IsSl (v : Value) : Prop := ∃ a n c, v = .slice a n c

theorem adrCells_one (u : Adr) (pv : Value) (hp : IsSl pv) : ∀ v ∈ adrCells u pv, v.oneCell' = true := by
  obtain ⟨a, n, c, rfl⟩ := hp
  intro v hv
  simp only [adrCells, List.mem_cons, List.not_mem_nil, or_false] at hv
  rcases hv with rfl | rfl | rfl | rfl | rfl | rfl | rfl | rfl | rfl | rfl | rfl | rfl <;> rfl

/-- The address u with the path pv lies in block b. -/
def AdrIn (w : World) (b : Nat) (u : Adr) (pv : Value) : Prop := w.heap[b]? = some (.cells (adrCells u pv).toArray 32 (0, 0))

theorem AdrIn.lt {w : World} {b : Nat} {u : Adr} {pv : Value} (h : AdrIn w b u pv) : b < w.heap.size := (Array.getElem?_eq_some_iff.1 h).1

theorem AdrIn.kept {w w' : World} {b : Nat} {u : Adr} {pv : Value} (h : AdrIn w b u pv) (hb : Below w.heap.size w w') : AdrIn w' b u pv := by
  unfold AdrIn
  rw [hb.block b h.lt]; exact h

theorem AdrIn.there {w : World} {b : Nat} {u : Adr} {pv : Value} (h : AdrIn w b u pv) : w.there b 0 12 := there_row h (Nat.le_refl _)

theorem AdrIn.cell {w : World} {b : Nat} {u : Adr} {pv : Value} (h : AdrIn w b u pv) (j : Nat) (v : Value) (hv : (adrCells u pv)[j]? = some v) : w.cell? ⟨b, j, none⟩ = some v := by
  rw [Lib.cell_of_heap h]
  simpa using hv

theorem AdrIn.frozen {w : World} {b : Nat} {u : Adr} {pv : Value} (h : AdrIn w b u pv) (j : Nat) : w.frozen? ⟨b, j, none⟩ = false := by
  simp [World.frozen?, show w.heap[b]? = _ from h]

theorem results_u2 {fn : Func} {p q : Tmp} (h : fn.results = #[.cell p 32, .tmp q]) (tmps : Array Value) (w : World) (b : Nat) (u : Adr) (pv : Value) (hp : tmps.getD p undef = .pointer (some ⟨b, 0, none⟩)) (hc : w.rangeAt b 0 (adrCells u pv)) : (results fn tmps).run Tryz.prog w = .ok (.tuple #[adrVal u pv, tmps.getD q undef]) w := by
  rw [Array.getD_eq_getD_getElem?] at hp
  simp only [results, h]
  simp [Sem.run_bind, Result.andThen, hp, asAddr, run_loadVar_mid w b 0 32 (adrCells u pv) _ hc Tryz.underlying32 rfl (sizeUl u pv), adrVal]

theorem setCells_heap (b : Nat) (t : TypeId) (f : Nat × Nat) : ∀ (vs : List Value) (o : Nat) (w : World) (C : Array Value), w.heap[b]? = some (.cells C t f) → ∃ C', (w.setCells b o vs).heap[b]? = some (.cells C' t f) ∧ C'.size = C.size ∧ (∀ j, j < o → C'[j]? = C[j]?) ∧ ∀ j, j < vs.length → o + j < C.size → C'[o + j]? = vs[j]?
  | [], o, w, C, h => ⟨C, h, rfl, fun _ _ => rfl, fun j hj => by simp at hj⟩
  | v :: r, o, w, C, h => by
    rw [World.setCells]
    have h1 := Lib.heap_setCell_same h (i := o) v
    obtain ⟨C', e1, e2, e3, e4⟩ := setCells_heap b t f r (o + 1) _ _ h1
    refine ⟨C', e1, by rw [e2]; simp, fun j hj => ?_, fun j hj hjc => ?_⟩
    · rw [e3 j (by omega), Array.getElem?_setIfInBounds, if_neg (by omega)]
    · match j with
      | 0 =>
        rw [Nat.add_zero, e3 o (by omega), Array.getElem?_setIfInBounds, if_pos rfl]
        have : o < C.size := by omega
        simp [this]
      | j + 1 =>
        have := e4 j (by simp at hj; omega) (by simp; omega)
        rw [show o + (j + 1) = o + 1 + j by omega, this]; rfl

/-- A store of a whole address. -/
theorem AdrIn.store {w : World} {b : Nat} {u v : Adr} {pv qv : Value} (h : AdrIn w b u pv) : AdrIn (w.setCells b 0 (adrCells v qv)) b v qv := by
  obtain ⟨C', e1, e2, _, e4⟩ := setCells_heap b 32 (0, 0) (adrCells v qv) 0 w _ h
  unfold AdrIn
  rw [e1]
  have : C' = (adrCells v qv).toArray := by
    apply Array.ext_getElem?
    intro j
    by_cases hj : j < 12
    · have := e4 j hj (by rw [Nat.zero_add]; exact hj)
      rw [Nat.zero_add] at this
      rw [this]; simp
    · have h2 : C'.size = 12 := by rw [e2]; rfl
      rw [Array.getElem?_eq_none (by omega), Array.getElem?_eq_none (by simp [adrCells]; omega)]
  rw [this]

end Go.Proofs.YtjmkccnjjofmeaaGreatDoor

namespace Go.Proofs.YtjmkccnjjofmeaaGreatDoor
open Go.RowKit

theorem AdrIn.set {w : World} {b : Nat} {u v : Adr} {pv qv : Value} (h : AdrIn w b u pv) (j : Nat) (x : Value) (hx : (adrCells u pv).set j x = adrCells v qv) : AdrIn (w.setCell ⟨b, j, none⟩ x) b v qv := by
  unfold AdrIn
  rw [Lib.heap_setCell_same h, ← hx]
  simp

/-- The refusal's number of an authority; 0: none. -/
def authE : Except Int (List UInt8 × List UInt8 × List UInt8 × Int) → Int
  | .ok _ => 0
  | .error e => e

/-- What an authority leaves in the address. -/
def authU (u : Adr) : Except Int (List UInt8 × List UInt8 × List UInt8 × Int) → Adr
  | .ok (a, b, h, p) => { u with user := a, pass := b, host := h, hasHost := true, port := p }
  | .error _ => u

def AuthPost (b : Nat) (u : Adr) (pv : Value) (r : Except Int (List UInt8 × List UInt8 × List UInt8 × Int)) (w : World) (e : Ending) (w' : World) : Prop :=
  e = .returned (.int .i64 (authE r)) ∧ Below b w w' ∧ (authE r = 0 → AdrIn w' b (authU u r) pv)

theorem auth_port {sc s : List UInt8} (h : portV (ownV sc) (((atV s).2.drop (colV (atV s).2)).drop 1) = none) : authV sc s = .error 11 := by rw [authV, h]

theorem auth_host {sc s : List UInt8} {p : Int} (h : portV (ownV sc) (((atV s).2.drop (colV (atV s).2)).drop 1) = some p) (h2 : parseV ((atV s).2.take (colV (atV s).2)) (specV sc) = none) : authV sc s = .error 10 := by rw [authV, h]; simp only; rw [h2]

theorem auth_empty {sc s h : List UInt8} {p : Int} (h1 : portV (ownV sc) (((atV s).2.drop (colV (atV s).2)).drop 1) = some p) (h2 : parseV ((atV s).2.take (colV (atV s).2)) (specV sc) = some h) (h3 : h = [] ∧ (pct 6 (part 58 (atV s).1).1 ≠ [] ∨ pct 6 (part 58 (atV s).1).2.1 ≠ [] ∨ ((atV s).2.drop (colV (atV s).2)).drop 1 ≠ [])) : authV sc s = .error 10 := by rw [authV, h1]; simp only; rw [h2]; simp only; rw [if_pos h3]

theorem auth_ok {sc s h : List UInt8} {p : Int} (h1 : portV (ownV sc) (((atV s).2.drop (colV (atV s).2)).drop 1) = some p) (h2 : parseV ((atV s).2.take (colV (atV s).2)) (specV sc) = some h) (h3 : ¬ (h = [] ∧ (pct 6 (part 58 (atV s).1).1 ≠ [] ∨ pct 6 (part 58 (atV s).1).2.1 ≠ [] ∨ ((atV s).2.drop (colV (atV s).2)).drop 1 ≠ []))) : authV sc s = .ok (pct 6 (part 58 (atV s).1).1, pct 6 (part 58 (atV s).1).2.1, h, p) := by rw [authV, h1]; simp only; rw [h2]; simp only; rw [if_neg h3]

theorem colN_le (L : Nat) : ∀ (l : List UInt8) (b : Bool) (i k : Nat), k ≤ L → i + l.length ≤ L → colN b i k l ≤ L
  | [], b, i, k, hk, _ => by cases b <;> exact hk
  | c :: l, false, i, k, hk, hl => by
    rw [colN]
    simp at hl
    split
    · exact colN_le L l false (i + 1) i (by omega) (by omega)
    · split
      · exact colN_le L l true (i + 1) k hk (by omega)
      · exact colN_le L l false (i + 1) k hk (by omega)
  | c :: l, true, i, k, hk, hl => by
    rw [colN]
    simp at hl
    split
    · exact colN_le L l false (i + 1) k hk (by omega)
    · exact colN_le L l true (i + 1) k hk (by omega)

theorem colV_le (l : List UInt8) : colV l ≤ l.length := colN_le l.length l false 0 l.length (Nat.le_refl _) (by omega)

theorem at_le (l : List UInt8) : (atV l).1.length ≤ l.length ∧ (atV l).2.length ≤ l.length := by
  unfold atV
  split
  · simp only [List.length_reverse]
    constructor
    · refine Nat.le_trans (List.drop_suffix 1 _).length_le ?_
      refine Nat.le_trans (List.dropWhile_suffix _).length_le ?_
      simp
    · refine Nat.le_trans (List.takeWhile_prefix _).length_le ?_
      simp
  · simp

end Go.Proofs.YtjmkccnjjofmeaaGreatDoor

namespace Go.Proofs.YtjmkccnjjofmeaaGreatDoor
open Go.RowKit

/-- What read answers: the address, with a path in new memory, and the refusal's number. -/
def ReadPost (r : Except Int Adr) (w : World) (e : Ending) (w' : World) : Prop :=
  ∃ pv, e = .returned (.tuple #[adrVal (adrOf r) pv, .int .i64 (numOf r)]) ∧ w'.ownsRow w.heap.size 9 1 pv (adrOf r).path.length (cellsS (adrOf r).path) ∧ Below w.heap.size w w'

theorem own_sl {w : World} {B n : Nat} {v : Value} {xs : List Value} (h : w.ownsRow B 9 1 v n xs) : IsSl v := by
  rcases h.2 with ⟨hv, hn⟩ | ⟨g', cap', cur, hv, _⟩
  · exact ⟨none, 0, 0, hv⟩
  · exact ⟨_, _, _, hv⟩

theorem own_apart {w : World} {B n b : Nat} {v : Value} {xs : List Value} {u : Adr} {pv : Value} (h : w.ownsRow B 9 1 v n xs) (hb : AdrIn w b u pv) {g : Nat} (hg : v.ownBlock = some g) : g ≠ b := by
  intro e
  subst e
  rcases h.2 with ⟨hv, hn⟩ | ⟨g', cap', cur, hv, _, hrow, _⟩
  · rw [hv] at hg; simp [Value.ownBlock] at hg
  · rw [hv] at hg
    simp [Value.ownBlock] at hg
    subst hg
    rw [show w.heap[g']? = _ from hb] at hrow
    cases hrow

theorem own_set {w : World} {B n b : Nat} {v : Value} {xs : List Value} {u : Adr} {pv : Value} (h : w.ownsRow B 9 1 v n xs) (hb : AdrIn w b u pv) (j : Nat) (x : Value) : (w.setCell ⟨b, j, none⟩ x).ownsRow B 9 1 v n xs :=
  ownsRow_same h fun g hg => heap_setCell_other _ _ _ _ (own_apart h hb hg)

theorem setCells_other {b g : Nat} (hne : g ≠ b) : ∀ (vs : List Value) (o : Nat) (w : World), (w.setCells b o vs).heap[g]? = w.heap[g]?
  | [], _, _ => rfl
  | v :: r, o, w => by
    rw [World.setCells, setCells_other hne r (o + 1) _]
    exact heap_setCell_other _ _ _ _ hne

theorem own_cells {w : World} {B n b : Nat} {v : Value} {xs : List Value} {u : Adr} {pv : Value} (h : w.ownsRow B 9 1 v n xs) (hb : AdrIn w b u pv) (vs : List Value) (o : Nat) : (w.setCells b o vs).ownsRow B 9 1 v n xs :=
  ownsRow_same h fun g hg => setCells_other (own_apart h hb hg) _ _ _

theorem AdrIn.set_other {w : World} {b d : Nat} {u : Adr} {pv : Value} (h : AdrIn w b u pv) (hne : b ≠ d) (j : Nat) (x : Value) : AdrIn (w.setCell ⟨d, j, none⟩ x) b u pv := by
  unfold AdrIn
  rw [heap_setCell_other _ _ _ _ hne]; exact h

end Go.Proofs.YtjmkccnjjofmeaaGreatDoor

namespace Go.Proofs.YtjmkccnjjofmeaaGreatDoor
open Go.RowKit

theorem authV_err {sc s : List UInt8} {e : Int} (h : authV sc s = .error e) : e = 10 ∨ e = 11 := by
  unfold authV at h
  split at h
  · cases h; exact .inr rfl
  · split at h
    · cases h; exact .inl rfl
    · split at h
      · cases h; exact .inl rfl
      · cases h

end Go.Proofs.YtjmkccnjjofmeaaGreatDoor

namespace Go.Proofs.YtjmkccnjjofmeaaGreatDoor
open Go.RowKit

theorem skip_le (l : List UInt8) : (skip47 l).length ≤ l.length := (List.dropWhile_suffix _).length_le

end Go.Proofs.YtjmkccnjjofmeaaGreatDoor

namespace Go.Proofs.YtjmkccnjjofmeaaGreatDoor
open Go.RowKit

theorem begin_le (s : List UInt8) : (beginU s).2.length ≤ s.length := by
  have h1 := clean_le s
  have h2 := part_le 35 (cleanV s)
  have h3 : (cutS (part 35 (cleanV s)).1).2.length ≤ (part 35 (cleanV s)).1.length := by
    cases hb : ((part 58 (part 35 (cleanV s)).1).2.2 && schOk (part 58 (part 35 (cleanV s)).1).1)
    · rw [cutS_none hb]; exact Nat.le_refl _
    · rw [cutS_some hb]; exact (part_le 58 _).2
  have : (beginU s).2 = (cutS (part 35 (cleanV s)).1).2 := rfl
  rw [this]
  omega

theorem readV_long {s : List UInt8} {b : Option Adr} (h : 4096 < s.length) : readV s b = .error 3 := by unfold readV; rw [if_pos h]

theorem readV_bare {s : List UInt8} (h : ¬ 4096 < s.length) (h2 : (beginU s).1.scheme = []) : readV s none = .error 12 := by unfold readV; rw [if_neg h]; simp only; rw [if_pos h2]

theorem readV_full {s : List UInt8} (h : ¬ 4096 < s.length) (h2 : (beginU s).1.scheme ≠ []) : readV s none = startV (beginU s).1 (beginU s).2 := by unfold readV; rw [if_neg h]; simp only; rw [if_neg h2]

end Go.Proofs.YtjmkccnjjofmeaaGreatDoor

namespace Go.Proofs.YtjmkccnjjofmeaaGreatDoor
open Go.RowKit

theorem itoaP_any (p : Int) (w : World) (hg : Gd w) (h0 : 0 ≤ p) (h1 : p ≤ 65535) :
    Calls Tryz.prog 116 #[.int .i64 p] w fun e w' => e = .returned (.string ⟨(portT p).toArray⟩) ∧ Below w.heap.size w w' := by
  refine (Tryz.strconv_Itoa p (by omega) (by omega) w hg.2.1).mono ?_
  rintro e w' ⟨rfl, k, os, rfl⟩
  exact ⟨by rw [portT_itoa p h0 h1], Lib.below_grow _ _ (Nat.le_refl _) _ _⟩

theorem deciN_le : ∀ (f n : Nat) (acc : List UInt8), (deciN f n acc).length ≤ f + acc.length
  | 0, n, acc => by rw [deciN]; omega
  | f + 1, n, acc => by
    rw [deciN]
    split
    · simp; omega
    · have := deciN_le f (n / 10) (UInt8.ofNat (48 + n % 10) :: acc)
      rw [List.length_cons] at this
      omega

theorem portT_le (p : Int) : (⟨(portT p).toArray⟩ : ByteArray).size ≤ 100 := by
  rw [Lib.size_eq]
  have := deciN_le 6 p.toNat []
  simp at this
  show (portT p).length ≤ 100
  unfold portT
  omega

set_option maxHeartbeats 2000000 in
set_option maxRecDepth 100000 in
theorem authorityText_any (u : Adr) (pv : Value) (w : World) (hg : Gd w) (hp : u.port = -1 ∨ (0 ≤ u.port ∧ u.port ≤ 65535)) (hl : u.user.length ≤ 1000000 ∧ u.pass.length ≤ 1000000 ∧ u.host.length ≤ 1000000) (hsl : IsSl pv) :
    Calls Tryz.prog 87 #[adrVal u pv] w fun e w' => e = .returned (.string ⟨(authT u).toArray⟩) ∧ Below w.heap.size w w' := by
  have HG := hid hg
  clear hg
  obtain ⟨sc, us, ps, ho, hh, po, op, pa, qu, fr, hq, hf⟩ := u
  obtain ⟨a0, n0, c0, rfl⟩ := hsl
  obtain ⟨l1, l2, l3⟩ := hl
  simp only at hp l1 l2 l3
  obtain ⟨US, rfl⟩ : ∃ X : ByteArray, us = X.data.toList := ⟨⟨us.toArray⟩, rfl⟩
  obtain ⟨PS, rfl⟩ : ∃ X : ByteArray, ps = X.data.toList := ⟨⟨ps.toArray⟩, rfl⟩
  obtain ⟨HO, rfl⟩ : ∃ X : ByteArray, ho = X.data.toList := ⟨⟨ho.toArray⟩, rfl⟩
  have s1 : US.size ≤ 1000000 := by rw [Lib.size_eq]; exact l1
  have s2 : PS.size ≤ 1000000 := by rw [Lib.size_eq]; exact l2
  have s3 : HO.size ≤ 1000000 := by rw [Lib.size_eq]; exact l3
  clear l1 l2 l3
  have hbx : Below w.heap.size w (w.alloc (.cells (adrCells ⟨sc, US.data.toList, PS.data.toList, HO.data.toList, hh, po, op, pa, qu, fr, hq, hf⟩ (.slice a0 n0 c0)).toArray 32)) := (Below.refl _ w).alloc (Nat.le_refl _) _
  have HBx := hid hbx
  clear hbx
  unfold adrVal adrCells
  cases hh with
  | false =>
    go_enter Tryz.func87, Tryz.ntmps87
    go_wp2
    go_ret
    exact ⟨rfl, HBx.out⟩
  | true =>
    by_cases h1 : US.data.toList = []
    · have q1 : (ByteArray.mk US.data).toList.isEmpty = true := empty_yes US h1
      by_cases h2 : PS.data.toList = []
      · have q2 : (ByteArray.mk PS.data).toList.isEmpty = true := empty_yes PS h2
        have H1 := hid h1
        have H2 := hid h2
        clear h1 h2
        rcases hp with rfl | ⟨hp0, hp1⟩
        · go_enter Tryz.func87, Tryz.ntmps87
          go_wp2
          go_ret
          refine ⟨ret_str' ?_, HBx.out⟩
          refine ba_ext ?_
          simp [authT, H1.out, H2.out]
        · have hpn : (po == -1) = false := by rw [beq_eq_false_iff_ne]; omega
          have hpn' : (po != -1) = true := by simp; omega
          have HPn := hid (show po ≠ -1 by omega)
          obtain ⟨PT, hPT⟩ : ∃ X : ByteArray, X = ⟨(portT po).toArray⟩ := ⟨_, rfl⟩
          have hPs : PT.size ≤ 100 := by rw [hPT]; exact portT_le po
          have HIt : Hid (∀ (w : World), Gd w → Calls Tryz.prog 116 #[.int .i64 po] w fun e w' => e = .returned (.string PT) ∧ Below w.heap.size w w') := fun w hg => by rw [hPT]; exact itoaP_any po w hg hp0 hp1
          have HPT := hid (show PT.data.toList = portT po by rw [hPT])
          clear hp0 hp1 hPT
          go_enter Tryz.func87, Tryz.ntmps87
          go_wp2_with fail
          refine (HIt.out _ (HG.out.kept ((Below.refl _ w).alloc (Nat.le_refl _) _))).mono ?_
          rintro e w2 ⟨rfl, hb2⟩
          have hb1 := (Below.refl w.heap.size w).alloc (Nat.le_refl _) (.cells (adrCells ⟨sc, US.data.toList, PS.data.toList, HO.data.toList, true, po, op, pa, qu, fr, hq, hf⟩ (.slice a0 n0 c0)).toArray 32)
          have HB2 := hid (show Below w.heap.size w w2 from hb1.trans (hb2.mono hb1.size))
          clear hb1
          clear hb2
          go_wp2
          go_ret
          refine ⟨ret_str' ?_, HB2.out⟩
          refine ba_ext ?_
          simp [authT, H1.out, H2.out, HPn.out, HPT.out]
      · have q2 : (ByteArray.mk PS.data).toList.isEmpty = false := empty_no PS h2
        have H1 := hid h1
        have H2 := hid h2
        clear h1 h2
        rcases hp with rfl | ⟨hp0, hp1⟩
        · go_enter Tryz.func87, Tryz.ntmps87
          go_wp2
          go_ret
          refine ⟨ret_str' ?_, HBx.out⟩
          refine ba_ext ?_
          simp [authT, H1.out, H2.out]
        · have hpn : (po == -1) = false := by rw [beq_eq_false_iff_ne]; omega
          have hpn' : (po != -1) = true := by simp; omega
          have HPn := hid (show po ≠ -1 by omega)
          obtain ⟨PT, hPT⟩ : ∃ X : ByteArray, X = ⟨(portT po).toArray⟩ := ⟨_, rfl⟩
          have hPs : PT.size ≤ 100 := by rw [hPT]; exact portT_le po
          have HIt : Hid (∀ (w : World), Gd w → Calls Tryz.prog 116 #[.int .i64 po] w fun e w' => e = .returned (.string PT) ∧ Below w.heap.size w w') := fun w hg => by rw [hPT]; exact itoaP_any po w hg hp0 hp1
          have HPT := hid (show PT.data.toList = portT po by rw [hPT])
          clear hp0 hp1 hPT
          go_enter Tryz.func87, Tryz.ntmps87
          go_wp2_with fail
          refine (HIt.out _ (HG.out.kept ((Below.refl _ w).alloc (Nat.le_refl _) _))).mono ?_
          rintro e w2 ⟨rfl, hb2⟩
          have hb1 := (Below.refl w.heap.size w).alloc (Nat.le_refl _) (.cells (adrCells ⟨sc, US.data.toList, PS.data.toList, HO.data.toList, true, po, op, pa, qu, fr, hq, hf⟩ (.slice a0 n0 c0)).toArray 32)
          have HB2 := hid (show Below w.heap.size w w2 from hb1.trans (hb2.mono hb1.size))
          clear hb1
          clear hb2
          go_wp2
          go_ret
          refine ⟨ret_str' ?_, HB2.out⟩
          refine ba_ext ?_
          simp [authT, H1.out, H2.out, HPn.out, HPT.out]
    · have q1 : (ByteArray.mk US.data).toList.isEmpty = false := empty_no US h1
      by_cases h2 : PS.data.toList = []
      · have q2 : (ByteArray.mk PS.data).toList.isEmpty = true := empty_yes PS h2
        have H1 := hid h1
        have H2 := hid h2
        clear h1 h2
        rcases hp with rfl | ⟨hp0, hp1⟩
        · go_enter Tryz.func87, Tryz.ntmps87
          go_wp2
          go_ret
          refine ⟨ret_str' ?_, HBx.out⟩
          refine ba_ext ?_
          simp [authT, H1.out, H2.out]
        · have hpn : (po == -1) = false := by rw [beq_eq_false_iff_ne]; omega
          have hpn' : (po != -1) = true := by simp; omega
          have HPn := hid (show po ≠ -1 by omega)
          obtain ⟨PT, hPT⟩ : ∃ X : ByteArray, X = ⟨(portT po).toArray⟩ := ⟨_, rfl⟩
          have hPs : PT.size ≤ 100 := by rw [hPT]; exact portT_le po
          have HIt : Hid (∀ (w : World), Gd w → Calls Tryz.prog 116 #[.int .i64 po] w fun e w' => e = .returned (.string PT) ∧ Below w.heap.size w w') := fun w hg => by rw [hPT]; exact itoaP_any po w hg hp0 hp1
          have HPT := hid (show PT.data.toList = portT po by rw [hPT])
          clear hp0 hp1 hPT
          go_enter Tryz.func87, Tryz.ntmps87
          go_wp2_with fail
          refine (HIt.out _ (HG.out.kept ((Below.refl _ w).alloc (Nat.le_refl _) _))).mono ?_
          rintro e w2 ⟨rfl, hb2⟩
          have hb1 := (Below.refl w.heap.size w).alloc (Nat.le_refl _) (.cells (adrCells ⟨sc, US.data.toList, PS.data.toList, HO.data.toList, true, po, op, pa, qu, fr, hq, hf⟩ (.slice a0 n0 c0)).toArray 32)
          have HB2 := hid (show Below w.heap.size w w2 from hb1.trans (hb2.mono hb1.size))
          clear hb1
          clear hb2
          go_wp2
          go_ret
          refine ⟨ret_str' ?_, HB2.out⟩
          refine ba_ext ?_
          simp [authT, H1.out, H2.out, HPn.out, HPT.out]
      · have q2 : (ByteArray.mk PS.data).toList.isEmpty = false := empty_no PS h2
        have H1 := hid h1
        have H2 := hid h2
        clear h1 h2
        rcases hp with rfl | ⟨hp0, hp1⟩
        · go_enter Tryz.func87, Tryz.ntmps87
          go_wp2
          go_ret
          refine ⟨ret_str' ?_, HBx.out⟩
          refine ba_ext ?_
          simp [authT, H1.out, H2.out]
        · have hpn : (po == -1) = false := by rw [beq_eq_false_iff_ne]; omega
          have hpn' : (po != -1) = true := by simp; omega
          have HPn := hid (show po ≠ -1 by omega)
          obtain ⟨PT, hPT⟩ : ∃ X : ByteArray, X = ⟨(portT po).toArray⟩ := ⟨_, rfl⟩
          have hPs : PT.size ≤ 100 := by rw [hPT]; exact portT_le po
          have HIt : Hid (∀ (w : World), Gd w → Calls Tryz.prog 116 #[.int .i64 po] w fun e w' => e = .returned (.string PT) ∧ Below w.heap.size w w') := fun w hg => by rw [hPT]; exact itoaP_any po w hg hp0 hp1
          have HPT := hid (show PT.data.toList = portT po by rw [hPT])
          clear hp0 hp1 hPT
          go_enter Tryz.func87, Tryz.ntmps87
          go_wp2_with fail
          refine (HIt.out _ (HG.out.kept ((Below.refl _ w).alloc (Nat.le_refl _) _))).mono ?_
          rintro e w2 ⟨rfl, hb2⟩
          have hb1 := (Below.refl w.heap.size w).alloc (Nat.le_refl _) (.cells (adrCells ⟨sc, US.data.toList, PS.data.toList, HO.data.toList, true, po, op, pa, qu, fr, hq, hf⟩ (.slice a0 n0 c0)).toArray 32)
          have HB2 := hid (show Below w.heap.size w w2 from hb1.trans (hb2.mono hb1.size))
          clear hb1
          clear hb2
          go_wp2
          go_ret
          refine ⟨ret_str' ?_, HB2.out⟩
          refine ba_ext ?_
          simp [authT, H1.out, H2.out, HPn.out, HPT.out]

end Go.Proofs.YtjmkccnjjofmeaaGreatDoor

namespace Go.Proofs.YtjmkccnjjofmeaaGreatDoor
open Go.RowKit

set_option maxHeartbeats 2000000 in
set_option maxRecDepth 100000 in
theorem writeString_k (B b : Nat) (bs : List Value) (s : ByteArray) (w : World) (h : Lib.IsBuilderF 80 5 B b bs w) (hlen : bs.length + s.size ≤ 140737488355328) (hBw : B ≤ w.heap.size) :
    Calls Tryz.prog 40 #[.pointer (some ⟨b, 0, none⟩), .string s] w fun e w' => e = .returned (.tuple #[.int .i64 s.size, .nilIface]) ∧ (Lib.BuilderAtF 80 5 B b (.pointer (some ⟨b, 0, none⟩)) (bs ++ Lib.strCells s) w' ∧ Below B w w') := by
  obtain ⟨i0, hi, hz0, hz1, hz2⟩ := info_parts infoByte
  go_enter Tryz.func40, Tryz.ntmps40
  go_wp2_with (go_at_call 71; refine (copyCheck_k B b bs _ h).mono ?_)
  rintro e w1 ⟨rfl, h1, hb1, hk1⟩
  obtain ⟨hB, v, hbk, hown, hne⟩ := h1
  have c0 : w1.cell? ⟨b, 0, none⟩ = some (.pointer (some ⟨b, 0, none⟩)) := by rw [Lib.cell_of_heap hbk]; rfl
  have c1 : w1.cell? ⟨b, 1, none⟩ = some v := by rw [Lib.cell_of_heap hbk]; rfl
  go_wp2_with (at_builtin; refine Lib.wpList_append_own_stringF _ rfl _ _ 27 9 rfl B 5 i0 Tryz.underlying27 Tryz.underlying9 hi hz0 hz1 hz2 _ _ _ rfl hown s rfl ?c3 ?c4 ?c5 ?_)
  case c3 => unfold maxLen; omega
  case c4 => omega
  case c5 => have := hb1.size; omega
  intro v' w2 hown' hgrow _
  have hlt : b < w1.heap.size := by
    rcases Nat.lt_or_ge b w1.heap.size with h' | h'
    · exact h'
    · simp [Array.getElem?_eq_none h'] at hbk
  have hb2 : w2.heap[b]? = some (.cells #[.pointer (some ⟨b, 0, none⟩), v] 80 (0, 0)) := by
    rw [hgrow.block b hlt (fun e => hne e.symm)]
    exact hbk
  have d0 : w2.cell? ⟨b, 0, none⟩ = some (.pointer (some ⟨b, 0, none⟩)) := by rw [Lib.cell_of_heap hb2]; rfl
  have d1 : w2.cell? ⟨b, 1, none⟩ = some v := by rw [Lib.cell_of_heap hb2]; rfl
  have f1 : w2.frozen? ⟨b, 1, none⟩ = false := Lib.frozen_of_heap hb2 1
  obtain ⟨ao, n', cap, rfl⟩ : ∃ ao n' cap, v' = .slice ao n' cap := by
    rcases hown'.2 with ⟨hv, _⟩ | ⟨g, cap, cur, fz, hv, _⟩
    · exact ⟨_, _, _, hv⟩
    · exact ⟨_, _, _, hv⟩
  go_wp2
  go_ret2
  refine ⟨rfl, ?_, ?_⟩
  · exact Lib.BuilderAtF.put (T := 80) (e := 5) hB hb2 (bs' := bs ++ Lib.strCells s) (by simpa [Lib.strCells_length] using hown') (by decide)
  · exact (hb1.grown hgrow (by have := hb1.size; omega) (fun k hk => (hown.lt k hk).1)).setCell (p := ⟨b, 1, none⟩) hB _

theorem join_flat (L : List (List UInt8)) : Lib.join L [] = L.flatten := by
  unfold Lib.join
  induction L with
  | nil => rfl
  | cons x r ih =>
    cases r with
    | nil => simp [List.intercalate]
    | cons y r => simp [List.intercalate] at ih ⊢; exact ih

theorem joinP_any (v : Value) (L : List (List UInt8)) (w : World) (h : PathAt w v L) (hl : L.length ≤ 1000000) (hf : L.flatten.length ≤ 1000000) :
    Calls Tryz.prog 117 #[v, .string ⟨#[]⟩] w fun e w' => e = .returned (.string ⟨L.flatten.toArray⟩) ∧ Below w.heap.size w w' := by
  rcases h with ⟨rfl, rfl⟩ | ⟨b, cap, rfl, h2, h3, h4, h5⟩
  · refine (Tryz.strings_Join_none none 0 ⟨#[]⟩ w).mono ?_
    rintro e w' ⟨rfl, rfl⟩
    exact ⟨rfl, Below.refl _ _⟩
  · have e1 : (L.map fun x => (⟨x.toArray⟩ : ByteArray)).map (·.data.toList) = L := by
      rw [List.map_map]
      exact List.map_id L
    have hj := Tryz.strings_Join b 0 cap (L.map fun x => (⟨x.toArray⟩ : ByteArray)) ⟨#[]⟩ w ?_ h2 (by simp; omega) (by simp; omega) ?_
    · rw [e1, show (⟨#[]⟩ : ByteArray).data.toList = [] from rfl, join_flat, List.length_map] at hj
      exact hj
    · intro j x hx
      rw [List.getElem?_map] at hx
      obtain ⟨y, hy, rfl⟩ := Option.map_eq_some_iff.1 hx
      obtain ⟨hj, e⟩ := List.getElem?_eq_some_iff.1 hy
      rw [Nat.zero_add, h5 j hj, e]
    · rw [e1, show (⟨#[]⟩ : ByteArray).data.toList = [] from rfl, join_flat]; omega

end Go.Proofs.YtjmkccnjjofmeaaGreatDoor
