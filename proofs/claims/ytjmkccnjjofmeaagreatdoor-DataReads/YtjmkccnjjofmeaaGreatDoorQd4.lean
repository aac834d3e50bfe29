/-
  Walks and plain facts that this claim leans on, put together out of 1 texts: Ec.
-/
import Derived.Test.YtjmkccnjjofmeaaGreatDoorProg
import Derived.Test.YtjmkccnjjofmeaaGreatDoorQa1
import Derived.Test.YtjmkccnjjofmeaaGreatDoorQa2
import Derived.Test.YtjmkccnjjofmeaaGreatDoorQa3
import Derived.Test.YtjmkccnjjofmeaaGreatDoorQa4
import Derived.Test.YtjmkccnjjofmeaaGreatDoorQa5
import Derived.Test.YtjmkccnjjofmeaaGreatDoorQa6
import Derived.Test.YtjmkccnjjofmeaaGreatDoorQa7
import Derived.Test.YtjmkccnjjofmeaaGreatDoorQa8
import Derived.Test.YtjmkccnjjofmeaaGreatDoorQa9
import Derived.Test.YtjmkccnjjofmeaaGreatDoorQa10
import Derived.Test.YtjmkccnjjofmeaaGreatDoorQa11
import Derived.Test.YtjmkccnjjofmeaaGreatDoorQa12
import Derived.Test.YtjmkccnjjofmeaaGreatDoorQa13
import Derived.Test.YtjmkccnjjofmeaaGreatDoorQa14
import Derived.Test.YtjmkccnjjofmeaaGreatDoorQa15
import Derived.Test.YtjmkccnjjofmeaaGreatDoorQa16
import Derived.Test.YtjmkccnjjofmeaaGreatDoorQa17
import Derived.Test.YtjmkccnjjofmeaaGreatDoorQa18
import Derived.Test.YtjmkccnjjofmeaaGreatDoorQa19
import Derived.Test.YtjmkccnjjofmeaaGreatDoorQa20
import Derived.Test.YtjmkccnjjofmeaaGreatDoorQa21
import Derived.Test.YtjmkccnjjofmeaaGreatDoorQa22
import Derived.Test.YtjmkccnjjofmeaaGreatDoorQa23
import Derived.Test.YtjmkccnjjofmeaaGreatDoorQa24
import Derived.Test.YtjmkccnjjofmeaaGreatDoorQa25
import Derived.Test.YtjmkccnjjofmeaaGreatDoorQa26
import Derived.Test.YtjmkccnjjofmeaaGreatDoorQa27
import Derived.Test.YtjmkccnjjofmeaaGreatDoorQa28
import Derived.Test.YtjmkccnjjofmeaaGreatDoorQd1
import Derived.Test.YtjmkccnjjofmeaaGreatDoorQd2
import Derived.Test.YtjmkccnjjofmeaaGreatDoorQd3
import Derived.Laws.OwnMore
import Derived.Below
import Derived.WalkSmall
import Derived.Lib.SmallJoins
import Derived.Lib.SlTrimSet
import Derived.Lib.Join
import Derived.Lib.IndexMore
import Derived.BigRegion
import Derived.WalkKit
import Derived.Deep.RegionHeld
import Derived.LoopN
import Derived.RegionTactic
import Derived.Deep.Cut
import Derived.Deep.CutRange
import Derived.Deep.DeepCutAuto
import Derived.BigQuiet
import Derived.Deep.QuietTactic
import Derived.Deep.RegionWith
import Derived.Deep.RegionLaw
import Derived.Deep.WholeRow
import Derived.Scope
import Derived.ScopeJumps
import Derived.WalkMore
import Derived.Laws.AppendOwn
import Derived.OwnWalk
import Derived.Lib.AppendStr
import Derived.Lib.Replace
import Derived.Laws.IdiomStrings
import Derived.Laws.BytesString
import Derived.Deep.MidRow
import Derived.Maps.OwnSet
import Derived.Maps.OwnOps
import Derived.Maps.AppendAt
import Derived.StringKeys
import Derived.Lib.LastIndexByte
import Derived.Lib.BufferMore
import Derived.Shelf.Strings.Builder1
import Derived.Shelf.Strings.Builder2
import Derived.Shelf.Strings.OnBuilder
import Derived.Shelf.Strings.Trim
import Derived.Shelf.Small.Utf8
import Derived.Shelf.Small.Strs
import Derived.Shelf.Small.Wraps
import Derived.Shelf.Strings.BuilderF
import Derived.Shelf.Strings.BuilderK
import Derived.Shelf.Strings.Builder2Cap
import Derived.Shelf.Strconv.Itoa0
import Derived.Shelf.Strconv.Itoa1
import Derived.Shelf.LaysM
import Derived.Shelf.Strconv.Itoa2
import Derived.Shelf.Strconv.Itoa3
import Derived.Shelf.Strings.Search1
import Derived.Shelf.Strings.Search2
import Derived.Shelf.Strings.Search3
import Derived.Shelf.Strings.Cut
import Derived.Shelf.Strings.Count
import Derived.Shelf.Strings.Shaped
import Derived.Shelf.Strings.Prefix
import Derived.Shelf.Strings.Split
import Derived.Shelf.Strings.Replace
import Derived.Shelf.Strings.Runes
import Derived.Shelf.Strings.IndexAny
import Derived.Shelf.Strings.AsciiSet
import Derived.Shelf.Strings.IndexAnyAll
import Derived.Shelf.Unicode.DecodeSlow
import Derived.Lib.IndexAny
import Derived.Deep.LoopGhost
import Derived.WalkSpells
import Derived.WalkLawsBesides
import Derived.Laws.BitsAllLaws
import Derived.Lib.UnsafeStr
import Derived.Lib.AppendIntMem
import Derived.Laws.CopyOwn
import Derived.Laws.ResultCell
import Derived.Lib.BufferRead
import Derived.Lib.RuneBytes
import Derived.Laws.RangeAny
import Derived.Laws.CopyRow
import Derived.Lib.DecodeN
import Derived.Lib.OthersKept
import Derived.Lib.Strings
import Derived.Shelf.Strings.SlTrimAscii
import Derived.Lib.FrozenHead2
import Derived.Lib.Builder
import Derived.Laws.AppendOwnNone
import Derived.Lib.TrimByte
import Derived.Laws.Runes
import Derived.Lib.Bytealg
import Derived.Lib.ItoaNum
import Derived.Deep.RegionHeldLaw
set_option linter.unusedSimpArgs false
set_option linter.unusedVariables false

namespace Go.Proofs.YtjmkccnjjofmeaaGreatDoor
open Go.RowKit

/-- What the document's Read answers. -/
def RrPost (u : Adr) (w : World) (e : Ending) (w' : World) : Prop :=
  Below w.heap.size w w' ∧
  ((rdO u = false ∧ e = .returned (.tuple #[knVal ⟨#[]⟩ ⟨#[]⟩ (.slice none 0 0), .slice none 0 0, .bool false])) ∨
   (rdO u = true ∧ ∃ v s, e = .returned (.tuple #[knVal (ba (typV (rdK u)).major) (ba (typV (rdK u)).minor) v, s, .bool true]) ∧ w'.ownsRow w.heap.size 44 2 v (typV (rdK u)).params.length (cellsH (typV (rdK u)).params) ∧ SlB w' s (rdB u)))

theorem results_t3 {fn : Func} {p q r : Tmp} (h : fn.results = #[.cell p 39, .tmp q, .tmp r]) (tmps : Array Value) (w : World) (b : Nat) (x y : ByteArray) (v : Value) (hp : tmps.getD p undef = .pointer (some ⟨b, 0, none⟩)) (hc : w.rangeAt b 0 [.string x, .string y, v]) : (results fn tmps).run Tryz.prog w = .ok (.tuple #[knVal x y v, tmps.getD q undef, tmps.getD r undef]) w := by
  rw [Array.getD_eq_getD_getElem?] at hp
  simp only [results, h]
  simp [Sem.run_bind, Result.andThen, hp, asAddr, run_loadVar_mid w b 0 39 [.string x, .string y, v] _ hc Tryz.underlying39 rfl (by kernel_rfl), knVal]

theorem take_butlast (L : List UInt8) (c : UInt8) : (L ++ [c]).take ((L ++ [c]).length - 1) = L := by simp

def szV : Value → Nat
  | .string s => s.size
  | _ => 0

theorem spot_none7 {w : World} {x : Addr} {v : Value} (h : w.cell? x = some v) : x.spot = none := by
  unfold World.cell? at h
  cases hs : x.spot with
  | none => rfl
  | some y =>
    rw [hs] at h
    split at h
    · simp at h
    · cases h

theorem SlB.tri {w : World} {t j : Nat} {a m : ByteArray} {p1 : Option Addr} {p2 p3 : Nat} {v y : Value} {l : List UInt8} (h : SlB w v l) (ht : TriR w t a m (.slice p1 p2 p3)) : SlB (w.setCell ⟨t, j, none⟩ y) v l := by
  rcases h with h | ⟨x, cap, rfl, hc⟩
  · exact .inl h
  · refine .inr ⟨x, cap, rfl, fun k hk => ?_⟩
    have h1 := hc k hk
    by_cases hb : (x.add k).block = t
    · exfalso
      have hs := spot_none7 h1
      have e : x.add k = ⟨t, (x.add k).off, none⟩ := by
        cases hx : x.add k
        rw [hx] at hb hs
        simp at hb hs
        rw [hb, hs]
      rw [e, Lib.cell_of_heap ht] at h1
      match h2 : (x.add k).off, h1 with
      | 0, h1 => simp at h1
      | 1, h1 => simp at h1
      | 2, h1 => simp at h1
      | n + 3, h1 => simp at h1
    · rw [World.cell?_setCell_far _ _ _ _ (fun e => hb e.symm)]
      exact h1

theorem own_apR {w : World} {B n k b j : Nat} {e : TypeId} {v x : Value} {xs : List Value} (h : w.ownsRow B e k v n xs) (hne : v.ownBlock ≠ some b) : (w.setCell ⟨b, j, none⟩ x).ownsRow B e k v n xs := own_apD h hne

set_option maxHeartbeats 8000000 in
set_option maxRecDepth 100000 in
theorem rread7_any (u : Adr) (pv : Value) (w : World) (hp : PathAt w pv u.path) (hsm : Slim 20000 u) (hop2 : u.opq = true → (∃ p, u.path = [p]) ∧ u.hasHost = false) :
    Calls Tryz.prog 14 #[adrVal u pv] w (RrPost u w) := by
  have hsl : IsSl pv := by
    rcases hp with ⟨rfl, _⟩ | ⟨b, cap, rfl, _⟩
    · exact ⟨_, _, _, rfl⟩
    · exact ⟨_, _, _, rfl⟩
  obtain ⟨a0, n0, c0, rfl⟩ := hsl
  obtain ⟨SC, hSC⟩ : ∃ X : ByteArray, X = ⟨u.scheme.toArray⟩ := ⟨_, rfl⟩
  obtain ⟨QU, hQU⟩ : ∃ X : ByteArray, X = ⟨u.query.toArray⟩ := ⟨_, rfl⟩
  obtain ⟨op, hop⟩ : ∃ b, b = u.opq := ⟨_, rfl⟩
  obtain ⟨hq, hhq⟩ : ∃ b, b = u.hasQuery := ⟨_, rfl⟩
  obtain ⟨s1, s2, s3, b4, i5, s9, b11, hx⟩ : ∃ s1 s2 s3 b4 i5 s9 b11, adrCells u (.slice a0 n0 c0) = [.string SC, .string s1, .string s2, .string s3, .bool b4, .int .i64 i5, .bool op, .slice a0 n0 c0, .string QU, .string s9, .bool hq, .bool b11] := ⟨_, _, _, _, _, _, _, by rw [hSC, hQU, hop, hhq]; rfl⟩
  have hva : adrVal u (.slice a0 n0 c0) = .agg #[.string SC, .string s1, .string s2, .string s3, .bool b4, .int .i64 i5, .bool op, .slice a0 n0 c0, .string QU, .string s9, .bool hq, .bool b11] := by unfold adrVal; rw [hx]
  rw [hva]
  have hX : AdrIn (w.alloc (.cells #[.string SC, .string s1, .string s2, .string s3, .bool b4, .int .i64 i5, .bool op, .slice a0 n0 c0, .string QU, .string s9, .bool hq, .bool b11] 32)) w.heap.size u (.slice a0 n0 c0) := by
    have := heap_alloc_new w (.cells #[.string SC, .string s1, .string s2, .string s3, .bool b4, .int .i64 i5, .bool op, .slice a0 n0 c0, .string QU, .string s9, .bool hq, .bool b11] 32)
    unfold AdrIn
    rw [hx]
    exact this
  have hb1 : Below w.heap.size w (w.alloc (.cells #[.string SC, .string s1, .string s2, .string s3, .bool b4, .int .i64 i5, .bool op, .slice a0 n0 c0, .string QU, .string s9, .bool hq, .bool b11] 32)) := (Below.refl _ w).alloc (Nat.le_refl _) _
  have hz1 : (w.alloc (.cells #[.string SC, .string s1, .string s2, .string s3, .bool b4, .int .i64 i5, .bool op, .slice a0 n0 c0, .string QU, .string s9, .bool hq, .bool b11] 32)).heap.size = w.heap.size + 1 := by simp
  have hb2 : Below (w.alloc (.cells #[.string SC, .string s1, .string s2, .string s3, .bool b4, .int .i64 i5, .bool op, .slice a0 n0 c0, .string QU, .string s9, .bool hq, .bool b11] 32)).heap.size (w.alloc (.cells #[.string SC, .string s1, .string s2, .string s3, .bool b4, .int .i64 i5, .bool op, .slice a0 n0 c0, .string QU, .string s9, .bool hq, .bool b11] 32)) ((w.alloc (.cells #[.string SC, .string s1, .string s2, .string s3, .bool b4, .int .i64 i5, .bool op, .slice a0 n0 c0, .string QU, .string s9, .bool hq, .bool b11] 32)).alloc (.cells #[.string ⟨#[]⟩, .string ⟨#[]⟩, .slice none 0 0] 39)) := (Below.refl _ _).alloc (Nat.le_refl _) _
  have hT : TriR ((w.alloc (.cells #[.string SC, .string s1, .string s2, .string s3, .bool b4, .int .i64 i5, .bool op, .slice a0 n0 c0, .string QU, .string s9, .bool hq, .bool b11] 32)).alloc (.cells #[.string ⟨#[]⟩, .string ⟨#[]⟩, .slice none 0 0] 39)) (w.heap.size + 1) ⟨#[]⟩ ⟨#[]⟩ (.slice none 0 0) := by
    have := heap_alloc_new (w.alloc (.cells #[.string SC, .string s1, .string s2, .string s3, .bool b4, .int .i64 i5, .bool op, .slice a0 n0 c0, .string QU, .string s9, .bool hq, .bool b11] 32)) (.cells #[.string ⟨#[]⟩, .string ⟨#[]⟩, .slice none 0 0] 39)
    rw [hz1] at this
    exact this
  have hb3 := below2 hb1 hb2
  have hcs := adr_cells (hX.kept hb2)
  rw [hx] at hcs
  have y0 := hcs 0 _ rfl
  have y6 := hcs 6 _ rfl
  have y7 := hcs 7 _ rfl
  have y8 := hcs 8 _ rfl
  have y10 := hcs 10 _ rfl
  obtain ⟨t0, t1, t2⟩ := hT.cells
  have f0 := hT.frozen 0
  have f1 := hT.frozen 1
  have f2 := hT.frozen 2
  have HT0 := hid hT
  have HB0 := hid hb3
  have hD : isD u = ((SC.data.toList == dataB) && op) := by unfold isD; rw [hSC, hop]
  have HPa := hid (hp.kept hb3)
  have HPc : Hid (∀ p, u.path = [p] → ∃ pb pc, Value.slice a0 n0 c0 = .slice (some ⟨pb, 0, none⟩) 1 pc ∧ ((w.alloc (.cells #[.string SC, .string s1, .string s2, .string s3, .bool b4, .int .i64 i5, .bool op, .slice a0 n0 c0, .string QU, .string s9, .bool hq, .bool b11] 32)).alloc (.cells #[.string ⟨#[]⟩, .string ⟨#[]⟩, .slice none 0 0] 39)).cell? ⟨pb, 0, none⟩ = some (.string (ba p))) := fun p hpp => by
    have h := HPa.out
    rw [hpp] at h
    rcases h with ⟨_, h⟩ | ⟨b, cap, h1, _, _, _, h5⟩
    · cases h
    · refine ⟨b, cap, h1, ?_⟩
      have := h5 0 (by simp)
      simpa [ba] using this
  have HOp := hid hop
  have HHq := hid hhq
  have HQl := hid (show QU.data.toList = u.query by rw [hQU])
  have hql : QU.size ≤ 20000 := by rw [hQU, Lib.size_eq]; exact hsm.2.2.2.2.2.2.1
  clear hcs hT hb3 hb2 hb1 hX hz1 hx hva hp hSC hQU hop hhq HPa
  by_cases hs : SC = ⟨#[100, 97, 116, 97]⟩
  · subst hs
    cases op with
    | false =>
      have HO := hid (show rdO u = false by unfold rdO; rw [hD]; rfl)
      clear hD
      go_enter Tryz.func14, Tryz.ntmps14
      go_wp2_with fail
      refine bodyPost_ret (results_t3 rfl _ _ (w.heap.size + 1) ⟨#[]⟩ ⟨#[]⟩ (.slice none 0 0) rfl (by first | exact HT0.out.range | exact HT0.out.set.range)) rfl ⟨by first | exact HB0.out | exact ((HB0.out.setCell (p := ⟨w.heap.size + 1, 0, none⟩) (Nat.le_succ _) _).setCell (p := ⟨w.heap.size + 1, 1, none⟩) (Nat.le_succ _) _).setCell (p := ⟨w.heap.size + 1, 2, none⟩) (Nat.le_succ _) _, .inl ⟨HO.out, rfl⟩⟩
    | true =>
      have hd : isD u = true := by rw [hD]; decide
      obtain ⟨⟨p, hpp⟩, hhh⟩ := hop2 HOp.out.symm
      have htx := txt_isD hd hpp hhh
      obtain ⟨PB, hPB⟩ : ∃ X : ByteArray, ba p = X := ⟨_, rfl⟩
      have hpl : PB.size ≤ 20001 := by
        rw [← hPB, ba_size]
        have h1 := hsm.2.2.2.2.2.1
        have h2 := slL_flat u.path
        rw [hpp] at h1 h2
        simp at h2
        omega
      obtain ⟨pb, pc, hpe, hpc⟩ := HPc.out p hpp
      rw [hPB] at hpc
      injection hpe with e1 e2 e3
      subst e1 e2 e3
      cases hq with
      | false =>
        have hSBs : PB.size ≤ 50000 := by omega
        have hSBl : PB.data.toList = txtD u := by rw [← hPB, htx, ← HHq.out]; simp [ba]
        have hpl2 := part_le 44 (txtD u)
        rw [← hSBl, ← Lib.size_eq] at hpl2
        rw [hSBl] at hpl2
        have HPt : Hid (∀ w : World, Calls Tryz.prog 31 #[.string PB, .int .u8 44] w fun e w' => e = .returned (.tuple #[.string (ba (part 44 (txtD u)).1), .string (ba (part 44 (txtD u)).2.1), .bool (part 44 (txtD u)).2.2]) ∧ Below w.heap.size w w') := fun w => by
          have := rpart_any PB 44 w (by omega)
          rw [hSBl] at this
          exact this
        obtain ⟨K0, hK0⟩ : ∃ X, ba (part 44 (txtD u)).1 = X := ⟨_, rfl⟩
        obtain ⟨T0, hT0⟩ : ∃ X, ba (part 44 (txtD u)).2.1 = X := ⟨_, rfl⟩
        obtain ⟨ok0, hok0⟩ : ∃ X, (part 44 (txtD u)).2.2 = X := ⟨_, rfl⟩
        rw [hK0, hT0, hok0] at HPt
        have hK0s : K0.size ≤ 50000 := by rw [← hK0, ba_size]; omega
        have hT0s : T0.size ≤ 50000 := by rw [← hT0, ba_size]; omega
        have hK0l : K0.data.toList = (part 44 (txtD u)).1 := by rw [← hK0]; rfl
        have hT0l : T0.data.toList = (part 44 (txtD u)).2.1 := by rw [← hT0]; rfl
        clear hpl2 hK0 hT0 hSBl
        cases ok0 with
        | false =>
          have HO := hid (show rdO u = false by unfold rdO; rw [hd]; unfold cutO; rw [hok0]; rfl)
          clear hok0 hd htx hpp hhh hK0l hT0l
          go_enter Tryz.func14, Tryz.ntmps14
          go_wp2_with fail
          refine (HPt.out _).mono ?_
          rintro e wa ⟨rfl, hba⟩
          have HTa := hid (HT0.out.kept hba)
          have HBa := hid (below2 HB0.out hba)
          clear t0 t1 t2 f0 f1 f2 y0 y6 y7 y8 y10 hpc
          obtain ⟨t0, t1, t2⟩ := HTa.out.cells
          have f0 := HTa.out.frozen 0
          have f1 := HTa.out.frozen 1
          have f2 := HTa.out.frozen 2
          clear hba
          go_wp2_with fail
          refine bodyPost_ret (results_t3 rfl _ _ (w.heap.size + 1) ⟨#[]⟩ ⟨#[]⟩ (.slice none 0 0) rfl (by first | exact HTa.out.range | exact HTa.out.set.range)) rfl ⟨by first | exact HBa.out | exact ((HBa.out.setCell (p := ⟨w.heap.size + 1, 0, none⟩) (Nat.le_succ _) _).setCell (p := ⟨w.heap.size + 1, 1, none⟩) (Nat.le_succ _) _).setCell (p := ⟨w.heap.size + 1, 2, none⟩) (Nat.le_succ _) _, .inl ⟨HO.out, rfl⟩⟩
        | true =>
          have hcO : cutO (txtD u) = true := hok0
          obtain ⟨KS, hKS⟩ : ∃ X, ba (strip K0.data.toList) = X := ⟨_, rfl⟩
          obtain ⟨UB, hUB⟩ : ∃ X, ba (unpct T0.data.toList) = X := ⟨_, rfl⟩
          have hKSl : KS.data.toList = cutK (txtD u) := by rw [← hKS, hK0l]; rfl
          have hUBl : UB.data.toList = cutD (txtD u) := by rw [← hUB, hT0l]; rfl
          have hKSs : KS.size ≤ 50000 := by rw [← hKS, ba_size]; have := strip_le2 K0.data.toList; rw [← Lib.size_eq] at this; omega
          have hUBs : UB.size ≤ 50000 := by rw [← hUB, ba_size]; have := unpct_le2 T0.data.toList; rw [← Lib.size_eq] at this; omega
          have HSt : Hid (∀ w : World, Calls Tryz.prog 32 #[.string K0] w fun e w' => e = .returned (.string KS) ∧ w = w') := fun w => by rw [← hKS]; exact rstrip_any K0 w (by omega)
          have HUn : Hid (∀ w : World, Calls Tryz.prog 33 #[.string T0] w fun e w' => e = .returned (.string UB) ∧ Below w.heap.size w w') := fun w => by rw [← hUB]; exact runpercent_any T0 w (by omega)
          obtain ⟨LB, hLB⟩ : ∃ X, ba (low KS.data.toList) = X := ⟨_, rfl⟩
          have HLw : Hid (∀ w : World, Calls Tryz.prog 35 #[.string KS] w fun e w' => e = .returned (.string LB) ∧ Below w.heap.size w w') := fun w => by rw [← hLB]; exact rlower_any KS w (by omega)
          have hLBs : LB.size ≤ 50000 := by rw [← hLB, ba_size]; unfold low; rw [List.length_map, ← Lib.size_eq]; omega
          have HE6 : Hid (∀ w : World, Calls Tryz.prog 34 #[.string LB, .string ⟨#[98, 97, 115, 101, 54, 52]⟩] w fun e w' => e = .returned (.bool (ends6 KS.data.toList)) ∧ w = w') := fun w => by
            rw [← ends_low, show low KS.data.toList = LB.data.toList by rw [← hLB]; rfl]
            exact ends_any LB ⟨#[98, 97, 115, 101, 54, 52]⟩ w (by omega) (by decide)
          obtain ⟨e6, he6⟩ : ∃ b, ends6 KS.data.toList = b := ⟨_, rfl⟩
          rw [he6] at HE6
          have HRd := hid (show isD u = true ∧ cutO (txtD u) = true from ⟨hd, hcO⟩)
          clear hKS hUB hLB hK0l hT0l hok0 hcO hd htx hpp hhh
          go_enter Tryz.func14, Tryz.ntmps14
          go_wp2_with fail
          refine (HPt.out _).mono ?_
          rintro e wa ⟨rfl, hba⟩
          go_wp2_with fail
          refine (HSt.out _).mono ?_
          rintro e wq ⟨rfl, rfl⟩
          go_wp2_with fail
          refine (HUn.out _).mono ?_
          rintro e wb ⟨rfl, hbb⟩
          have hcv := run_bytes_of_string (P := Tryz.prog) wb 9 27 5 UB Tryz.underlying9 Tryz.underlying27 Tryz.underlying5
          have hcap := grownCap_ge wb UB.size 0 5
          have hr0 := rowIs_bytes wb 5 UB (grownCap wb UB.size 0 5) hcap
          have hbc : Below wb.heap.size wb (wb.drew.alloc (.cells (bytesRow UB (grownCap wb UB.size 0 5)) 5 ((bytesRow UB (grownCap wb UB.size 0 5)).size, (bytesRow UB (grownCap wb UB.size 0 5)).size + 1))) := (Below.refl _ wb).drew.alloc (Nat.le_refl _) _
          generalize (wb.drew.alloc (.cells (bytesRow UB (grownCap wb UB.size 0 5)) 5 ((bytesRow UB (grownCap wb UB.size 0 5)).size, (bytesRow UB (grownCap wb UB.size 0 5)).size + 1))) = wc at hcv hr0 hbc
          generalize grownCap wb UB.size 0 5 = cap at hcv hcap
          have hSc : SlB wc (.slice (some ⟨wb.heap.size, 0, none⟩) UB.size cap) UB.data.toList := .inr ⟨_, _, by rw [← Lib.size_eq], fun j hj => by have := hr0.cell j hj; rw [Addr.add_lit]; simpa using this⟩
          have HTc := hid (((HT0.out.kept hba).kept hbb).kept hbc)
          have HBc := hid (below2 (below2 (below2 HB0.out hba) hbb) hbc)
          have HSc := hid hSc
          clear hba hbb hbc hr0 hSc t0 t1 t2 f0 f1 f2 y0 y6 y7 y8 y10 hpc hcap
          go_wp2_with fail
          clear hcv
          refine (HLw.out _).mono ?_
          rintro e wd ⟨rfl, hbd⟩
          have HTx := hid (HTc.out.kept hbd)
          have HBx := hid (below2 HBc.out hbd)
          have HSx := hid (HSc.out.kept hbd)
          obtain ⟨t0, t1, t2⟩ := HTx.out.cells
          have f0 := HTx.out.frozen 0
          have f1 := HTx.out.frozen 1
          have f2 := HTx.out.frozen 2
          clear hbd
          go_wp2_with fail
          refine (HE6.out _).mono ?_
          rintro e wq ⟨rfl, rfl⟩
          cases e6 with
          | false =>
            have him : isM KS.data.toList = false := by unfold isM; rw [he6]; rfl
            have HK := hid (show rdK u = comK KS.data.toList by unfold rdK unK; rw [← hKSl, him]; rfl)
            have HB := hid (show rdB u = UB.data.toList by unfold rdB unB; rw [← hKSl, him, hUBl]; rfl)
            have HO := hid (show rdO u = true by unfold rdO unO; rw [HRd.out.1, HRd.out.2, ← hKSl, him]; rfl)
            clear him he6 hKSl hUBl
            have HLt := hid (show w.heap.size + 1 < _ from HTx.out.lt)
            have HBg := hid (fun w : World => begins_any KS ⟨#[59]⟩ w (by omega) (by decide))
            rw [show (⟨#[59]⟩ : ByteArray).data.toList = [59] from rfl] at HBg
            obtain ⟨bg, hbg⟩ : ∃ b, Lib.hasPrefix KS.data.toList [59] = b := ⟨_, rfl⟩
            rw [hbg] at HBg
            cases bg with
            | false =>
              have HKc := hid (show rdK u = KS.data.toList by rw [HK.out]; unfold comK; rw [hbg]; rfl)
              have HPr := hid (fun w => rparse6_any KS w (by omega))
              clear hbg
              go_wp2_with fail
              refine (HBg.out _).mono ?_
              rintro e wq ⟨rfl, rfl⟩
              go_wp2_with fail
              refine (HPr.out _).mono ?_
              rintro e wz ⟨v, rfl, hown, hbz⟩
              unfold knVal
              obtain ⟨x1, x2, x3, rfl⟩ := own_slice hown
              have HBz := hid (below2 HBx.out hbz)
              have HTz := hid (HTx.out.kept hbz)
              have HSz := hid (HSx.out.kept hbz)
              have HOw := hid hown
              clear hbz hown
              obtain ⟨kok, hkok⟩ : ∃ b, knOk KS.data.toList = b := ⟨_, rfl⟩
              rw [hkok]
              obtain ⟨M1, hM1⟩ : ∃ A, ba (knV KS.data.toList).major = A := ⟨_, rfl⟩
              obtain ⟨M2, hM2⟩ : ∃ A, ba (knV KS.data.toList).minor = A := ⟨_, rfl⟩
              rw [hM1, hM2]
              have hb8 : Below wz.heap.size wz (wz.alloc (.cells #[.string M1, .string M2, .slice x1 x2 x3] 39)) := (Below.refl _ _).alloc (Nat.le_refl _) _
              have hz8 : (wz.alloc (.cells #[.string M1, .string M2, .slice x1 x2 x3] 39)).heap.size = wz.heap.size + 1 := by simp
              cases kok with
              | true =>
                have ht8 := HTz.out.kept hb8
                obtain ⟨t0, t1, t2⟩ := ht8.cells
                have f0 := ht8.frozen 0
                have f1 := ht8.frozen 1
                have f2 := ht8.frozen 2
                have HT8 := hid ht8
                have HB8 := hid (below2 HBz.out hb8)
                have HS8 := hid (HSz.out.kept hb8)
                have HTy := hid (show typV (rdK u) = knV KS.data.toList by rw [HKc.out]; unfold typV; rw [hkok]; rfl)
                have HO8 := hid (own_base (C := w.heap.size) (ownsRow_same HOw.out fun g hg => hb8.block g (HOw.out.lt g hg).2) (by have := HLt.out; omega))
                have HNe := hid (show (Value.slice x1 x2 x3).ownBlock ≠ some (w.heap.size + 1) from fun e => by have h1 := (HOw.out.lt _ e).1; have h2 := HLt.out; omega)
                have HM1 := hid hM1
                have HM2 := hid hM2
                clear hb8 hz8 ht8 hkok hM1 hM2
                go_wp2_with fail
                refine bodyPost_ret (results_t3 rfl _ _ (w.heap.size + 1) M1 M2 (.slice x1 x2 x3) rfl HT8.out.set.range) rfl ⟨?_, .inr ⟨HO.out, .slice x1 x2 x3, (.slice (some ⟨wb.heap.size, 0, none⟩) UB.size cap), ?_, ?_, ?_⟩⟩
                · exact ((HB8.out.setCell (p := ⟨w.heap.size + 1, 0, none⟩) (Nat.le_succ _) _).setCell (p := ⟨w.heap.size + 1, 1, none⟩) (Nat.le_succ _) _).setCell (p := ⟨w.heap.size + 1, 2, none⟩) (Nat.le_succ _) _
                · rw [HTy.out, HM1.out, HM2.out]; rfl
                · rw [HTy.out]; exact own_apR (own_apR (own_apR HO8.out HNe.out) HNe.out) HNe.out
                · rw [HB.out]
                  have q1 := HS8.out.tri (j := 0) (y := .string M1) HT8.out
                  have r1 : TriR ((wz.alloc (.cells #[.string M1, .string M2, .slice x1 x2 x3] 39)).setCell ⟨w.heap.size + 1, 0, none⟩ (.string M1)) (w.heap.size + 1) M1 ⟨#[]⟩ (.slice none 0 0) := Lib.heap_setCell_same HT8.out (i := 0) (.string M1)
                  have q2 := q1.tri (j := 1) (y := .string M2) r1
                  have r2 : TriR (((wz.alloc (.cells #[.string M1, .string M2, .slice x1 x2 x3] 39)).setCell ⟨w.heap.size + 1, 0, none⟩ (.string M1)).setCell ⟨w.heap.size + 1, 1, none⟩ (.string M2)) (w.heap.size + 1) M1 M2 (.slice none 0 0) := Lib.heap_setCell_same r1 (i := 1) (.string M2)
                  exact q2.tri r2
              | false =>
                have hz9 : (wz.alloc (.cells #[.string ⟨#[116, 101, 120, 116]⟩, .string ⟨#[112, 108, 97, 105, 110]⟩, .slice (some ⟨wz.heap.size + 1, 0, none⟩) 1 1] 39)).heap.size = wz.heap.size + 1 := by simp
                have h9 : ((wz.alloc (.cells #[.string ⟨#[116, 101, 120, 116]⟩, .string ⟨#[112, 108, 97, 105, 110]⟩, .slice (some ⟨wz.heap.size + 1, 0, none⟩) 1 1] 39)).alloc (.cells #[.string ⟨#[99, 104, 97, 114, 115, 101, 116]⟩, .string ⟨#[85, 83, 45, 65, 83, 67, 73, 73]⟩] 44)).heap[wz.heap.size + 1]? = some (.cells #[.string ⟨#[99, 104, 97, 114, 115, 101, 116]⟩, .string ⟨#[85, 83, 45, 65, 83, 67, 73, 73]⟩] 44 (0, 0)) := by
                  have := heap_alloc_new (wz.alloc (.cells #[.string ⟨#[116, 101, 120, 116]⟩, .string ⟨#[112, 108, 97, 105, 110]⟩, .slice (some ⟨wz.heap.size + 1, 0, none⟩) 1 1] 39)) (.cells #[.string ⟨#[99, 104, 97, 114, 115, 101, 116]⟩, .string ⟨#[85, 83, 45, 65, 83, 67, 73, 73]⟩] 44)
                  rw [hz9] at this
                  exact this
                have hb9 : Below wz.heap.size wz ((wz.alloc (.cells #[.string ⟨#[116, 101, 120, 116]⟩, .string ⟨#[112, 108, 97, 105, 110]⟩, .slice (some ⟨wz.heap.size + 1, 0, none⟩) 1 1] 39)).alloc (.cells #[.string ⟨#[99, 104, 97, 114, 115, 101, 116]⟩, .string ⟨#[85, 83, 45, 65, 83, 67, 73, 73]⟩] 44)) := below2 ((Below.refl _ wz).alloc (Nat.le_refl _) _) ((Below.refl _ _).alloc (Nat.le_refl _) _)
                have ht9 := HTz.out.kept hb9
                obtain ⟨t0', t1', t2'⟩ := ht9.cells
                have f0' := ht9.frozen 0
                have f1' := ht9.frozen 1
                have f2' := ht9.frozen 2
                have HT9 := hid ht9
                have HB9 := hid (below2 HBz.out hb9)
                have HS9 := hid (HSz.out.kept hb9)
                have H9 := hid h9
                have HLz := hid HTz.out.lt
                have HTy := hid (show typV (rdK u) = usual by rw [HKc.out]; unfold typV; rw [hkok]; rfl)
                clear hb8 hz8 hkok hM1 hM2 hz9 h9 hb9 ht9 t0 t1 t2 f0 f1 f2
                go_wp2_with fail
                refine bodyPost_ret (results_t3 rfl _ _ (w.heap.size + 1) ⟨#[116, 101, 120, 116]⟩ ⟨#[112, 108, 97, 105, 110]⟩ (.slice (some ⟨wz.heap.size + 1, 0, none⟩) 1 1) rfl HT9.out.set.range) rfl ⟨?_, .inr ⟨HO.out, .slice (some ⟨wz.heap.size + 1, 0, none⟩) 1 1, (.slice (some ⟨wb.heap.size, 0, none⟩) UB.size cap), ?_, ?_, ?_⟩⟩
                · exact ((HB9.out.setCell (p := ⟨w.heap.size + 1, 0, none⟩) (Nat.le_succ _) _).setCell (p := ⟨w.heap.size + 1, 1, none⟩) (Nat.le_succ _) _).setCell (p := ⟨w.heap.size + 1, 2, none⟩) (Nat.le_succ _) _
                · rw [HTy.out]; rfl
                · rw [HTy.out]
                  have hlt : w.heap.size + 1 < wz.heap.size := HLz.out
                  have ho : ((wz.alloc (.cells #[.string ⟨#[116, 101, 120, 116]⟩, .string ⟨#[112, 108, 97, 105, 110]⟩, .slice (some ⟨wz.heap.size + 1, 0, none⟩) 1 1] 39)).alloc (.cells #[.string ⟨#[99, 104, 97, 114, 115, 101, 116]⟩, .string ⟨#[85, 83, 45, 65, 83, 67, 73, 73]⟩] 44)).ownsRow w.heap.size 44 2 (.slice (some ⟨wz.heap.size + 1, 0, none⟩) 1 1) usual.params.length (cellsH usual.params) :=
                    ⟨by decide, .inr ⟨wz.heap.size + 1, 1, _, rfl, by omega, H9.out, by decide, by decide, by decide, rfl⟩⟩
                  exact own_apR (own_apR (own_apR ho (by simp [Value.ownBlock]; omega)) (by simp [Value.ownBlock]; omega)) (by simp [Value.ownBlock]; omega)
                · rw [HB.out]
                  have q1 := HS9.out.tri (j := 0) (y := .string ⟨#[116, 101, 120, 116]⟩) HT9.out
                  have r1 : TriR (((wz.alloc (.cells #[.string ⟨#[116, 101, 120, 116]⟩, .string ⟨#[112, 108, 97, 105, 110]⟩, .slice (some ⟨wz.heap.size + 1, 0, none⟩) 1 1] 39)).alloc (.cells #[.string ⟨#[99, 104, 97, 114, 115, 101, 116]⟩, .string ⟨#[85, 83, 45, 65, 83, 67, 73, 73]⟩] 44)).setCell ⟨w.heap.size + 1, 0, none⟩ (.string ⟨#[116, 101, 120, 116]⟩)) (w.heap.size + 1) ⟨#[116, 101, 120, 116]⟩ ⟨#[]⟩ (.slice none 0 0) := Lib.heap_setCell_same HT9.out (i := 0) (.string ⟨#[116, 101, 120, 116]⟩)
                  have q2 := q1.tri (j := 1) (y := .string ⟨#[112, 108, 97, 105, 110]⟩) r1
                  have r2 : TriR ((((wz.alloc (.cells #[.string ⟨#[116, 101, 120, 116]⟩, .string ⟨#[112, 108, 97, 105, 110]⟩, .slice (some ⟨wz.heap.size + 1, 0, none⟩) 1 1] 39)).alloc (.cells #[.string ⟨#[99, 104, 97, 114, 115, 101, 116]⟩, .string ⟨#[85, 83, 45, 65, 83, 67, 73, 73]⟩] 44)).setCell ⟨w.heap.size + 1, 0, none⟩ (.string ⟨#[116, 101, 120, 116]⟩)).setCell ⟨w.heap.size + 1, 1, none⟩ (.string ⟨#[112, 108, 97, 105, 110]⟩)) (w.heap.size + 1) ⟨#[116, 101, 120, 116]⟩ ⟨#[112, 108, 97, 105, 110]⟩ (.slice none 0 0) := Lib.heap_setCell_same r1 (i := 1) (.string ⟨#[112, 108, 97, 105, 110]⟩)
                  exact q2.tri r2
            | true =>
              obtain ⟨KC, hKC⟩ : ∃ X : ByteArray, ⟨#[116, 101, 120, 116, 47, 112, 108, 97, 105, 110]⟩ ++ KS = X := ⟨_, rfl⟩
              have hKl : KC.data.toList = tplB ++ KS.data.toList := by rw [← hKC]; simp [tplB]
              have HKc := hid (show rdK u = KC.data.toList by rw [HK.out, hKl]; unfold comK; rw [hbg]; rfl)
              have hKCs : KC.size ≤ 500000 := by rw [Lib.size_eq, hKl, List.length_append, ← Lib.size_eq]; show 10 + _ ≤ _; omega
              have HPr := hid (fun w => rparse6_any KC w (by omega))
              clear hbg hKl
              go_wp2_with fail
              refine (HBg.out _).mono ?_
              rintro e wq ⟨rfl, rfl⟩
              go_wp2_with fail
              refine (HPr.out _).mono ?_
              rintro e wz ⟨v, rfl, hown, hbz⟩
              unfold knVal
              obtain ⟨x1, x2, x3, rfl⟩ := own_slice hown
              have HBz := hid (below2 HBx.out hbz)
              have HTz := hid (HTx.out.kept hbz)
              have HSz := hid (HSx.out.kept hbz)
              have HOw := hid hown
              clear hbz hown
              obtain ⟨kok, hkok⟩ : ∃ b, knOk KC.data.toList = b := ⟨_, rfl⟩
              rw [hkok]
              obtain ⟨M1, hM1⟩ : ∃ A, ba (knV KC.data.toList).major = A := ⟨_, rfl⟩
              obtain ⟨M2, hM2⟩ : ∃ A, ba (knV KC.data.toList).minor = A := ⟨_, rfl⟩
              rw [hM1, hM2]
              have hb8 : Below wz.heap.size wz (wz.alloc (.cells #[.string M1, .string M2, .slice x1 x2 x3] 39)) := (Below.refl _ _).alloc (Nat.le_refl _) _
              have hz8 : (wz.alloc (.cells #[.string M1, .string M2, .slice x1 x2 x3] 39)).heap.size = wz.heap.size + 1 := by simp
              cases kok with
              | true =>
                have ht8 := HTz.out.kept hb8
                obtain ⟨t0, t1, t2⟩ := ht8.cells
                have f0 := ht8.frozen 0
                have f1 := ht8.frozen 1
                have f2 := ht8.frozen 2
                have HT8 := hid ht8
                have HB8 := hid (below2 HBz.out hb8)
                have HS8 := hid (HSz.out.kept hb8)
                have HTy := hid (show typV (rdK u) = knV KC.data.toList by rw [HKc.out]; unfold typV; rw [hkok]; rfl)
                have HO8 := hid (own_base (C := w.heap.size) (ownsRow_same HOw.out fun g hg => hb8.block g (HOw.out.lt g hg).2) (by have := HLt.out; omega))
                have HNe := hid (show (Value.slice x1 x2 x3).ownBlock ≠ some (w.heap.size + 1) from fun e => by have h1 := (HOw.out.lt _ e).1; have h2 := HLt.out; omega)
                have HM1 := hid hM1
                have HM2 := hid hM2
                clear hb8 hz8 ht8 hkok hM1 hM2
                go_wp2_with fail
                refine bodyPost_ret (results_t3 rfl _ _ (w.heap.size + 1) M1 M2 (.slice x1 x2 x3) rfl HT8.out.set.range) rfl ⟨?_, .inr ⟨HO.out, .slice x1 x2 x3, (.slice (some ⟨wb.heap.size, 0, none⟩) UB.size cap), ?_, ?_, ?_⟩⟩
                · exact ((HB8.out.setCell (p := ⟨w.heap.size + 1, 0, none⟩) (Nat.le_succ _) _).setCell (p := ⟨w.heap.size + 1, 1, none⟩) (Nat.le_succ _) _).setCell (p := ⟨w.heap.size + 1, 2, none⟩) (Nat.le_succ _) _
                · rw [HTy.out, HM1.out, HM2.out]; rfl
                · rw [HTy.out]; exact own_apR (own_apR (own_apR HO8.out HNe.out) HNe.out) HNe.out
                · rw [HB.out]
                  have q1 := HS8.out.tri (j := 0) (y := .string M1) HT8.out
                  have r1 : TriR ((wz.alloc (.cells #[.string M1, .string M2, .slice x1 x2 x3] 39)).setCell ⟨w.heap.size + 1, 0, none⟩ (.string M1)) (w.heap.size + 1) M1 ⟨#[]⟩ (.slice none 0 0) := Lib.heap_setCell_same HT8.out (i := 0) (.string M1)
                  have q2 := q1.tri (j := 1) (y := .string M2) r1
                  have r2 : TriR (((wz.alloc (.cells #[.string M1, .string M2, .slice x1 x2 x3] 39)).setCell ⟨w.heap.size + 1, 0, none⟩ (.string M1)).setCell ⟨w.heap.size + 1, 1, none⟩ (.string M2)) (w.heap.size + 1) M1 M2 (.slice none 0 0) := Lib.heap_setCell_same r1 (i := 1) (.string M2)
                  exact q2.tri r2
              | false =>
                have hz9 : (wz.alloc (.cells #[.string ⟨#[116, 101, 120, 116]⟩, .string ⟨#[112, 108, 97, 105, 110]⟩, .slice (some ⟨wz.heap.size + 1, 0, none⟩) 1 1] 39)).heap.size = wz.heap.size + 1 := by simp
                have h9 : ((wz.alloc (.cells #[.string ⟨#[116, 101, 120, 116]⟩, .string ⟨#[112, 108, 97, 105, 110]⟩, .slice (some ⟨wz.heap.size + 1, 0, none⟩) 1 1] 39)).alloc (.cells #[.string ⟨#[99, 104, 97, 114, 115, 101, 116]⟩, .string ⟨#[85, 83, 45, 65, 83, 67, 73, 73]⟩] 44)).heap[wz.heap.size + 1]? = some (.cells #[.string ⟨#[99, 104, 97, 114, 115, 101, 116]⟩, .string ⟨#[85, 83, 45, 65, 83, 67, 73, 73]⟩] 44 (0, 0)) := by
                  have := heap_alloc_new (wz.alloc (.cells #[.string ⟨#[116, 101, 120, 116]⟩, .string ⟨#[112, 108, 97, 105, 110]⟩, .slice (some ⟨wz.heap.size + 1, 0, none⟩) 1 1] 39)) (.cells #[.string ⟨#[99, 104, 97, 114, 115, 101, 116]⟩, .string ⟨#[85, 83, 45, 65, 83, 67, 73, 73]⟩] 44)
                  rw [hz9] at this
                  exact this
                have hb9 : Below wz.heap.size wz ((wz.alloc (.cells #[.string ⟨#[116, 101, 120, 116]⟩, .string ⟨#[112, 108, 97, 105, 110]⟩, .slice (some ⟨wz.heap.size + 1, 0, none⟩) 1 1] 39)).alloc (.cells #[.string ⟨#[99, 104, 97, 114, 115, 101, 116]⟩, .string ⟨#[85, 83, 45, 65, 83, 67, 73, 73]⟩] 44)) := below2 ((Below.refl _ wz).alloc (Nat.le_refl _) _) ((Below.refl _ _).alloc (Nat.le_refl _) _)
                have ht9 := HTz.out.kept hb9
                obtain ⟨t0', t1', t2'⟩ := ht9.cells
                have f0' := ht9.frozen 0
                have f1' := ht9.frozen 1
                have f2' := ht9.frozen 2
                have HT9 := hid ht9
                have HB9 := hid (below2 HBz.out hb9)
                have HS9 := hid (HSz.out.kept hb9)
                have H9 := hid h9
                have HLz := hid HTz.out.lt
                have HTy := hid (show typV (rdK u) = usual by rw [HKc.out]; unfold typV; rw [hkok]; rfl)
                clear hb8 hz8 hkok hM1 hM2 hz9 h9 hb9 ht9 t0 t1 t2 f0 f1 f2
                go_wp2_with fail
                refine bodyPost_ret (results_t3 rfl _ _ (w.heap.size + 1) ⟨#[116, 101, 120, 116]⟩ ⟨#[112, 108, 97, 105, 110]⟩ (.slice (some ⟨wz.heap.size + 1, 0, none⟩) 1 1) rfl HT9.out.set.range) rfl ⟨?_, .inr ⟨HO.out, .slice (some ⟨wz.heap.size + 1, 0, none⟩) 1 1, (.slice (some ⟨wb.heap.size, 0, none⟩) UB.size cap), ?_, ?_, ?_⟩⟩
                · exact ((HB9.out.setCell (p := ⟨w.heap.size + 1, 0, none⟩) (Nat.le_succ _) _).setCell (p := ⟨w.heap.size + 1, 1, none⟩) (Nat.le_succ _) _).setCell (p := ⟨w.heap.size + 1, 2, none⟩) (Nat.le_succ _) _
                · rw [HTy.out]; rfl
                · rw [HTy.out]
                  have hlt : w.heap.size + 1 < wz.heap.size := HLz.out
                  have ho : ((wz.alloc (.cells #[.string ⟨#[116, 101, 120, 116]⟩, .string ⟨#[112, 108, 97, 105, 110]⟩, .slice (some ⟨wz.heap.size + 1, 0, none⟩) 1 1] 39)).alloc (.cells #[.string ⟨#[99, 104, 97, 114, 115, 101, 116]⟩, .string ⟨#[85, 83, 45, 65, 83, 67, 73, 73]⟩] 44)).ownsRow w.heap.size 44 2 (.slice (some ⟨wz.heap.size + 1, 0, none⟩) 1 1) usual.params.length (cellsH usual.params) :=
                    ⟨by decide, .inr ⟨wz.heap.size + 1, 1, _, rfl, by omega, H9.out, by decide, by decide, by decide, rfl⟩⟩
                  exact own_apR (own_apR (own_apR ho (by simp [Value.ownBlock]; omega)) (by simp [Value.ownBlock]; omega)) (by simp [Value.ownBlock]; omega)
                · rw [HB.out]
                  have q1 := HS9.out.tri (j := 0) (y := .string ⟨#[116, 101, 120, 116]⟩) HT9.out
                  have r1 : TriR (((wz.alloc (.cells #[.string ⟨#[116, 101, 120, 116]⟩, .string ⟨#[112, 108, 97, 105, 110]⟩, .slice (some ⟨wz.heap.size + 1, 0, none⟩) 1 1] 39)).alloc (.cells #[.string ⟨#[99, 104, 97, 114, 115, 101, 116]⟩, .string ⟨#[85, 83, 45, 65, 83, 67, 73, 73]⟩] 44)).setCell ⟨w.heap.size + 1, 0, none⟩ (.string ⟨#[116, 101, 120, 116]⟩)) (w.heap.size + 1) ⟨#[116, 101, 120, 116]⟩ ⟨#[]⟩ (.slice none 0 0) := Lib.heap_setCell_same HT9.out (i := 0) (.string ⟨#[116, 101, 120, 116]⟩)
                  have q2 := q1.tri (j := 1) (y := .string ⟨#[112, 108, 97, 105, 110]⟩) r1
                  have r2 : TriR ((((wz.alloc (.cells #[.string ⟨#[116, 101, 120, 116]⟩, .string ⟨#[112, 108, 97, 105, 110]⟩, .slice (some ⟨wz.heap.size + 1, 0, none⟩) 1 1] 39)).alloc (.cells #[.string ⟨#[99, 104, 97, 114, 115, 101, 116]⟩, .string ⟨#[85, 83, 45, 65, 83, 67, 73, 73]⟩] 44)).setCell ⟨w.heap.size + 1, 0, none⟩ (.string ⟨#[116, 101, 120, 116]⟩)).setCell ⟨w.heap.size + 1, 1, none⟩ (.string ⟨#[112, 108, 97, 105, 110]⟩)) (w.heap.size + 1) ⟨#[116, 101, 120, 116]⟩ ⟨#[112, 108, 97, 105, 110]⟩ (.slice none 0 0) := Lib.heap_setCell_same r1 (i := 1) (.string ⟨#[112, 108, 97, 105, 110]⟩)
                  exact q2.tri r2
          | true =>
            have h6 : 6 ≤ KS.size := by
              unfold ends6 at he6
              simp only [Bool.and_eq_true, decide_eq_true_eq] at he6
              rw [Lib.size_eq]; exact he6.1
            obtain ⟨n, hn⟩ : ∃ n, KS.size = n + 6 := ⟨KS.size - 6, by omega⟩
            have hni : (KS.size : Int) - 6 = (n : Int) := by omega
            obtain ⟨X0, hX0⟩ : ∃ X, KS.extract 0 n = X := ⟨_, rfl⟩
            have hX0l : noBl X0.data.toList = ahead6 KS.data.toList := by
              unfold ahead6
              rw [← hX0, show KS.data.toList.length - 6 = n by rw [← Lib.size_eq]; omega]
              congr 1
              simp
            have hX0s : X0.size ≤ 50000 := by rw [← hX0, ByteArray.size_extract]; omega
            have hX0n : X0.size ≤ n := by rw [← hX0, ByteArray.size_extract]; omega
            have HX0 := hid hX0l
            obtain ⟨A6, hA6⟩ : ∃ A, ahead6 KS.data.toList = A := ⟨_, rfl⟩
            rw [hA6] at HX0
            have HE6' := hid he6
            have HA6 := hid hA6
            have HKl := hid hKSl
            have HUl := hid hUBl
            clear hX0l hA6 he6 hKSl hUBl
            go_wp2_with fail
            go_loop [10] (fun o => ∃ X : ByteArray, o = .string X ∧ noBl X.data.toList = A6 ∧ X.size ≤ 50000) (fun o => szV o)
            case atStart => exact ⟨X0, rfl, HX0.out, hX0s⟩
            case round =>
              obtain ⟨X, rfl, hXA, hXs⟩ := hrel
              have HXA := hid hXA
              clear hXA
              by_cases hx0 : 0 < X.size
              · obtain ⟨m, hm⟩ : ∃ m, X.size = m + 1 := ⟨X.size - 1, by omega⟩
                have hml : m < X.size := by omega
                have HSp := hid (show X.data.toList = (X.extract 0 m).data.toList ++ [X[m]] by
                  have h1 := last_split X hx0
                  have e : X.size - 1 = m := by omega
                  simp only [e] at h1
                  exact h1)
                have hmi : (X.size : Int) - 1 = (m : Int) := by omega
                have hx0' : (0 : Int) < (X.size : Int) := by omega
                have hb8 := X[m].toNat_lt
                by_cases hc : X[m] = 32
                · have hcc : ((X[m].toNat : Int) == 32) = true := by rw [hc]; decide
                  have HR := hid (show noBl (X.extract 0 m).data.toList = A6 by rw [← HXA.out, HSp.out, hc, noBl_blank])
                  have HZ := hid (show (X.extract 0 m).size = m by rw [ByteArray.size_extract]; omega)
                  clear hc
                  go_wp2_with fail
                  go_round
                  case rel => exact ⟨X.extract 0 m, rfl, HR.out, by rw [HZ.out]; omega⟩
                  case measure => show (X.extract 0 m).size < X.size; rw [HZ.out]; exact hml
                · have hcc : ((X[m].toNat : Int) == 32) = false := by
                    rw [beq_eq_false_iff_ne]
                    intro e
                    exact hc (UInt8.toNat_inj.1 (by have : (32 : UInt8).toNat = 32 := rfl; omega))
                  have HXl := hid (show X.data.toList = A6 by rw [← HXA.out]; conv => rhs; rw [HSp.out, noBl_other _ _ hc]; rw [← HSp.out])
                  have HKO := hid (show (X.extract 0 m).data.toList = A6.take (A6.length - 1) by
                    have e := HSp.out
                    rw [← HXl.out, e]
                    exact (take_butlast _ _).symm)
                  clear hc
                  have HEs := hid (fun w : World => ends_any X ⟨#[59]⟩ w (by omega) (by decide))
                  rw [show (⟨#[59]⟩ : ByteArray).data.toList = [59] from rfl, HXl.out] at HEs
                  obtain ⟨sf, hsf⟩ : ∃ b, Lib.hasSuffix A6 [59] = b := ⟨_, rfl⟩
                  cases sf with
                  | false =>
                    have him : isM KS.data.toList = false := by unfold isM; rw [HE6'.out, HA6.out, hsf]; rfl
                    have HK := hid (show rdK u = comK KS.data.toList by unfold rdK unK; rw [← HKl.out, him]; rfl)
                    have HB := hid (show rdB u = UB.data.toList by unfold rdB unB; rw [← HKl.out, him, HUl.out]; rfl)
                    have HO := hid (show rdO u = true by unfold rdO unO; rw [HRd.out.1, HRd.out.2, ← HKl.out, him]; rfl)
                    rw [hsf] at HEs
                    clear him hsf
                    go_wp2_with fail
                    refine (HEs.out _).mono ?_
                    rintro e wq ⟨rfl, rfl⟩
                    have HLt := hid (show w.heap.size + 1 < _ from HTx.out.lt)
                    have HBg := hid (fun w : World => begins_any KS ⟨#[59]⟩ w (by omega) (by decide))
                    rw [show (⟨#[59]⟩ : ByteArray).data.toList = [59] from rfl] at HBg
                    obtain ⟨bg, hbg⟩ : ∃ b, Lib.hasPrefix KS.data.toList [59] = b := ⟨_, rfl⟩
                    rw [hbg] at HBg
                    cases bg with
                    | false =>
                      have HKc := hid (show rdK u = KS.data.toList by rw [HK.out]; unfold comK; rw [hbg]; rfl)
                      have HPr := hid (fun w => rparse6_any KS w (by omega))
                      clear hbg
                      go_wp2_with fail
                      refine (HBg.out _).mono ?_
                      rintro e wq ⟨rfl, rfl⟩
                      go_wp2_with fail
                      refine (HPr.out _).mono ?_
                      rintro e wz ⟨v, rfl, hown, hbz⟩
                      unfold knVal
                      obtain ⟨x1, x2, x3, rfl⟩ := own_slice hown
                      have HBz := hid (below2 HBx.out hbz)
                      have HTz := hid (HTx.out.kept hbz)
                      have HSz := hid (HSx.out.kept hbz)
                      have HOw := hid hown
                      clear hbz hown
                      obtain ⟨kok, hkok⟩ : ∃ b, knOk KS.data.toList = b := ⟨_, rfl⟩
                      rw [hkok]
                      obtain ⟨M1, hM1⟩ : ∃ A, ba (knV KS.data.toList).major = A := ⟨_, rfl⟩
                      obtain ⟨M2, hM2⟩ : ∃ A, ba (knV KS.data.toList).minor = A := ⟨_, rfl⟩
                      rw [hM1, hM2]
                      have hb8 : Below wz.heap.size wz (wz.alloc (.cells #[.string M1, .string M2, .slice x1 x2 x3] 39)) := (Below.refl _ _).alloc (Nat.le_refl _) _
                      have hz8 : (wz.alloc (.cells #[.string M1, .string M2, .slice x1 x2 x3] 39)).heap.size = wz.heap.size + 1 := by simp
                      cases kok with
                      | true =>
                        have ht8 := HTz.out.kept hb8
                        obtain ⟨t0, t1, t2⟩ := ht8.cells
                        have f0 := ht8.frozen 0
                        have f1 := ht8.frozen 1
                        have f2 := ht8.frozen 2
                        have HT8 := hid ht8
                        have HB8 := hid (below2 HBz.out hb8)
                        have HS8 := hid (HSz.out.kept hb8)
                        have HTy := hid (show typV (rdK u) = knV KS.data.toList by rw [HKc.out]; unfold typV; rw [hkok]; rfl)
                        have HO8 := hid (own_base (C := w.heap.size) (ownsRow_same HOw.out fun g hg => hb8.block g (HOw.out.lt g hg).2) (by have := HLt.out; omega))
                        have HNe := hid (show (Value.slice x1 x2 x3).ownBlock ≠ some (w.heap.size + 1) from fun e => by have h1 := (HOw.out.lt _ e).1; have h2 := HLt.out; omega)
                        have HM1 := hid hM1
                        have HM2 := hid hM2
                        clear hb8 hz8 ht8 hkok hM1 hM2
                        go_wp2_with fail
                        refine bodyPost_ret (results_t3 rfl _ _ (w.heap.size + 1) M1 M2 (.slice x1 x2 x3) rfl HT8.out.set.range) rfl ⟨?_, .inr ⟨HO.out, .slice x1 x2 x3, (.slice (some ⟨wb.heap.size, 0, none⟩) UB.size cap), ?_, ?_, ?_⟩⟩
                        · exact ((HB8.out.setCell (p := ⟨w.heap.size + 1, 0, none⟩) (Nat.le_succ _) _).setCell (p := ⟨w.heap.size + 1, 1, none⟩) (Nat.le_succ _) _).setCell (p := ⟨w.heap.size + 1, 2, none⟩) (Nat.le_succ _) _
                        · rw [HTy.out, HM1.out, HM2.out]; rfl
                        · rw [HTy.out]; exact own_apR (own_apR (own_apR HO8.out HNe.out) HNe.out) HNe.out
                        · rw [HB.out]
                          have q1 := HS8.out.tri (j := 0) (y := .string M1) HT8.out
                          have r1 : TriR ((wz.alloc (.cells #[.string M1, .string M2, .slice x1 x2 x3] 39)).setCell ⟨w.heap.size + 1, 0, none⟩ (.string M1)) (w.heap.size + 1) M1 ⟨#[]⟩ (.slice none 0 0) := Lib.heap_setCell_same HT8.out (i := 0) (.string M1)
                          have q2 := q1.tri (j := 1) (y := .string M2) r1
                          have r2 : TriR (((wz.alloc (.cells #[.string M1, .string M2, .slice x1 x2 x3] 39)).setCell ⟨w.heap.size + 1, 0, none⟩ (.string M1)).setCell ⟨w.heap.size + 1, 1, none⟩ (.string M2)) (w.heap.size + 1) M1 M2 (.slice none 0 0) := Lib.heap_setCell_same r1 (i := 1) (.string M2)
                          exact q2.tri r2
                      | false =>
                        have hz9 : (wz.alloc (.cells #[.string ⟨#[116, 101, 120, 116]⟩, .string ⟨#[112, 108, 97, 105, 110]⟩, .slice (some ⟨wz.heap.size + 1, 0, none⟩) 1 1] 39)).heap.size = wz.heap.size + 1 := by simp
                        have h9 : ((wz.alloc (.cells #[.string ⟨#[116, 101, 120, 116]⟩, .string ⟨#[112, 108, 97, 105, 110]⟩, .slice (some ⟨wz.heap.size + 1, 0, none⟩) 1 1] 39)).alloc (.cells #[.string ⟨#[99, 104, 97, 114, 115, 101, 116]⟩, .string ⟨#[85, 83, 45, 65, 83, 67, 73, 73]⟩] 44)).heap[wz.heap.size + 1]? = some (.cells #[.string ⟨#[99, 104, 97, 114, 115, 101, 116]⟩, .string ⟨#[85, 83, 45, 65, 83, 67, 73, 73]⟩] 44 (0, 0)) := by
                          have := heap_alloc_new (wz.alloc (.cells #[.string ⟨#[116, 101, 120, 116]⟩, .string ⟨#[112, 108, 97, 105, 110]⟩, .slice (some ⟨wz.heap.size + 1, 0, none⟩) 1 1] 39)) (.cells #[.string ⟨#[99, 104, 97, 114, 115, 101, 116]⟩, .string ⟨#[85, 83, 45, 65, 83, 67, 73, 73]⟩] 44)
                          rw [hz9] at this
                          exact this
                        have hb9 : Below wz.heap.size wz ((wz.alloc (.cells #[.string ⟨#[116, 101, 120, 116]⟩, .string ⟨#[112, 108, 97, 105, 110]⟩, .slice (some ⟨wz.heap.size + 1, 0, none⟩) 1 1] 39)).alloc (.cells #[.string ⟨#[99, 104, 97, 114, 115, 101, 116]⟩, .string ⟨#[85, 83, 45, 65, 83, 67, 73, 73]⟩] 44)) := below2 ((Below.refl _ wz).alloc (Nat.le_refl _) _) ((Below.refl _ _).alloc (Nat.le_refl _) _)
                        have ht9 := HTz.out.kept hb9
                        obtain ⟨t0', t1', t2'⟩ := ht9.cells
                        have f0' := ht9.frozen 0
                        have f1' := ht9.frozen 1
                        have f2' := ht9.frozen 2
                        have HT9 := hid ht9
                        have HB9 := hid (below2 HBz.out hb9)
                        have HS9 := hid (HSz.out.kept hb9)
                        have H9 := hid h9
                        have HLz := hid HTz.out.lt
                        have HTy := hid (show typV (rdK u) = usual by rw [HKc.out]; unfold typV; rw [hkok]; rfl)
                        clear hb8 hz8 hkok hM1 hM2 hz9 h9 hb9 ht9 t0 t1 t2 f0 f1 f2
                        go_wp2_with fail
                        refine bodyPost_ret (results_t3 rfl _ _ (w.heap.size + 1) ⟨#[116, 101, 120, 116]⟩ ⟨#[112, 108, 97, 105, 110]⟩ (.slice (some ⟨wz.heap.size + 1, 0, none⟩) 1 1) rfl HT9.out.set.range) rfl ⟨?_, .inr ⟨HO.out, .slice (some ⟨wz.heap.size + 1, 0, none⟩) 1 1, (.slice (some ⟨wb.heap.size, 0, none⟩) UB.size cap), ?_, ?_, ?_⟩⟩
                        · exact ((HB9.out.setCell (p := ⟨w.heap.size + 1, 0, none⟩) (Nat.le_succ _) _).setCell (p := ⟨w.heap.size + 1, 1, none⟩) (Nat.le_succ _) _).setCell (p := ⟨w.heap.size + 1, 2, none⟩) (Nat.le_succ _) _
                        · rw [HTy.out]; rfl
                        · rw [HTy.out]
                          have hlt : w.heap.size + 1 < wz.heap.size := HLz.out
                          have ho : ((wz.alloc (.cells #[.string ⟨#[116, 101, 120, 116]⟩, .string ⟨#[112, 108, 97, 105, 110]⟩, .slice (some ⟨wz.heap.size + 1, 0, none⟩) 1 1] 39)).alloc (.cells #[.string ⟨#[99, 104, 97, 114, 115, 101, 116]⟩, .string ⟨#[85, 83, 45, 65, 83, 67, 73, 73]⟩] 44)).ownsRow w.heap.size 44 2 (.slice (some ⟨wz.heap.size + 1, 0, none⟩) 1 1) usual.params.length (cellsH usual.params) :=
                            ⟨by decide, .inr ⟨wz.heap.size + 1, 1, _, rfl, by omega, H9.out, by decide, by decide, by decide, rfl⟩⟩
                          exact own_apR (own_apR (own_apR ho (by simp [Value.ownBlock]; omega)) (by simp [Value.ownBlock]; omega)) (by simp [Value.ownBlock]; omega)
                        · rw [HB.out]
                          have q1 := HS9.out.tri (j := 0) (y := .string ⟨#[116, 101, 120, 116]⟩) HT9.out
                          have r1 : TriR (((wz.alloc (.cells #[.string ⟨#[116, 101, 120, 116]⟩, .string ⟨#[112, 108, 97, 105, 110]⟩, .slice (some ⟨wz.heap.size + 1, 0, none⟩) 1 1] 39)).alloc (.cells #[.string ⟨#[99, 104, 97, 114, 115, 101, 116]⟩, .string ⟨#[85, 83, 45, 65, 83, 67, 73, 73]⟩] 44)).setCell ⟨w.heap.size + 1, 0, none⟩ (.string ⟨#[116, 101, 120, 116]⟩)) (w.heap.size + 1) ⟨#[116, 101, 120, 116]⟩ ⟨#[]⟩ (.slice none 0 0) := Lib.heap_setCell_same HT9.out (i := 0) (.string ⟨#[116, 101, 120, 116]⟩)
                          have q2 := q1.tri (j := 1) (y := .string ⟨#[112, 108, 97, 105, 110]⟩) r1
                          have r2 : TriR ((((wz.alloc (.cells #[.string ⟨#[116, 101, 120, 116]⟩, .string ⟨#[112, 108, 97, 105, 110]⟩, .slice (some ⟨wz.heap.size + 1, 0, none⟩) 1 1] 39)).alloc (.cells #[.string ⟨#[99, 104, 97, 114, 115, 101, 116]⟩, .string ⟨#[85, 83, 45, 65, 83, 67, 73, 73]⟩] 44)).setCell ⟨w.heap.size + 1, 0, none⟩ (.string ⟨#[116, 101, 120, 116]⟩)).setCell ⟨w.heap.size + 1, 1, none⟩ (.string ⟨#[112, 108, 97, 105, 110]⟩)) (w.heap.size + 1) ⟨#[116, 101, 120, 116]⟩ ⟨#[112, 108, 97, 105, 110]⟩ (.slice none 0 0) := Lib.heap_setCell_same r1 (i := 1) (.string ⟨#[112, 108, 97, 105, 110]⟩)
                          exact q2.tri r2
                    | true =>
                      obtain ⟨KC, hKC⟩ : ∃ X : ByteArray, ⟨#[116, 101, 120, 116, 47, 112, 108, 97, 105, 110]⟩ ++ KS = X := ⟨_, rfl⟩
                      have hKl : KC.data.toList = tplB ++ KS.data.toList := by rw [← hKC]; simp [tplB]
                      have HKc := hid (show rdK u = KC.data.toList by rw [HK.out, hKl]; unfold comK; rw [hbg]; rfl)
                      have hKCs : KC.size ≤ 500000 := by rw [Lib.size_eq, hKl, List.length_append, ← Lib.size_eq]; show 10 + _ ≤ _; omega
                      have HPr := hid (fun w => rparse6_any KC w (by omega))
                      clear hbg hKl
                      go_wp2_with fail
                      refine (HBg.out _).mono ?_
                      rintro e wq ⟨rfl, rfl⟩
                      go_wp2_with fail
                      refine (HPr.out _).mono ?_
                      rintro e wz ⟨v, rfl, hown, hbz⟩
                      unfold knVal
                      obtain ⟨x1, x2, x3, rfl⟩ := own_slice hown
                      have HBz := hid (below2 HBx.out hbz)
                      have HTz := hid (HTx.out.kept hbz)
                      have HSz := hid (HSx.out.kept hbz)
                      have HOw := hid hown
                      clear hbz hown
                      obtain ⟨kok, hkok⟩ : ∃ b, knOk KC.data.toList = b := ⟨_, rfl⟩
                      rw [hkok]
                      obtain ⟨M1, hM1⟩ : ∃ A, ba (knV KC.data.toList).major = A := ⟨_, rfl⟩
                      obtain ⟨M2, hM2⟩ : ∃ A, ba (knV KC.data.toList).minor = A := ⟨_, rfl⟩
                      rw [hM1, hM2]
                      have hb8 : Below wz.heap.size wz (wz.alloc (.cells #[.string M1, .string M2, .slice x1 x2 x3] 39)) := (Below.refl _ _).alloc (Nat.le_refl _) _
                      have hz8 : (wz.alloc (.cells #[.string M1, .string M2, .slice x1 x2 x3] 39)).heap.size = wz.heap.size + 1 := by simp
                      cases kok with
                      | true =>
                        have ht8 := HTz.out.kept hb8
                        obtain ⟨t0, t1, t2⟩ := ht8.cells
                        have f0 := ht8.frozen 0
                        have f1 := ht8.frozen 1
                        have f2 := ht8.frozen 2
                        have HT8 := hid ht8
                        have HB8 := hid (below2 HBz.out hb8)
                        have HS8 := hid (HSz.out.kept hb8)
                        have HTy := hid (show typV (rdK u) = knV KC.data.toList by rw [HKc.out]; unfold typV; rw [hkok]; rfl)
                        have HO8 := hid (own_base (C := w.heap.size) (ownsRow_same HOw.out fun g hg => hb8.block g (HOw.out.lt g hg).2) (by have := HLt.out; omega))
                        have HNe := hid (show (Value.slice x1 x2 x3).ownBlock ≠ some (w.heap.size + 1) from fun e => by have h1 := (HOw.out.lt _ e).1; have h2 := HLt.out; omega)
                        have HM1 := hid hM1
                        have HM2 := hid hM2
                        clear hb8 hz8 ht8 hkok hM1 hM2
                        go_wp2_with fail
                        refine bodyPost_ret (results_t3 rfl _ _ (w.heap.size + 1) M1 M2 (.slice x1 x2 x3) rfl HT8.out.set.range) rfl ⟨?_, .inr ⟨HO.out, .slice x1 x2 x3, (.slice (some ⟨wb.heap.size, 0, none⟩) UB.size cap), ?_, ?_, ?_⟩⟩
                        · exact ((HB8.out.setCell (p := ⟨w.heap.size + 1, 0, none⟩) (Nat.le_succ _) _).setCell (p := ⟨w.heap.size + 1, 1, none⟩) (Nat.le_succ _) _).setCell (p := ⟨w.heap.size + 1, 2, none⟩) (Nat.le_succ _) _
                        · rw [HTy.out, HM1.out, HM2.out]; rfl
                        · rw [HTy.out]; exact own_apR (own_apR (own_apR HO8.out HNe.out) HNe.out) HNe.out
                        · rw [HB.out]
                          have q1 := HS8.out.tri (j := 0) (y := .string M1) HT8.out
                          have r1 : TriR ((wz.alloc (.cells #[.string M1, .string M2, .slice x1 x2 x3] 39)).setCell ⟨w.heap.size + 1, 0, none⟩ (.string M1)) (w.heap.size + 1) M1 ⟨#[]⟩ (.slice none 0 0) := Lib.heap_setCell_same HT8.out (i := 0) (.string M1)
                          have q2 := q1.tri (j := 1) (y := .string M2) r1
                          have r2 : TriR (((wz.alloc (.cells #[.string M1, .string M2, .slice x1 x2 x3] 39)).setCell ⟨w.heap.size + 1, 0, none⟩ (.string M1)).setCell ⟨w.heap.size + 1, 1, none⟩ (.string M2)) (w.heap.size + 1) M1 M2 (.slice none 0 0) := Lib.heap_setCell_same r1 (i := 1) (.string M2)
                          exact q2.tri r2
                      | false =>
                        have hz9 : (wz.alloc (.cells #[.string ⟨#[116, 101, 120, 116]⟩, .string ⟨#[112, 108, 97, 105, 110]⟩, .slice (some ⟨wz.heap.size + 1, 0, none⟩) 1 1] 39)).heap.size = wz.heap.size + 1 := by simp
                        have h9 : ((wz.alloc (.cells #[.string ⟨#[116, 101, 120, 116]⟩, .string ⟨#[112, 108, 97, 105, 110]⟩, .slice (some ⟨wz.heap.size + 1, 0, none⟩) 1 1] 39)).alloc (.cells #[.string ⟨#[99, 104, 97, 114, 115, 101, 116]⟩, .string ⟨#[85, 83, 45, 65, 83, 67, 73, 73]⟩] 44)).heap[wz.heap.size + 1]? = some (.cells #[.string ⟨#[99, 104, 97, 114, 115, 101, 116]⟩, .string ⟨#[85, 83, 45, 65, 83, 67, 73, 73]⟩] 44 (0, 0)) := by
                          have := heap_alloc_new (wz.alloc (.cells #[.string ⟨#[116, 101, 120, 116]⟩, .string ⟨#[112, 108, 97, 105, 110]⟩, .slice (some ⟨wz.heap.size + 1, 0, none⟩) 1 1] 39)) (.cells #[.string ⟨#[99, 104, 97, 114, 115, 101, 116]⟩, .string ⟨#[85, 83, 45, 65, 83, 67, 73, 73]⟩] 44)
                          rw [hz9] at this
                          exact this
                        have hb9 : Below wz.heap.size wz ((wz.alloc (.cells #[.string ⟨#[116, 101, 120, 116]⟩, .string ⟨#[112, 108, 97, 105, 110]⟩, .slice (some ⟨wz.heap.size + 1, 0, none⟩) 1 1] 39)).alloc (.cells #[.string ⟨#[99, 104, 97, 114, 115, 101, 116]⟩, .string ⟨#[85, 83, 45, 65, 83, 67, 73, 73]⟩] 44)) := below2 ((Below.refl _ wz).alloc (Nat.le_refl _) _) ((Below.refl _ _).alloc (Nat.le_refl _) _)
                        have ht9 := HTz.out.kept hb9
                        obtain ⟨t0', t1', t2'⟩ := ht9.cells
                        have f0' := ht9.frozen 0
                        have f1' := ht9.frozen 1
                        have f2' := ht9.frozen 2
                        have HT9 := hid ht9
                        have HB9 := hid (below2 HBz.out hb9)
                        have HS9 := hid (HSz.out.kept hb9)
                        have H9 := hid h9
                        have HLz := hid HTz.out.lt
                        have HTy := hid (show typV (rdK u) = usual by rw [HKc.out]; unfold typV; rw [hkok]; rfl)
                        clear hb8 hz8 hkok hM1 hM2 hz9 h9 hb9 ht9 t0 t1 t2 f0 f1 f2
                        go_wp2_with fail
                        refine bodyPost_ret (results_t3 rfl _ _ (w.heap.size + 1) ⟨#[116, 101, 120, 116]⟩ ⟨#[112, 108, 97, 105, 110]⟩ (.slice (some ⟨wz.heap.size + 1, 0, none⟩) 1 1) rfl HT9.out.set.range) rfl ⟨?_, .inr ⟨HO.out, .slice (some ⟨wz.heap.size + 1, 0, none⟩) 1 1, (.slice (some ⟨wb.heap.size, 0, none⟩) UB.size cap), ?_, ?_, ?_⟩⟩
                        · exact ((HB9.out.setCell (p := ⟨w.heap.size + 1, 0, none⟩) (Nat.le_succ _) _).setCell (p := ⟨w.heap.size + 1, 1, none⟩) (Nat.le_succ _) _).setCell (p := ⟨w.heap.size + 1, 2, none⟩) (Nat.le_succ _) _
                        · rw [HTy.out]; rfl
                        · rw [HTy.out]
                          have hlt : w.heap.size + 1 < wz.heap.size := HLz.out
                          have ho : ((wz.alloc (.cells #[.string ⟨#[116, 101, 120, 116]⟩, .string ⟨#[112, 108, 97, 105, 110]⟩, .slice (some ⟨wz.heap.size + 1, 0, none⟩) 1 1] 39)).alloc (.cells #[.string ⟨#[99, 104, 97, 114, 115, 101, 116]⟩, .string ⟨#[85, 83, 45, 65, 83, 67, 73, 73]⟩] 44)).ownsRow w.heap.size 44 2 (.slice (some ⟨wz.heap.size + 1, 0, none⟩) 1 1) usual.params.length (cellsH usual.params) :=
                            ⟨by decide, .inr ⟨wz.heap.size + 1, 1, _, rfl, by omega, H9.out, by decide, by decide, by decide, rfl⟩⟩
                          exact own_apR (own_apR (own_apR ho (by simp [Value.ownBlock]; omega)) (by simp [Value.ownBlock]; omega)) (by simp [Value.ownBlock]; omega)
                        · rw [HB.out]
                          have q1 := HS9.out.tri (j := 0) (y := .string ⟨#[116, 101, 120, 116]⟩) HT9.out
                          have r1 : TriR (((wz.alloc (.cells #[.string ⟨#[116, 101, 120, 116]⟩, .string ⟨#[112, 108, 97, 105, 110]⟩, .slice (some ⟨wz.heap.size + 1, 0, none⟩) 1 1] 39)).alloc (.cells #[.string ⟨#[99, 104, 97, 114, 115, 101, 116]⟩, .string ⟨#[85, 83, 45, 65, 83, 67, 73, 73]⟩] 44)).setCell ⟨w.heap.size + 1, 0, none⟩ (.string ⟨#[116, 101, 120, 116]⟩)) (w.heap.size + 1) ⟨#[116, 101, 120, 116]⟩ ⟨#[]⟩ (.slice none 0 0) := Lib.heap_setCell_same HT9.out (i := 0) (.string ⟨#[116, 101, 120, 116]⟩)
                          have q2 := q1.tri (j := 1) (y := .string ⟨#[112, 108, 97, 105, 110]⟩) r1
                          have r2 : TriR ((((wz.alloc (.cells #[.string ⟨#[116, 101, 120, 116]⟩, .string ⟨#[112, 108, 97, 105, 110]⟩, .slice (some ⟨wz.heap.size + 1, 0, none⟩) 1 1] 39)).alloc (.cells #[.string ⟨#[99, 104, 97, 114, 115, 101, 116]⟩, .string ⟨#[85, 83, 45, 65, 83, 67, 73, 73]⟩] 44)).setCell ⟨w.heap.size + 1, 0, none⟩ (.string ⟨#[116, 101, 120, 116]⟩)).setCell ⟨w.heap.size + 1, 1, none⟩ (.string ⟨#[112, 108, 97, 105, 110]⟩)) (w.heap.size + 1) ⟨#[116, 101, 120, 116]⟩ ⟨#[112, 108, 97, 105, 110]⟩ (.slice none 0 0) := Lib.heap_setCell_same r1 (i := 1) (.string ⟨#[112, 108, 97, 105, 110]⟩)
                          exact q2.tri r2
                  | true =>
                    have him : isM KS.data.toList = true := by unfold isM; rw [HE6'.out, HA6.out, hsf]; rfl
                    have hof : offM KS.data.toList = A6.take (A6.length - 1) := by unfold offM Lib.trimSuffix; rw [HA6.out, hsf]; rfl
                    obtain ⟨KO, hKO⟩ : ∃ Y : ByteArray, X.extract 0 m = Y := ⟨_, rfl⟩
                    have hKOl : KO.data.toList = offM KS.data.toList := by rw [← hKO, HKO.out, hof]
                    have hKOs : KO.size ≤ 50000 := by rw [← hKO, ByteArray.size_extract]; omega
                    have hcv2 := HSx.out.string (P := Tryz.prog) Tryz.underlying27 Tryz.underlying5 Tryz.underlying9
                    rw [show (⟨UB.data.toList.toArray⟩ : ByteArray) = UB from mba_self UB] at hcv2
                    have HB64 := hid (fun w => rbase64_any UB w (by omega))
                    have HKOl := hid hKOl
                    have HIm := hid him
                    rw [hsf] at HEs
                    clear him hof hsf hKOl
                    go_wp2_with fail
                    refine (HEs.out _).mono ?_
                    rintro e wq ⟨rfl, rfl⟩
                    go_wp2_with fail
                    refine (HB64.out _).mono ?_
                    rintro e we ⟨hbe, ⟨hno, rfl⟩ | ⟨ax, nx, cx, l, hl, rfl, hSl⟩⟩
                    · have HO := hid (show rdO u = false by unfold rdO unO; rw [HRd.out.1, HRd.out.2, ← HKl.out, ← HUl.out, HIm.out, hno]; rfl)
                      have HTe := hid (HTx.out.kept hbe)
                      have HBe := hid (below2 HBx.out hbe)
                      clear t0 t1 t2 f0 f1 f2 hbe hcv2
                      obtain ⟨t0, t1, t2⟩ := HTe.out.cells
                      have f0 := HTe.out.frozen 0
                      have f1 := HTe.out.frozen 1
                      have f2 := HTe.out.frozen 2
                      go_wp2_with fail
                      refine bodyPost_ret (results_t3 rfl _ _ (w.heap.size + 1) ⟨#[]⟩ ⟨#[]⟩ (.slice none 0 0) rfl (by first | exact HTe.out.range | exact HTe.out.set.range)) rfl ⟨by first | exact HBe.out | exact ((HBe.out.setCell (p := ⟨w.heap.size + 1, 0, none⟩) (Nat.le_succ _) _).setCell (p := ⟨w.heap.size + 1, 1, none⟩) (Nat.le_succ _) _).setCell (p := ⟨w.heap.size + 1, 2, none⟩) (Nat.le_succ _) _, .inl ⟨HO.out, rfl⟩⟩
                    · have HK := hid (show rdK u = comK KO.data.toList by unfold rdK unK; rw [← HKl.out, HIm.out, HKOl.out]; rfl)
                      have HB := hid (show rdB u = l by unfold rdB unB; rw [← HKl.out, ← HUl.out, HIm.out, hl]; rfl)
                      have HO := hid (show rdO u = true by unfold rdO unO; rw [HRd.out.1, HRd.out.2, ← HKl.out, ← HUl.out, HIm.out, hl]; rfl)
                      have HTe := hid (HTx.out.kept hbe)
                      have HBe := hid (below2 HBx.out hbe)
                      clear t0 t1 t2 f0 f1 f2 hbe hcv2 HTx HBx HSx
                      have HTx := HTe
                      have HBx := HBe
                      have HSx := hid hSl
                      clear HTe HBe hSl hl
                      obtain ⟨t0, t1, t2⟩ := HTx.out.cells
                      have f0 := HTx.out.frozen 0
                      have f1 := HTx.out.frozen 1
                      have f2 := HTx.out.frozen 2
                      go_wp2_with fail
                      have HLt := hid (show w.heap.size + 1 < _ from HTx.out.lt)
                      have HBg := hid (fun w : World => begins_any KO ⟨#[59]⟩ w (by omega) (by decide))
                      rw [show (⟨#[59]⟩ : ByteArray).data.toList = [59] from rfl] at HBg
                      obtain ⟨bg, hbg⟩ : ∃ b, Lib.hasPrefix KO.data.toList [59] = b := ⟨_, rfl⟩
                      rw [hbg] at HBg
                      cases bg with
                      | false =>
                        have HKc := hid (show rdK u = KO.data.toList by rw [HK.out]; unfold comK; rw [hbg]; rfl)
                        have HPr := hid (fun w => rparse6_any KO w (by omega))
                        clear hbg
                        go_wp2_with fail
                        refine (HBg.out _).mono ?_
                        rintro e wq ⟨rfl, rfl⟩
                        go_wp2_with fail
                        refine (HPr.out _).mono ?_
                        rintro e wz ⟨v, rfl, hown, hbz⟩
                        unfold knVal
                        obtain ⟨x1, x2, x3, rfl⟩ := own_slice hown
                        have HBz := hid (below2 HBx.out hbz)
                        have HTz := hid (HTx.out.kept hbz)
                        have HSz := hid (HSx.out.kept hbz)
                        have HOw := hid hown
                        clear hbz hown
                        obtain ⟨kok, hkok⟩ : ∃ b, knOk KO.data.toList = b := ⟨_, rfl⟩
                        rw [hkok]
                        obtain ⟨M1, hM1⟩ : ∃ A, ba (knV KO.data.toList).major = A := ⟨_, rfl⟩
                        obtain ⟨M2, hM2⟩ : ∃ A, ba (knV KO.data.toList).minor = A := ⟨_, rfl⟩
                        rw [hM1, hM2]
                        have hb8 : Below wz.heap.size wz (wz.alloc (.cells #[.string M1, .string M2, .slice x1 x2 x3] 39)) := (Below.refl _ _).alloc (Nat.le_refl _) _
                        have hz8 : (wz.alloc (.cells #[.string M1, .string M2, .slice x1 x2 x3] 39)).heap.size = wz.heap.size + 1 := by simp
                        cases kok with
                        | true =>
                          have ht8 := HTz.out.kept hb8
                          obtain ⟨t0, t1, t2⟩ := ht8.cells
                          have f0 := ht8.frozen 0
                          have f1 := ht8.frozen 1
                          have f2 := ht8.frozen 2
                          have HT8 := hid ht8
                          have HB8 := hid (below2 HBz.out hb8)
                          have HS8 := hid (HSz.out.kept hb8)
                          have HTy := hid (show typV (rdK u) = knV KO.data.toList by rw [HKc.out]; unfold typV; rw [hkok]; rfl)
                          have HO8 := hid (own_base (C := w.heap.size) (ownsRow_same HOw.out fun g hg => hb8.block g (HOw.out.lt g hg).2) (by have := HLt.out; omega))
                          have HNe := hid (show (Value.slice x1 x2 x3).ownBlock ≠ some (w.heap.size + 1) from fun e => by have h1 := (HOw.out.lt _ e).1; have h2 := HLt.out; omega)
                          have HM1 := hid hM1
                          have HM2 := hid hM2
                          clear hb8 hz8 ht8 hkok hM1 hM2
                          go_wp2_with fail
                          refine bodyPost_ret (results_t3 rfl _ _ (w.heap.size + 1) M1 M2 (.slice x1 x2 x3) rfl HT8.out.set.range) rfl ⟨?_, .inr ⟨HO.out, .slice x1 x2 x3, (.slice ax nx cx), ?_, ?_, ?_⟩⟩
                          · exact ((HB8.out.setCell (p := ⟨w.heap.size + 1, 0, none⟩) (Nat.le_succ _) _).setCell (p := ⟨w.heap.size + 1, 1, none⟩) (Nat.le_succ _) _).setCell (p := ⟨w.heap.size + 1, 2, none⟩) (Nat.le_succ _) _
                          · rw [HTy.out, HM1.out, HM2.out]; rfl
                          · rw [HTy.out]; exact own_apR (own_apR (own_apR HO8.out HNe.out) HNe.out) HNe.out
                          · rw [HB.out]
                            have q1 := HS8.out.tri (j := 0) (y := .string M1) HT8.out
                            have r1 : TriR ((wz.alloc (.cells #[.string M1, .string M2, .slice x1 x2 x3] 39)).setCell ⟨w.heap.size + 1, 0, none⟩ (.string M1)) (w.heap.size + 1) M1 ⟨#[]⟩ (.slice none 0 0) := Lib.heap_setCell_same HT8.out (i := 0) (.string M1)
                            have q2 := q1.tri (j := 1) (y := .string M2) r1
                            have r2 : TriR (((wz.alloc (.cells #[.string M1, .string M2, .slice x1 x2 x3] 39)).setCell ⟨w.heap.size + 1, 0, none⟩ (.string M1)).setCell ⟨w.heap.size + 1, 1, none⟩ (.string M2)) (w.heap.size + 1) M1 M2 (.slice none 0 0) := Lib.heap_setCell_same r1 (i := 1) (.string M2)
                            exact q2.tri r2
                        | false =>
                          have hz9 : (wz.alloc (.cells #[.string ⟨#[116, 101, 120, 116]⟩, .string ⟨#[112, 108, 97, 105, 110]⟩, .slice (some ⟨wz.heap.size + 1, 0, none⟩) 1 1] 39)).heap.size = wz.heap.size + 1 := by simp
                          have h9 : ((wz.alloc (.cells #[.string ⟨#[116, 101, 120, 116]⟩, .string ⟨#[112, 108, 97, 105, 110]⟩, .slice (some ⟨wz.heap.size + 1, 0, none⟩) 1 1] 39)).alloc (.cells #[.string ⟨#[99, 104, 97, 114, 115, 101, 116]⟩, .string ⟨#[85, 83, 45, 65, 83, 67, 73, 73]⟩] 44)).heap[wz.heap.size + 1]? = some (.cells #[.string ⟨#[99, 104, 97, 114, 115, 101, 116]⟩, .string ⟨#[85, 83, 45, 65, 83, 67, 73, 73]⟩] 44 (0, 0)) := by
                            have := heap_alloc_new (wz.alloc (.cells #[.string ⟨#[116, 101, 120, 116]⟩, .string ⟨#[112, 108, 97, 105, 110]⟩, .slice (some ⟨wz.heap.size + 1, 0, none⟩) 1 1] 39)) (.cells #[.string ⟨#[99, 104, 97, 114, 115, 101, 116]⟩, .string ⟨#[85, 83, 45, 65, 83, 67, 73, 73]⟩] 44)
                            rw [hz9] at this
                            exact this
                          have hb9 : Below wz.heap.size wz ((wz.alloc (.cells #[.string ⟨#[116, 101, 120, 116]⟩, .string ⟨#[112, 108, 97, 105, 110]⟩, .slice (some ⟨wz.heap.size + 1, 0, none⟩) 1 1] 39)).alloc (.cells #[.string ⟨#[99, 104, 97, 114, 115, 101, 116]⟩, .string ⟨#[85, 83, 45, 65, 83, 67, 73, 73]⟩] 44)) := below2 ((Below.refl _ wz).alloc (Nat.le_refl _) _) ((Below.refl _ _).alloc (Nat.le_refl _) _)
                          have ht9 := HTz.out.kept hb9
                          obtain ⟨t0', t1', t2'⟩ := ht9.cells
                          have f0' := ht9.frozen 0
                          have f1' := ht9.frozen 1
                          have f2' := ht9.frozen 2
                          have HT9 := hid ht9
                          have HB9 := hid (below2 HBz.out hb9)
                          have HS9 := hid (HSz.out.kept hb9)
                          have H9 := hid h9
                          have HLz := hid HTz.out.lt
                          have HTy := hid (show typV (rdK u) = usual by rw [HKc.out]; unfold typV; rw [hkok]; rfl)
                          clear hb8 hz8 hkok hM1 hM2 hz9 h9 hb9 ht9 t0 t1 t2 f0 f1 f2
                          go_wp2_with fail
                          refine bodyPost_ret (results_t3 rfl _ _ (w.heap.size + 1) ⟨#[116, 101, 120, 116]⟩ ⟨#[112, 108, 97, 105, 110]⟩ (.slice (some ⟨wz.heap.size + 1, 0, none⟩) 1 1) rfl HT9.out.set.range) rfl ⟨?_, .inr ⟨HO.out, .slice (some ⟨wz.heap.size + 1, 0, none⟩) 1 1, (.slice ax nx cx), ?_, ?_, ?_⟩⟩
                          · exact ((HB9.out.setCell (p := ⟨w.heap.size + 1, 0, none⟩) (Nat.le_succ _) _).setCell (p := ⟨w.heap.size + 1, 1, none⟩) (Nat.le_succ _) _).setCell (p := ⟨w.heap.size + 1, 2, none⟩) (Nat.le_succ _) _
                          · rw [HTy.out]; rfl
                          · rw [HTy.out]
                            have hlt : w.heap.size + 1 < wz.heap.size := HLz.out
                            have ho : ((wz.alloc (.cells #[.string ⟨#[116, 101, 120, 116]⟩, .string ⟨#[112, 108, 97, 105, 110]⟩, .slice (some ⟨wz.heap.size + 1, 0, none⟩) 1 1] 39)).alloc (.cells #[.string ⟨#[99, 104, 97, 114, 115, 101, 116]⟩, .string ⟨#[85, 83, 45, 65, 83, 67, 73, 73]⟩] 44)).ownsRow w.heap.size 44 2 (.slice (some ⟨wz.heap.size + 1, 0, none⟩) 1 1) usual.params.length (cellsH usual.params) :=
                              ⟨by decide, .inr ⟨wz.heap.size + 1, 1, _, rfl, by omega, H9.out, by decide, by decide, by decide, rfl⟩⟩
                            exact own_apR (own_apR (own_apR ho (by simp [Value.ownBlock]; omega)) (by simp [Value.ownBlock]; omega)) (by simp [Value.ownBlock]; omega)
                          · rw [HB.out]
                            have q1 := HS9.out.tri (j := 0) (y := .string ⟨#[116, 101, 120, 116]⟩) HT9.out
                            have r1 : TriR (((wz.alloc (.cells #[.string ⟨#[116, 101, 120, 116]⟩, .string ⟨#[112, 108, 97, 105, 110]⟩, .slice (some ⟨wz.heap.size + 1, 0, none⟩) 1 1] 39)).alloc (.cells #[.string ⟨#[99, 104, 97, 114, 115, 101, 116]⟩, .string ⟨#[85, 83, 45, 65, 83, 67, 73, 73]⟩] 44)).setCell ⟨w.heap.size + 1, 0, none⟩ (.string ⟨#[116, 101, 120, 116]⟩)) (w.heap.size + 1) ⟨#[116, 101, 120, 116]⟩ ⟨#[]⟩ (.slice none 0 0) := Lib.heap_setCell_same HT9.out (i := 0) (.string ⟨#[116, 101, 120, 116]⟩)
                            have q2 := q1.tri (j := 1) (y := .string ⟨#[112, 108, 97, 105, 110]⟩) r1
                            have r2 : TriR ((((wz.alloc (.cells #[.string ⟨#[116, 101, 120, 116]⟩, .string ⟨#[112, 108, 97, 105, 110]⟩, .slice (some ⟨wz.heap.size + 1, 0, none⟩) 1 1] 39)).alloc (.cells #[.string ⟨#[99, 104, 97, 114, 115, 101, 116]⟩, .string ⟨#[85, 83, 45, 65, 83, 67, 73, 73]⟩] 44)).setCell ⟨w.heap.size + 1, 0, none⟩ (.string ⟨#[116, 101, 120, 116]⟩)).setCell ⟨w.heap.size + 1, 1, none⟩ (.string ⟨#[112, 108, 97, 105, 110]⟩)) (w.heap.size + 1) ⟨#[116, 101, 120, 116]⟩ ⟨#[112, 108, 97, 105, 110]⟩ (.slice none 0 0) := Lib.heap_setCell_same r1 (i := 1) (.string ⟨#[112, 108, 97, 105, 110]⟩)
                            exact q2.tri r2
                      | true =>
                        obtain ⟨KC, hKC⟩ : ∃ X : ByteArray, ⟨#[116, 101, 120, 116, 47, 112, 108, 97, 105, 110]⟩ ++ KO = X := ⟨_, rfl⟩
                        have hKl : KC.data.toList = tplB ++ KO.data.toList := by rw [← hKC]; simp [tplB]
                        have HKc := hid (show rdK u = KC.data.toList by rw [HK.out, hKl]; unfold comK; rw [hbg]; rfl)
                        have hKCs : KC.size ≤ 500000 := by rw [Lib.size_eq, hKl, List.length_append, ← Lib.size_eq]; show 10 + _ ≤ _; omega
                        have HPr := hid (fun w => rparse6_any KC w (by omega))
                        clear hbg hKl
                        go_wp2_with fail
                        refine (HBg.out _).mono ?_
                        rintro e wq ⟨rfl, rfl⟩
                        go_wp2_with fail
                        refine (HPr.out _).mono ?_
                        rintro e wz ⟨v, rfl, hown, hbz⟩
                        unfold knVal
                        obtain ⟨x1, x2, x3, rfl⟩ := own_slice hown
                        have HBz := hid (below2 HBx.out hbz)
                        have HTz := hid (HTx.out.kept hbz)
                        have HSz := hid (HSx.out.kept hbz)
                        have HOw := hid hown
                        clear hbz hown
                        obtain ⟨kok, hkok⟩ : ∃ b, knOk KC.data.toList = b := ⟨_, rfl⟩
                        rw [hkok]
                        obtain ⟨M1, hM1⟩ : ∃ A, ba (knV KC.data.toList).major = A := ⟨_, rfl⟩
                        obtain ⟨M2, hM2⟩ : ∃ A, ba (knV KC.data.toList).minor = A := ⟨_, rfl⟩
                        rw [hM1, hM2]
                        have hb8 : Below wz.heap.size wz (wz.alloc (.cells #[.string M1, .string M2, .slice x1 x2 x3] 39)) := (Below.refl _ _).alloc (Nat.le_refl _) _
                        have hz8 : (wz.alloc (.cells #[.string M1, .string M2, .slice x1 x2 x3] 39)).heap.size = wz.heap.size + 1 := by simp
                        cases kok with
                        | true =>
                          have ht8 := HTz.out.kept hb8
                          obtain ⟨t0, t1, t2⟩ := ht8.cells
                          have f0 := ht8.frozen 0
                          have f1 := ht8.frozen 1
                          have f2 := ht8.frozen 2
                          have HT8 := hid ht8
                          have HB8 := hid (below2 HBz.out hb8)
                          have HS8 := hid (HSz.out.kept hb8)
                          have HTy := hid (show typV (rdK u) = knV KC.data.toList by rw [HKc.out]; unfold typV; rw [hkok]; rfl)
                          have HO8 := hid (own_base (C := w.heap.size) (ownsRow_same HOw.out fun g hg => hb8.block g (HOw.out.lt g hg).2) (by have := HLt.out; omega))
                          have HNe := hid (show (Value.slice x1 x2 x3).ownBlock ≠ some (w.heap.size + 1) from fun e => by have h1 := (HOw.out.lt _ e).1; have h2 := HLt.out; omega)
                          have HM1 := hid hM1
                          have HM2 := hid hM2
                          clear hb8 hz8 ht8 hkok hM1 hM2
                          go_wp2_with fail
                          refine bodyPost_ret (results_t3 rfl _ _ (w.heap.size + 1) M1 M2 (.slice x1 x2 x3) rfl HT8.out.set.range) rfl ⟨?_, .inr ⟨HO.out, .slice x1 x2 x3, (.slice ax nx cx), ?_, ?_, ?_⟩⟩
                          · exact ((HB8.out.setCell (p := ⟨w.heap.size + 1, 0, none⟩) (Nat.le_succ _) _).setCell (p := ⟨w.heap.size + 1, 1, none⟩) (Nat.le_succ _) _).setCell (p := ⟨w.heap.size + 1, 2, none⟩) (Nat.le_succ _) _
                          · rw [HTy.out, HM1.out, HM2.out]; rfl
                          · rw [HTy.out]; exact own_apR (own_apR (own_apR HO8.out HNe.out) HNe.out) HNe.out
                          · rw [HB.out]
                            have q1 := HS8.out.tri (j := 0) (y := .string M1) HT8.out
                            have r1 : TriR ((wz.alloc (.cells #[.string M1, .string M2, .slice x1 x2 x3] 39)).setCell ⟨w.heap.size + 1, 0, none⟩ (.string M1)) (w.heap.size + 1) M1 ⟨#[]⟩ (.slice none 0 0) := Lib.heap_setCell_same HT8.out (i := 0) (.string M1)
                            have q2 := q1.tri (j := 1) (y := .string M2) r1
                            have r2 : TriR (((wz.alloc (.cells #[.string M1, .string M2, .slice x1 x2 x3] 39)).setCell ⟨w.heap.size + 1, 0, none⟩ (.string M1)).setCell ⟨w.heap.size + 1, 1, none⟩ (.string M2)) (w.heap.size + 1) M1 M2 (.slice none 0 0) := Lib.heap_setCell_same r1 (i := 1) (.string M2)
                            exact q2.tri r2
                        | false =>
                          have hz9 : (wz.alloc (.cells #[.string ⟨#[116, 101, 120, 116]⟩, .string ⟨#[112, 108, 97, 105, 110]⟩, .slice (some ⟨wz.heap.size + 1, 0, none⟩) 1 1] 39)).heap.size = wz.heap.size + 1 := by simp
                          have h9 : ((wz.alloc (.cells #[.string ⟨#[116, 101, 120, 116]⟩, .string ⟨#[112, 108, 97, 105, 110]⟩, .slice (some ⟨wz.heap.size + 1, 0, none⟩) 1 1] 39)).alloc (.cells #[.string ⟨#[99, 104, 97, 114, 115, 101, 116]⟩, .string ⟨#[85, 83, 45, 65, 83, 67, 73, 73]⟩] 44)).heap[wz.heap.size + 1]? = some (.cells #[.string ⟨#[99, 104, 97, 114, 115, 101, 116]⟩, .string ⟨#[85, 83, 45, 65, 83, 67, 73, 73]⟩] 44 (0, 0)) := by
                            have := heap_alloc_new (wz.alloc (.cells #[.string ⟨#[116, 101, 120, 116]⟩, .string ⟨#[112, 108, 97, 105, 110]⟩, .slice (some ⟨wz.heap.size + 1, 0, none⟩) 1 1] 39)) (.cells #[.string ⟨#[99, 104, 97, 114, 115, 101, 116]⟩, .string ⟨#[85, 83, 45, 65, 83, 67, 73, 73]⟩] 44)
                            rw [hz9] at this
                            exact this
                          have hb9 : Below wz.heap.size wz ((wz.alloc (.cells #[.string ⟨#[116, 101, 120, 116]⟩, .string ⟨#[112, 108, 97, 105, 110]⟩, .slice (some ⟨wz.heap.size + 1, 0, none⟩) 1 1] 39)).alloc (.cells #[.string ⟨#[99, 104, 97, 114, 115, 101, 116]⟩, .string ⟨#[85, 83, 45, 65, 83, 67, 73, 73]⟩] 44)) := below2 ((Below.refl _ wz).alloc (Nat.le_refl _) _) ((Below.refl _ _).alloc (Nat.le_refl _) _)
                          have ht9 := HTz.out.kept hb9
                          obtain ⟨t0', t1', t2'⟩ := ht9.cells
                          have f0' := ht9.frozen 0
                          have f1' := ht9.frozen 1
                          have f2' := ht9.frozen 2
                          have HT9 := hid ht9
                          have HB9 := hid (below2 HBz.out hb9)
                          have HS9 := hid (HSz.out.kept hb9)
                          have H9 := hid h9
                          have HLz := hid HTz.out.lt
                          have HTy := hid (show typV (rdK u) = usual by rw [HKc.out]; unfold typV; rw [hkok]; rfl)
                          clear hb8 hz8 hkok hM1 hM2 hz9 h9 hb9 ht9 t0 t1 t2 f0 f1 f2
                          go_wp2_with fail
                          refine bodyPost_ret (results_t3 rfl _ _ (w.heap.size + 1) ⟨#[116, 101, 120, 116]⟩ ⟨#[112, 108, 97, 105, 110]⟩ (.slice (some ⟨wz.heap.size + 1, 0, none⟩) 1 1) rfl HT9.out.set.range) rfl ⟨?_, .inr ⟨HO.out, .slice (some ⟨wz.heap.size + 1, 0, none⟩) 1 1, (.slice ax nx cx), ?_, ?_, ?_⟩⟩
                          · exact ((HB9.out.setCell (p := ⟨w.heap.size + 1, 0, none⟩) (Nat.le_succ _) _).setCell (p := ⟨w.heap.size + 1, 1, none⟩) (Nat.le_succ _) _).setCell (p := ⟨w.heap.size + 1, 2, none⟩) (Nat.le_succ _) _
                          · rw [HTy.out]; rfl
                          · rw [HTy.out]
                            have hlt : w.heap.size + 1 < wz.heap.size := HLz.out
                            have ho : ((wz.alloc (.cells #[.string ⟨#[116, 101, 120, 116]⟩, .string ⟨#[112, 108, 97, 105, 110]⟩, .slice (some ⟨wz.heap.size + 1, 0, none⟩) 1 1] 39)).alloc (.cells #[.string ⟨#[99, 104, 97, 114, 115, 101, 116]⟩, .string ⟨#[85, 83, 45, 65, 83, 67, 73, 73]⟩] 44)).ownsRow w.heap.size 44 2 (.slice (some ⟨wz.heap.size + 1, 0, none⟩) 1 1) usual.params.length (cellsH usual.params) :=
                              ⟨by decide, .inr ⟨wz.heap.size + 1, 1, _, rfl, by omega, H9.out, by decide, by decide, by decide, rfl⟩⟩
                            exact own_apR (own_apR (own_apR ho (by simp [Value.ownBlock]; omega)) (by simp [Value.ownBlock]; omega)) (by simp [Value.ownBlock]; omega)
                          · rw [HB.out]
                            have q1 := HS9.out.tri (j := 0) (y := .string ⟨#[116, 101, 120, 116]⟩) HT9.out
                            have r1 : TriR (((wz.alloc (.cells #[.string ⟨#[116, 101, 120, 116]⟩, .string ⟨#[112, 108, 97, 105, 110]⟩, .slice (some ⟨wz.heap.size + 1, 0, none⟩) 1 1] 39)).alloc (.cells #[.string ⟨#[99, 104, 97, 114, 115, 101, 116]⟩, .string ⟨#[85, 83, 45, 65, 83, 67, 73, 73]⟩] 44)).setCell ⟨w.heap.size + 1, 0, none⟩ (.string ⟨#[116, 101, 120, 116]⟩)) (w.heap.size + 1) ⟨#[116, 101, 120, 116]⟩ ⟨#[]⟩ (.slice none 0 0) := Lib.heap_setCell_same HT9.out (i := 0) (.string ⟨#[116, 101, 120, 116]⟩)
                            have q2 := q1.tri (j := 1) (y := .string ⟨#[112, 108, 97, 105, 110]⟩) r1
                            have r2 : TriR ((((wz.alloc (.cells #[.string ⟨#[116, 101, 120, 116]⟩, .string ⟨#[112, 108, 97, 105, 110]⟩, .slice (some ⟨wz.heap.size + 1, 0, none⟩) 1 1] 39)).alloc (.cells #[.string ⟨#[99, 104, 97, 114, 115, 101, 116]⟩, .string ⟨#[85, 83, 45, 65, 83, 67, 73, 73]⟩] 44)).setCell ⟨w.heap.size + 1, 0, none⟩ (.string ⟨#[116, 101, 120, 116]⟩)).setCell ⟨w.heap.size + 1, 1, none⟩ (.string ⟨#[112, 108, 97, 105, 110]⟩)) (w.heap.size + 1) ⟨#[116, 101, 120, 116]⟩ ⟨#[112, 108, 97, 105, 110]⟩ (.slice none 0 0) := Lib.heap_setCell_same r1 (i := 1) (.string ⟨#[112, 108, 97, 105, 110]⟩)
                            exact q2.tri r2
              · have hx0' : ¬ (0 : Int) < (X.size : Int) := by omega
                have HXl := hid (show X.data.toList = A6 by
                  have : X.data.toList = [] := List.eq_nil_of_length_eq_zero (by rw [← Lib.size_eq]; omega)
                  rw [← HXA.out, this]; rfl)
                have hsf0 : Lib.hasSuffix A6 [59] = false := by
                  rw [← HXl.out, List.eq_nil_of_length_eq_zero (show X.data.toList.length = 0 by rw [← Lib.size_eq]; omega)]; rfl
                have HEs := hid (fun w : World => ends_any X ⟨#[59]⟩ w (by omega) (by decide))
                rw [show (⟨#[59]⟩ : ByteArray).data.toList = [59] from rfl, HXl.out] at HEs
                have hsf := hsf0
                have him : isM KS.data.toList = false := by unfold isM; rw [HE6'.out, HA6.out, hsf]; rfl
                have HK := hid (show rdK u = comK KS.data.toList by unfold rdK unK; rw [← HKl.out, him]; rfl)
                have HB := hid (show rdB u = UB.data.toList by unfold rdB unB; rw [← HKl.out, him, HUl.out]; rfl)
                have HO := hid (show rdO u = true by unfold rdO unO; rw [HRd.out.1, HRd.out.2, ← HKl.out, him]; rfl)
                rw [hsf] at HEs
                clear him hsf
                go_wp2_with fail
                refine (HEs.out _).mono ?_
                rintro e wq ⟨rfl, rfl⟩
                have HLt := hid (show w.heap.size + 1 < _ from HTx.out.lt)
                have HBg := hid (fun w : World => begins_any KS ⟨#[59]⟩ w (by omega) (by decide))
                rw [show (⟨#[59]⟩ : ByteArray).data.toList = [59] from rfl] at HBg
                obtain ⟨bg, hbg⟩ : ∃ b, Lib.hasPrefix KS.data.toList [59] = b := ⟨_, rfl⟩
                rw [hbg] at HBg
                cases bg with
                | false =>
                  have HKc := hid (show rdK u = KS.data.toList by rw [HK.out]; unfold comK; rw [hbg]; rfl)
                  have HPr := hid (fun w => rparse6_any KS w (by omega))
                  clear hbg
                  go_wp2_with fail
                  refine (HBg.out _).mono ?_
                  rintro e wq ⟨rfl, rfl⟩
                  go_wp2_with fail
                  refine (HPr.out _).mono ?_
                  rintro e wz ⟨v, rfl, hown, hbz⟩
                  unfold knVal
                  obtain ⟨x1, x2, x3, rfl⟩ := own_slice hown
                  have HBz := hid (below2 HBx.out hbz)
                  have HTz := hid (HTx.out.kept hbz)
                  have HSz := hid (HSx.out.kept hbz)
                  have HOw := hid hown
                  clear hbz hown
                  obtain ⟨kok, hkok⟩ : ∃ b, knOk KS.data.toList = b := ⟨_, rfl⟩
                  rw [hkok]
                  obtain ⟨M1, hM1⟩ : ∃ A, ba (knV KS.data.toList).major = A := ⟨_, rfl⟩
                  obtain ⟨M2, hM2⟩ : ∃ A, ba (knV KS.data.toList).minor = A := ⟨_, rfl⟩
                  rw [hM1, hM2]
                  have hb8 : Below wz.heap.size wz (wz.alloc (.cells #[.string M1, .string M2, .slice x1 x2 x3] 39)) := (Below.refl _ _).alloc (Nat.le_refl _) _
                  have hz8 : (wz.alloc (.cells #[.string M1, .string M2, .slice x1 x2 x3] 39)).heap.size = wz.heap.size + 1 := by simp
                  cases kok with
                  | true =>
                    have ht8 := HTz.out.kept hb8
                    obtain ⟨t0, t1, t2⟩ := ht8.cells
                    have f0 := ht8.frozen 0
                    have f1 := ht8.frozen 1
                    have f2 := ht8.frozen 2
                    have HT8 := hid ht8
                    have HB8 := hid (below2 HBz.out hb8)
                    have HS8 := hid (HSz.out.kept hb8)
                    have HTy := hid (show typV (rdK u) = knV KS.data.toList by rw [HKc.out]; unfold typV; rw [hkok]; rfl)
                    have HO8 := hid (own_base (C := w.heap.size) (ownsRow_same HOw.out fun g hg => hb8.block g (HOw.out.lt g hg).2) (by have := HLt.out; omega))
                    have HNe := hid (show (Value.slice x1 x2 x3).ownBlock ≠ some (w.heap.size + 1) from fun e => by have h1 := (HOw.out.lt _ e).1; have h2 := HLt.out; omega)
                    have HM1 := hid hM1
                    have HM2 := hid hM2
                    clear hb8 hz8 ht8 hkok hM1 hM2
                    go_wp2_with fail
                    refine bodyPost_ret (results_t3 rfl _ _ (w.heap.size + 1) M1 M2 (.slice x1 x2 x3) rfl HT8.out.set.range) rfl ⟨?_, .inr ⟨HO.out, .slice x1 x2 x3, (.slice (some ⟨wb.heap.size, 0, none⟩) UB.size cap), ?_, ?_, ?_⟩⟩
                    · exact ((HB8.out.setCell (p := ⟨w.heap.size + 1, 0, none⟩) (Nat.le_succ _) _).setCell (p := ⟨w.heap.size + 1, 1, none⟩) (Nat.le_succ _) _).setCell (p := ⟨w.heap.size + 1, 2, none⟩) (Nat.le_succ _) _
                    · rw [HTy.out, HM1.out, HM2.out]; rfl
                    · rw [HTy.out]; exact own_apR (own_apR (own_apR HO8.out HNe.out) HNe.out) HNe.out
                    · rw [HB.out]
                      have q1 := HS8.out.tri (j := 0) (y := .string M1) HT8.out
                      have r1 : TriR ((wz.alloc (.cells #[.string M1, .string M2, .slice x1 x2 x3] 39)).setCell ⟨w.heap.size + 1, 0, none⟩ (.string M1)) (w.heap.size + 1) M1 ⟨#[]⟩ (.slice none 0 0) := Lib.heap_setCell_same HT8.out (i := 0) (.string M1)
                      have q2 := q1.tri (j := 1) (y := .string M2) r1
                      have r2 : TriR (((wz.alloc (.cells #[.string M1, .string M2, .slice x1 x2 x3] 39)).setCell ⟨w.heap.size + 1, 0, none⟩ (.string M1)).setCell ⟨w.heap.size + 1, 1, none⟩ (.string M2)) (w.heap.size + 1) M1 M2 (.slice none 0 0) := Lib.heap_setCell_same r1 (i := 1) (.string M2)
                      exact q2.tri r2
                  | false =>
                    have hz9 : (wz.alloc (.cells #[.string ⟨#[116, 101, 120, 116]⟩, .string ⟨#[112, 108, 97, 105, 110]⟩, .slice (some ⟨wz.heap.size + 1, 0, none⟩) 1 1] 39)).heap.size = wz.heap.size + 1 := by simp
                    have h9 : ((wz.alloc (.cells #[.string ⟨#[116, 101, 120, 116]⟩, .string ⟨#[112, 108, 97, 105, 110]⟩, .slice (some ⟨wz.heap.size + 1, 0, none⟩) 1 1] 39)).alloc (.cells #[.string ⟨#[99, 104, 97, 114, 115, 101, 116]⟩, .string ⟨#[85, 83, 45, 65, 83, 67, 73, 73]⟩] 44)).heap[wz.heap.size + 1]? = some (.cells #[.string ⟨#[99, 104, 97, 114, 115, 101, 116]⟩, .string ⟨#[85, 83, 45, 65, 83, 67, 73, 73]⟩] 44 (0, 0)) := by
                      have := heap_alloc_new (wz.alloc (.cells #[.string ⟨#[116, 101, 120, 116]⟩, .string ⟨#[112, 108, 97, 105, 110]⟩, .slice (some ⟨wz.heap.size + 1, 0, none⟩) 1 1] 39)) (.cells #[.string ⟨#[99, 104, 97, 114, 115, 101, 116]⟩, .string ⟨#[85, 83, 45, 65, 83, 67, 73, 73]⟩] 44)
                      rw [hz9] at this
                      exact this
                    have hb9 : Below wz.heap.size wz ((wz.alloc (.cells #[.string ⟨#[116, 101, 120, 116]⟩, .string ⟨#[112, 108, 97, 105, 110]⟩, .slice (some ⟨wz.heap.size + 1, 0, none⟩) 1 1] 39)).alloc (.cells #[.string ⟨#[99, 104, 97, 114, 115, 101, 116]⟩, .string ⟨#[85, 83, 45, 65, 83, 67, 73, 73]⟩] 44)) := below2 ((Below.refl _ wz).alloc (Nat.le_refl _) _) ((Below.refl _ _).alloc (Nat.le_refl _) _)
                    have ht9 := HTz.out.kept hb9
                    obtain ⟨t0', t1', t2'⟩ := ht9.cells
                    have f0' := ht9.frozen 0
                    have f1' := ht9.frozen 1
                    have f2' := ht9.frozen 2
                    have HT9 := hid ht9
                    have HB9 := hid (below2 HBz.out hb9)
                    have HS9 := hid (HSz.out.kept hb9)
                    have H9 := hid h9
                    have HLz := hid HTz.out.lt
                    have HTy := hid (show typV (rdK u) = usual by rw [HKc.out]; unfold typV; rw [hkok]; rfl)
                    clear hb8 hz8 hkok hM1 hM2 hz9 h9 hb9 ht9 t0 t1 t2 f0 f1 f2
                    go_wp2_with fail
                    refine bodyPost_ret (results_t3 rfl _ _ (w.heap.size + 1) ⟨#[116, 101, 120, 116]⟩ ⟨#[112, 108, 97, 105, 110]⟩ (.slice (some ⟨wz.heap.size + 1, 0, none⟩) 1 1) rfl HT9.out.set.range) rfl ⟨?_, .inr ⟨HO.out, .slice (some ⟨wz.heap.size + 1, 0, none⟩) 1 1, (.slice (some ⟨wb.heap.size, 0, none⟩) UB.size cap), ?_, ?_, ?_⟩⟩
                    · exact ((HB9.out.setCell (p := ⟨w.heap.size + 1, 0, none⟩) (Nat.le_succ _) _).setCell (p := ⟨w.heap.size + 1, 1, none⟩) (Nat.le_succ _) _).setCell (p := ⟨w.heap.size + 1, 2, none⟩) (Nat.le_succ _) _
                    · rw [HTy.out]; rfl
                    · rw [HTy.out]
                      have hlt : w.heap.size + 1 < wz.heap.size := HLz.out
                      have ho : ((wz.alloc (.cells #[.string ⟨#[116, 101, 120, 116]⟩, .string ⟨#[112, 108, 97, 105, 110]⟩, .slice (some ⟨wz.heap.size + 1, 0, none⟩) 1 1] 39)).alloc (.cells #[.string ⟨#[99, 104, 97, 114, 115, 101, 116]⟩, .string ⟨#[85, 83, 45, 65, 83, 67, 73, 73]⟩] 44)).ownsRow w.heap.size 44 2 (.slice (some ⟨wz.heap.size + 1, 0, none⟩) 1 1) usual.params.length (cellsH usual.params) :=
                        ⟨by decide, .inr ⟨wz.heap.size + 1, 1, _, rfl, by omega, H9.out, by decide, by decide, by decide, rfl⟩⟩
                      exact own_apR (own_apR (own_apR ho (by simp [Value.ownBlock]; omega)) (by simp [Value.ownBlock]; omega)) (by simp [Value.ownBlock]; omega)
                    · rw [HB.out]
                      have q1 := HS9.out.tri (j := 0) (y := .string ⟨#[116, 101, 120, 116]⟩) HT9.out
                      have r1 : TriR (((wz.alloc (.cells #[.string ⟨#[116, 101, 120, 116]⟩, .string ⟨#[112, 108, 97, 105, 110]⟩, .slice (some ⟨wz.heap.size + 1, 0, none⟩) 1 1] 39)).alloc (.cells #[.string ⟨#[99, 104, 97, 114, 115, 101, 116]⟩, .string ⟨#[85, 83, 45, 65, 83, 67, 73, 73]⟩] 44)).setCell ⟨w.heap.size + 1, 0, none⟩ (.string ⟨#[116, 101, 120, 116]⟩)) (w.heap.size + 1) ⟨#[116, 101, 120, 116]⟩ ⟨#[]⟩ (.slice none 0 0) := Lib.heap_setCell_same HT9.out (i := 0) (.string ⟨#[116, 101, 120, 116]⟩)
                      have q2 := q1.tri (j := 1) (y := .string ⟨#[112, 108, 97, 105, 110]⟩) r1
                      have r2 : TriR ((((wz.alloc (.cells #[.string ⟨#[116, 101, 120, 116]⟩, .string ⟨#[112, 108, 97, 105, 110]⟩, .slice (some ⟨wz.heap.size + 1, 0, none⟩) 1 1] 39)).alloc (.cells #[.string ⟨#[99, 104, 97, 114, 115, 101, 116]⟩, .string ⟨#[85, 83, 45, 65, 83, 67, 73, 73]⟩] 44)).setCell ⟨w.heap.size + 1, 0, none⟩ (.string ⟨#[116, 101, 120, 116]⟩)).setCell ⟨w.heap.size + 1, 1, none⟩ (.string ⟨#[112, 108, 97, 105, 110]⟩)) (w.heap.size + 1) ⟨#[116, 101, 120, 116]⟩ ⟨#[112, 108, 97, 105, 110]⟩ (.slice none 0 0) := Lib.heap_setCell_same r1 (i := 1) (.string ⟨#[112, 108, 97, 105, 110]⟩)
                      exact q2.tri r2
                | true =>
                  obtain ⟨KC, hKC⟩ : ∃ X : ByteArray, ⟨#[116, 101, 120, 116, 47, 112, 108, 97, 105, 110]⟩ ++ KS = X := ⟨_, rfl⟩
                  have hKl : KC.data.toList = tplB ++ KS.data.toList := by rw [← hKC]; simp [tplB]
                  have HKc := hid (show rdK u = KC.data.toList by rw [HK.out, hKl]; unfold comK; rw [hbg]; rfl)
                  have hKCs : KC.size ≤ 500000 := by rw [Lib.size_eq, hKl, List.length_append, ← Lib.size_eq]; show 10 + _ ≤ _; omega
                  have HPr := hid (fun w => rparse6_any KC w (by omega))
                  clear hbg hKl
                  go_wp2_with fail
                  refine (HBg.out _).mono ?_
                  rintro e wq ⟨rfl, rfl⟩
                  go_wp2_with fail
                  refine (HPr.out _).mono ?_
                  rintro e wz ⟨v, rfl, hown, hbz⟩
                  unfold knVal
                  obtain ⟨x1, x2, x3, rfl⟩ := own_slice hown
                  have HBz := hid (below2 HBx.out hbz)
                  have HTz := hid (HTx.out.kept hbz)
                  have HSz := hid (HSx.out.kept hbz)
                  have HOw := hid hown
                  clear hbz hown
                  obtain ⟨kok, hkok⟩ : ∃ b, knOk KC.data.toList = b := ⟨_, rfl⟩
                  rw [hkok]
                  obtain ⟨M1, hM1⟩ : ∃ A, ba (knV KC.data.toList).major = A := ⟨_, rfl⟩
                  obtain ⟨M2, hM2⟩ : ∃ A, ba (knV KC.data.toList).minor = A := ⟨_, rfl⟩
                  rw [hM1, hM2]
                  have hb8 : Below wz.heap.size wz (wz.alloc (.cells #[.string M1, .string M2, .slice x1 x2 x3] 39)) := (Below.refl _ _).alloc (Nat.le_refl _) _
                  have hz8 : (wz.alloc (.cells #[.string M1, .string M2, .slice x1 x2 x3] 39)).heap.size = wz.heap.size + 1 := by simp
                  cases kok with
                  | true =>
                    have ht8 := HTz.out.kept hb8
                    obtain ⟨t0, t1, t2⟩ := ht8.cells
                    have f0 := ht8.frozen 0
                    have f1 := ht8.frozen 1
                    have f2 := ht8.frozen 2
                    have HT8 := hid ht8
                    have HB8 := hid (below2 HBz.out hb8)
                    have HS8 := hid (HSz.out.kept hb8)
                    have HTy := hid (show typV (rdK u) = knV KC.data.toList by rw [HKc.out]; unfold typV; rw [hkok]; rfl)
                    have HO8 := hid (own_base (C := w.heap.size) (ownsRow_same HOw.out fun g hg => hb8.block g (HOw.out.lt g hg).2) (by have := HLt.out; omega))
                    have HNe := hid (show (Value.slice x1 x2 x3).ownBlock ≠ some (w.heap.size + 1) from fun e => by have h1 := (HOw.out.lt _ e).1; have h2 := HLt.out; omega)
                    have HM1 := hid hM1
                    have HM2 := hid hM2
                    clear hb8 hz8 ht8 hkok hM1 hM2
                    go_wp2_with fail
                    refine bodyPost_ret (results_t3 rfl _ _ (w.heap.size + 1) M1 M2 (.slice x1 x2 x3) rfl HT8.out.set.range) rfl ⟨?_, .inr ⟨HO.out, .slice x1 x2 x3, (.slice (some ⟨wb.heap.size, 0, none⟩) UB.size cap), ?_, ?_, ?_⟩⟩
                    · exact ((HB8.out.setCell (p := ⟨w.heap.size + 1, 0, none⟩) (Nat.le_succ _) _).setCell (p := ⟨w.heap.size + 1, 1, none⟩) (Nat.le_succ _) _).setCell (p := ⟨w.heap.size + 1, 2, none⟩) (Nat.le_succ _) _
                    · rw [HTy.out, HM1.out, HM2.out]; rfl
                    · rw [HTy.out]; exact own_apR (own_apR (own_apR HO8.out HNe.out) HNe.out) HNe.out
                    · rw [HB.out]
                      have q1 := HS8.out.tri (j := 0) (y := .string M1) HT8.out
                      have r1 : TriR ((wz.alloc (.cells #[.string M1, .string M2, .slice x1 x2 x3] 39)).setCell ⟨w.heap.size + 1, 0, none⟩ (.string M1)) (w.heap.size + 1) M1 ⟨#[]⟩ (.slice none 0 0) := Lib.heap_setCell_same HT8.out (i := 0) (.string M1)
                      have q2 := q1.tri (j := 1) (y := .string M2) r1
                      have r2 : TriR (((wz.alloc (.cells #[.string M1, .string M2, .slice x1 x2 x3] 39)).setCell ⟨w.heap.size + 1, 0, none⟩ (.string M1)).setCell ⟨w.heap.size + 1, 1, none⟩ (.string M2)) (w.heap.size + 1) M1 M2 (.slice none 0 0) := Lib.heap_setCell_same r1 (i := 1) (.string M2)
                      exact q2.tri r2
                  | false =>
                    have hz9 : (wz.alloc (.cells #[.string ⟨#[116, 101, 120, 116]⟩, .string ⟨#[112, 108, 97, 105, 110]⟩, .slice (some ⟨wz.heap.size + 1, 0, none⟩) 1 1] 39)).heap.size = wz.heap.size + 1 := by simp
                    have h9 : ((wz.alloc (.cells #[.string ⟨#[116, 101, 120, 116]⟩, .string ⟨#[112, 108, 97, 105, 110]⟩, .slice (some ⟨wz.heap.size + 1, 0, none⟩) 1 1] 39)).alloc (.cells #[.string ⟨#[99, 104, 97, 114, 115, 101, 116]⟩, .string ⟨#[85, 83, 45, 65, 83, 67, 73, 73]⟩] 44)).heap[wz.heap.size + 1]? = some (.cells #[.string ⟨#[99, 104, 97, 114, 115, 101, 116]⟩, .string ⟨#[85, 83, 45, 65, 83, 67, 73, 73]⟩] 44 (0, 0)) := by
                      have := heap_alloc_new (wz.alloc (.cells #[.string ⟨#[116, 101, 120, 116]⟩, .string ⟨#[112, 108, 97, 105, 110]⟩, .slice (some ⟨wz.heap.size + 1, 0, none⟩) 1 1] 39)) (.cells #[.string ⟨#[99, 104, 97, 114, 115, 101, 116]⟩, .string ⟨#[85, 83, 45, 65, 83, 67, 73, 73]⟩] 44)
                      rw [hz9] at this
                      exact this
                    have hb9 : Below wz.heap.size wz ((wz.alloc (.cells #[.string ⟨#[116, 101, 120, 116]⟩, .string ⟨#[112, 108, 97, 105, 110]⟩, .slice (some ⟨wz.heap.size + 1, 0, none⟩) 1 1] 39)).alloc (.cells #[.string ⟨#[99, 104, 97, 114, 115, 101, 116]⟩, .string ⟨#[85, 83, 45, 65, 83, 67, 73, 73]⟩] 44)) := below2 ((Below.refl _ wz).alloc (Nat.le_refl _) _) ((Below.refl _ _).alloc (Nat.le_refl _) _)
                    have ht9 := HTz.out.kept hb9
                    obtain ⟨t0', t1', t2'⟩ := ht9.cells
                    have f0' := ht9.frozen 0
                    have f1' := ht9.frozen 1
                    have f2' := ht9.frozen 2
                    have HT9 := hid ht9
                    have HB9 := hid (below2 HBz.out hb9)
                    have HS9 := hid (HSz.out.kept hb9)
                    have H9 := hid h9
                    have HLz := hid HTz.out.lt
                    have HTy := hid (show typV (rdK u) = usual by rw [HKc.out]; unfold typV; rw [hkok]; rfl)
                    clear hb8 hz8 hkok hM1 hM2 hz9 h9 hb9 ht9 t0 t1 t2 f0 f1 f2
                    go_wp2_with fail
                    refine bodyPost_ret (results_t3 rfl _ _ (w.heap.size + 1) ⟨#[116, 101, 120, 116]⟩ ⟨#[112, 108, 97, 105, 110]⟩ (.slice (some ⟨wz.heap.size + 1, 0, none⟩) 1 1) rfl HT9.out.set.range) rfl ⟨?_, .inr ⟨HO.out, .slice (some ⟨wz.heap.size + 1, 0, none⟩) 1 1, (.slice (some ⟨wb.heap.size, 0, none⟩) UB.size cap), ?_, ?_, ?_⟩⟩
                    · exact ((HB9.out.setCell (p := ⟨w.heap.size + 1, 0, none⟩) (Nat.le_succ _) _).setCell (p := ⟨w.heap.size + 1, 1, none⟩) (Nat.le_succ _) _).setCell (p := ⟨w.heap.size + 1, 2, none⟩) (Nat.le_succ _) _
                    · rw [HTy.out]; rfl
                    · rw [HTy.out]
                      have hlt : w.heap.size + 1 < wz.heap.size := HLz.out
                      have ho : ((wz.alloc (.cells #[.string ⟨#[116, 101, 120, 116]⟩, .string ⟨#[112, 108, 97, 105, 110]⟩, .slice (some ⟨wz.heap.size + 1, 0, none⟩) 1 1] 39)).alloc (.cells #[.string ⟨#[99, 104, 97, 114, 115, 101, 116]⟩, .string ⟨#[85, 83, 45, 65, 83, 67, 73, 73]⟩] 44)).ownsRow w.heap.size 44 2 (.slice (some ⟨wz.heap.size + 1, 0, none⟩) 1 1) usual.params.length (cellsH usual.params) :=
                        ⟨by decide, .inr ⟨wz.heap.size + 1, 1, _, rfl, by omega, H9.out, by decide, by decide, by decide, rfl⟩⟩
                      exact own_apR (own_apR (own_apR ho (by simp [Value.ownBlock]; omega)) (by simp [Value.ownBlock]; omega)) (by simp [Value.ownBlock]; omega)
                    · rw [HB.out]
                      have q1 := HS9.out.tri (j := 0) (y := .string ⟨#[116, 101, 120, 116]⟩) HT9.out
                      have r1 : TriR (((wz.alloc (.cells #[.string ⟨#[116, 101, 120, 116]⟩, .string ⟨#[112, 108, 97, 105, 110]⟩, .slice (some ⟨wz.heap.size + 1, 0, none⟩) 1 1] 39)).alloc (.cells #[.string ⟨#[99, 104, 97, 114, 115, 101, 116]⟩, .string ⟨#[85, 83, 45, 65, 83, 67, 73, 73]⟩] 44)).setCell ⟨w.heap.size + 1, 0, none⟩ (.string ⟨#[116, 101, 120, 116]⟩)) (w.heap.size + 1) ⟨#[116, 101, 120, 116]⟩ ⟨#[]⟩ (.slice none 0 0) := Lib.heap_setCell_same HT9.out (i := 0) (.string ⟨#[116, 101, 120, 116]⟩)
                      have q2 := q1.tri (j := 1) (y := .string ⟨#[112, 108, 97, 105, 110]⟩) r1
                      have r2 : TriR ((((wz.alloc (.cells #[.string ⟨#[116, 101, 120, 116]⟩, .string ⟨#[112, 108, 97, 105, 110]⟩, .slice (some ⟨wz.heap.size + 1, 0, none⟩) 1 1] 39)).alloc (.cells #[.string ⟨#[99, 104, 97, 114, 115, 101, 116]⟩, .string ⟨#[85, 83, 45, 65, 83, 67, 73, 73]⟩] 44)).setCell ⟨w.heap.size + 1, 0, none⟩ (.string ⟨#[116, 101, 120, 116]⟩)).setCell ⟨w.heap.size + 1, 1, none⟩ (.string ⟨#[112, 108, 97, 105, 110]⟩)) (w.heap.size + 1) ⟨#[116, 101, 120, 116]⟩ ⟨#[112, 108, 97, 105, 110]⟩ (.slice none 0 0) := Lib.heap_setCell_same r1 (i := 1) (.string ⟨#[112, 108, 97, 105, 110]⟩)
                      exact q2.tri r2
      | true =>
        obtain ⟨SB, hSB⟩ : ∃ X : ByteArray, PB ++ ⟨#[63]⟩ ++ QU = X := ⟨_, rfl⟩
        have hSBs : SB.size ≤ 50000 := by rw [← hSB, ByteArray.size_append, ByteArray.size_append]; show _ + 1 + _ ≤ _; omega
        have hSBl : SB.data.toList = txtD u := by rw [← hSB, htx, ← HHq.out]; simp [← hPB, ba, HQl.out]
        have hpl2 := part_le 44 (txtD u)
        rw [← hSBl, ← Lib.size_eq] at hpl2
        rw [hSBl] at hpl2
        have HPt : Hid (∀ w : World, Calls Tryz.prog 31 #[.string SB, .int .u8 44] w fun e w' => e = .returned (.tuple #[.string (ba (part 44 (txtD u)).1), .string (ba (part 44 (txtD u)).2.1), .bool (part 44 (txtD u)).2.2]) ∧ Below w.heap.size w w') := fun w => by
          have := rpart_any SB 44 w (by omega)
          rw [hSBl] at this
          exact this
        obtain ⟨K0, hK0⟩ : ∃ X, ba (part 44 (txtD u)).1 = X := ⟨_, rfl⟩
        obtain ⟨T0, hT0⟩ : ∃ X, ba (part 44 (txtD u)).2.1 = X := ⟨_, rfl⟩
        obtain ⟨ok0, hok0⟩ : ∃ X, (part 44 (txtD u)).2.2 = X := ⟨_, rfl⟩
        rw [hK0, hT0, hok0] at HPt
        have hK0s : K0.size ≤ 50000 := by rw [← hK0, ba_size]; omega
        have hT0s : T0.size ≤ 50000 := by rw [← hT0, ba_size]; omega
        have hK0l : K0.data.toList = (part 44 (txtD u)).1 := by rw [← hK0]; rfl
        have hT0l : T0.data.toList = (part 44 (txtD u)).2.1 := by rw [← hT0]; rfl
        clear hpl2 hK0 hT0 hSBl
        cases ok0 with
        | false =>
          have HO := hid (show rdO u = false by unfold rdO; rw [hd]; unfold cutO; rw [hok0]; rfl)
          clear hok0 hd htx hpp hhh hK0l hT0l
          go_enter Tryz.func14, Tryz.ntmps14
          go_wp2_with fail
          refine (HPt.out _).mono ?_
          rintro e wa ⟨rfl, hba⟩
          have HTa := hid (HT0.out.kept hba)
          have HBa := hid (below2 HB0.out hba)
          clear t0 t1 t2 f0 f1 f2 y0 y6 y7 y8 y10 hpc
          obtain ⟨t0, t1, t2⟩ := HTa.out.cells
          have f0 := HTa.out.frozen 0
          have f1 := HTa.out.frozen 1
          have f2 := HTa.out.frozen 2
          clear hba
          go_wp2_with fail
          refine bodyPost_ret (results_t3 rfl _ _ (w.heap.size + 1) ⟨#[]⟩ ⟨#[]⟩ (.slice none 0 0) rfl (by first | exact HTa.out.range | exact HTa.out.set.range)) rfl ⟨by first | exact HBa.out | exact ((HBa.out.setCell (p := ⟨w.heap.size + 1, 0, none⟩) (Nat.le_succ _) _).setCell (p := ⟨w.heap.size + 1, 1, none⟩) (Nat.le_succ _) _).setCell (p := ⟨w.heap.size + 1, 2, none⟩) (Nat.le_succ _) _, .inl ⟨HO.out, rfl⟩⟩
        | true =>
          have hcO : cutO (txtD u) = true := hok0
          obtain ⟨KS, hKS⟩ : ∃ X, ba (strip K0.data.toList) = X := ⟨_, rfl⟩
          obtain ⟨UB, hUB⟩ : ∃ X, ba (unpct T0.data.toList) = X := ⟨_, rfl⟩
          have hKSl : KS.data.toList = cutK (txtD u) := by rw [← hKS, hK0l]; rfl
          have hUBl : UB.data.toList = cutD (txtD u) := by rw [← hUB, hT0l]; rfl
          have hKSs : KS.size ≤ 50000 := by rw [← hKS, ba_size]; have := strip_le2 K0.data.toList; rw [← Lib.size_eq] at this; omega
          have hUBs : UB.size ≤ 50000 := by rw [← hUB, ba_size]; have := unpct_le2 T0.data.toList; rw [← Lib.size_eq] at this; omega
          have HSt : Hid (∀ w : World, Calls Tryz.prog 32 #[.string K0] w fun e w' => e = .returned (.string KS) ∧ w = w') := fun w => by rw [← hKS]; exact rstrip_any K0 w (by omega)
          have HUn : Hid (∀ w : World, Calls Tryz.prog 33 #[.string T0] w fun e w' => e = .returned (.string UB) ∧ Below w.heap.size w w') := fun w => by rw [← hUB]; exact runpercent_any T0 w (by omega)
          obtain ⟨LB, hLB⟩ : ∃ X, ba (low KS.data.toList) = X := ⟨_, rfl⟩
          have HLw : Hid (∀ w : World, Calls Tryz.prog 35 #[.string KS] w fun e w' => e = .returned (.string LB) ∧ Below w.heap.size w w') := fun w => by rw [← hLB]; exact rlower_any KS w (by omega)
          have hLBs : LB.size ≤ 50000 := by rw [← hLB, ba_size]; unfold low; rw [List.length_map, ← Lib.size_eq]; omega
          have HE6 : Hid (∀ w : World, Calls Tryz.prog 34 #[.string LB, .string ⟨#[98, 97, 115, 101, 54, 52]⟩] w fun e w' => e = .returned (.bool (ends6 KS.data.toList)) ∧ w = w') := fun w => by
            rw [← ends_low, show low KS.data.toList = LB.data.toList by rw [← hLB]; rfl]
            exact ends_any LB ⟨#[98, 97, 115, 101, 54, 52]⟩ w (by omega) (by decide)
          obtain ⟨e6, he6⟩ : ∃ b, ends6 KS.data.toList = b := ⟨_, rfl⟩
          rw [he6] at HE6
          have HRd := hid (show isD u = true ∧ cutO (txtD u) = true from ⟨hd, hcO⟩)
          clear hKS hUB hLB hK0l hT0l hok0 hcO hd htx hpp hhh
          go_enter Tryz.func14, Tryz.ntmps14
          go_wp2_with fail
          refine (HPt.out _).mono ?_
          rintro e wa ⟨rfl, hba⟩
          go_wp2_with fail
          refine (HSt.out _).mono ?_
          rintro e wq ⟨rfl, rfl⟩
          go_wp2_with fail
          refine (HUn.out _).mono ?_
          rintro e wb ⟨rfl, hbb⟩
          have hcv := run_bytes_of_string (P := Tryz.prog) wb 9 27 5 UB Tryz.underlying9 Tryz.underlying27 Tryz.underlying5
          have hcap := grownCap_ge wb UB.size 0 5
          have hr0 := rowIs_bytes wb 5 UB (grownCap wb UB.size 0 5) hcap
          have hbc : Below wb.heap.size wb (wb.drew.alloc (.cells (bytesRow UB (grownCap wb UB.size 0 5)) 5 ((bytesRow UB (grownCap wb UB.size 0 5)).size, (bytesRow UB (grownCap wb UB.size 0 5)).size + 1))) := (Below.refl _ wb).drew.alloc (Nat.le_refl _) _
          generalize (wb.drew.alloc (.cells (bytesRow UB (grownCap wb UB.size 0 5)) 5 ((bytesRow UB (grownCap wb UB.size 0 5)).size, (bytesRow UB (grownCap wb UB.size 0 5)).size + 1))) = wc at hcv hr0 hbc
          generalize grownCap wb UB.size 0 5 = cap at hcv hcap
          have hSc : SlB wc (.slice (some ⟨wb.heap.size, 0, none⟩) UB.size cap) UB.data.toList := .inr ⟨_, _, by rw [← Lib.size_eq], fun j hj => by have := hr0.cell j hj; rw [Addr.add_lit]; simpa using this⟩
          have HTc := hid (((HT0.out.kept hba).kept hbb).kept hbc)
          have HBc := hid (below2 (below2 (below2 HB0.out hba) hbb) hbc)
          have HSc := hid hSc
          clear hba hbb hbc hr0 hSc t0 t1 t2 f0 f1 f2 y0 y6 y7 y8 y10 hpc hcap
          go_wp2_with fail
          clear hcv
          refine (HLw.out _).mono ?_
          rintro e wd ⟨rfl, hbd⟩
          have HTx := hid (HTc.out.kept hbd)
          have HBx := hid (below2 HBc.out hbd)
          have HSx := hid (HSc.out.kept hbd)
          obtain ⟨t0, t1, t2⟩ := HTx.out.cells
          have f0 := HTx.out.frozen 0
          have f1 := HTx.out.frozen 1
          have f2 := HTx.out.frozen 2
          clear hbd
          go_wp2_with fail
          refine (HE6.out _).mono ?_
          rintro e wq ⟨rfl, rfl⟩
          cases e6 with
          | false =>
            have him : isM KS.data.toList = false := by unfold isM; rw [he6]; rfl
            have HK := hid (show rdK u = comK KS.data.toList by unfold rdK unK; rw [← hKSl, him]; rfl)
            have HB := hid (show rdB u = UB.data.toList by unfold rdB unB; rw [← hKSl, him, hUBl]; rfl)
            have HO := hid (show rdO u = true by unfold rdO unO; rw [HRd.out.1, HRd.out.2, ← hKSl, him]; rfl)
            clear him he6 hKSl hUBl
            have HLt := hid (show w.heap.size + 1 < _ from HTx.out.lt)
            have HBg := hid (fun w : World => begins_any KS ⟨#[59]⟩ w (by omega) (by decide))
            rw [show (⟨#[59]⟩ : ByteArray).data.toList = [59] from rfl] at HBg
            obtain ⟨bg, hbg⟩ : ∃ b, Lib.hasPrefix KS.data.toList [59] = b := ⟨_, rfl⟩
            rw [hbg] at HBg
            cases bg with
            | false =>
              have HKc := hid (show rdK u = KS.data.toList by rw [HK.out]; unfold comK; rw [hbg]; rfl)
              have HPr := hid (fun w => rparse6_any KS w (by omega))
              clear hbg
              go_wp2_with fail
              refine (HBg.out _).mono ?_
              rintro e wq ⟨rfl, rfl⟩
              go_wp2_with fail
              refine (HPr.out _).mono ?_
              rintro e wz ⟨v, rfl, hown, hbz⟩
              unfold knVal
              obtain ⟨x1, x2, x3, rfl⟩ := own_slice hown
              have HBz := hid (below2 HBx.out hbz)
              have HTz := hid (HTx.out.kept hbz)
              have HSz := hid (HSx.out.kept hbz)
              have HOw := hid hown
              clear hbz hown
              obtain ⟨kok, hkok⟩ : ∃ b, knOk KS.data.toList = b := ⟨_, rfl⟩
              rw [hkok]
              obtain ⟨M1, hM1⟩ : ∃ A, ba (knV KS.data.toList).major = A := ⟨_, rfl⟩
              obtain ⟨M2, hM2⟩ : ∃ A, ba (knV KS.data.toList).minor = A := ⟨_, rfl⟩
              rw [hM1, hM2]
              have hb8 : Below wz.heap.size wz (wz.alloc (.cells #[.string M1, .string M2, .slice x1 x2 x3] 39)) := (Below.refl _ _).alloc (Nat.le_refl _) _
              have hz8 : (wz.alloc (.cells #[.string M1, .string M2, .slice x1 x2 x3] 39)).heap.size = wz.heap.size + 1 := by simp
              cases kok with
              | true =>
                have ht8 := HTz.out.kept hb8
                obtain ⟨t0, t1, t2⟩ := ht8.cells
                have f0 := ht8.frozen 0
                have f1 := ht8.frozen 1
                have f2 := ht8.frozen 2
                have HT8 := hid ht8
                have HB8 := hid (below2 HBz.out hb8)
                have HS8 := hid (HSz.out.kept hb8)
                have HTy := hid (show typV (rdK u) = knV KS.data.toList by rw [HKc.out]; unfold typV; rw [hkok]; rfl)
                have HO8 := hid (own_base (C := w.heap.size) (ownsRow_same HOw.out fun g hg => hb8.block g (HOw.out.lt g hg).2) (by have := HLt.out; omega))
                have HNe := hid (show (Value.slice x1 x2 x3).ownBlock ≠ some (w.heap.size + 1) from fun e => by have h1 := (HOw.out.lt _ e).1; have h2 := HLt.out; omega)
                have HM1 := hid hM1
                have HM2 := hid hM2
                clear hb8 hz8 ht8 hkok hM1 hM2
                go_wp2_with fail
                refine bodyPost_ret (results_t3 rfl _ _ (w.heap.size + 1) M1 M2 (.slice x1 x2 x3) rfl HT8.out.set.range) rfl ⟨?_, .inr ⟨HO.out, .slice x1 x2 x3, (.slice (some ⟨wb.heap.size, 0, none⟩) UB.size cap), ?_, ?_, ?_⟩⟩
                · exact ((HB8.out.setCell (p := ⟨w.heap.size + 1, 0, none⟩) (Nat.le_succ _) _).setCell (p := ⟨w.heap.size + 1, 1, none⟩) (Nat.le_succ _) _).setCell (p := ⟨w.heap.size + 1, 2, none⟩) (Nat.le_succ _) _
                · rw [HTy.out, HM1.out, HM2.out]; rfl
                · rw [HTy.out]; exact own_apR (own_apR (own_apR HO8.out HNe.out) HNe.out) HNe.out
                · rw [HB.out]
                  have q1 := HS8.out.tri (j := 0) (y := .string M1) HT8.out
                  have r1 : TriR ((wz.alloc (.cells #[.string M1, .string M2, .slice x1 x2 x3] 39)).setCell ⟨w.heap.size + 1, 0, none⟩ (.string M1)) (w.heap.size + 1) M1 ⟨#[]⟩ (.slice none 0 0) := Lib.heap_setCell_same HT8.out (i := 0) (.string M1)
                  have q2 := q1.tri (j := 1) (y := .string M2) r1
                  have r2 : TriR (((wz.alloc (.cells #[.string M1, .string M2, .slice x1 x2 x3] 39)).setCell ⟨w.heap.size + 1, 0, none⟩ (.string M1)).setCell ⟨w.heap.size + 1, 1, none⟩ (.string M2)) (w.heap.size + 1) M1 M2 (.slice none 0 0) := Lib.heap_setCell_same r1 (i := 1) (.string M2)
                  exact q2.tri r2
              | false =>
                have hz9 : (wz.alloc (.cells #[.string ⟨#[116, 101, 120, 116]⟩, .string ⟨#[112, 108, 97, 105, 110]⟩, .slice (some ⟨wz.heap.size + 1, 0, none⟩) 1 1] 39)).heap.size = wz.heap.size + 1 := by simp
                have h9 : ((wz.alloc (.cells #[.string ⟨#[116, 101, 120, 116]⟩, .string ⟨#[112, 108, 97, 105, 110]⟩, .slice (some ⟨wz.heap.size + 1, 0, none⟩) 1 1] 39)).alloc (.cells #[.string ⟨#[99, 104, 97, 114, 115, 101, 116]⟩, .string ⟨#[85, 83, 45, 65, 83, 67, 73, 73]⟩] 44)).heap[wz.heap.size + 1]? = some (.cells #[.string ⟨#[99, 104, 97, 114, 115, 101, 116]⟩, .string ⟨#[85, 83, 45, 65, 83, 67, 73, 73]⟩] 44 (0, 0)) := by
                  have := heap_alloc_new (wz.alloc (.cells #[.string ⟨#[116, 101, 120, 116]⟩, .string ⟨#[112, 108, 97, 105, 110]⟩, .slice (some ⟨wz.heap.size + 1, 0, none⟩) 1 1] 39)) (.cells #[.string ⟨#[99, 104, 97, 114, 115, 101, 116]⟩, .string ⟨#[85, 83, 45, 65, 83, 67, 73, 73]⟩] 44)
                  rw [hz9] at this
                  exact this
                have hb9 : Below wz.heap.size wz ((wz.alloc (.cells #[.string ⟨#[116, 101, 120, 116]⟩, .string ⟨#[112, 108, 97, 105, 110]⟩, .slice (some ⟨wz.heap.size + 1, 0, none⟩) 1 1] 39)).alloc (.cells #[.string ⟨#[99, 104, 97, 114, 115, 101, 116]⟩, .string ⟨#[85, 83, 45, 65, 83, 67, 73, 73]⟩] 44)) := below2 ((Below.refl _ wz).alloc (Nat.le_refl _) _) ((Below.refl _ _).alloc (Nat.le_refl _) _)
                have ht9 := HTz.out.kept hb9
                obtain ⟨t0', t1', t2'⟩ := ht9.cells
                have f0' := ht9.frozen 0
                have f1' := ht9.frozen 1
                have f2' := ht9.frozen 2
                have HT9 := hid ht9
                have HB9 := hid (below2 HBz.out hb9)
                have HS9 := hid (HSz.out.kept hb9)
                have H9 := hid h9
                have HLz := hid HTz.out.lt
                have HTy := hid (show typV (rdK u) = usual by rw [HKc.out]; unfold typV; rw [hkok]; rfl)
                clear hb8 hz8 hkok hM1 hM2 hz9 h9 hb9 ht9 t0 t1 t2 f0 f1 f2
                go_wp2_with fail
                refine bodyPost_ret (results_t3 rfl _ _ (w.heap.size + 1) ⟨#[116, 101, 120, 116]⟩ ⟨#[112, 108, 97, 105, 110]⟩ (.slice (some ⟨wz.heap.size + 1, 0, none⟩) 1 1) rfl HT9.out.set.range) rfl ⟨?_, .inr ⟨HO.out, .slice (some ⟨wz.heap.size + 1, 0, none⟩) 1 1, (.slice (some ⟨wb.heap.size, 0, none⟩) UB.size cap), ?_, ?_, ?_⟩⟩
                · exact ((HB9.out.setCell (p := ⟨w.heap.size + 1, 0, none⟩) (Nat.le_succ _) _).setCell (p := ⟨w.heap.size + 1, 1, none⟩) (Nat.le_succ _) _).setCell (p := ⟨w.heap.size + 1, 2, none⟩) (Nat.le_succ _) _
                · rw [HTy.out]; rfl
                · rw [HTy.out]
                  have hlt : w.heap.size + 1 < wz.heap.size := HLz.out
                  have ho : ((wz.alloc (.cells #[.string ⟨#[116, 101, 120, 116]⟩, .string ⟨#[112, 108, 97, 105, 110]⟩, .slice (some ⟨wz.heap.size + 1, 0, none⟩) 1 1] 39)).alloc (.cells #[.string ⟨#[99, 104, 97, 114, 115, 101, 116]⟩, .string ⟨#[85, 83, 45, 65, 83, 67, 73, 73]⟩] 44)).ownsRow w.heap.size 44 2 (.slice (some ⟨wz.heap.size + 1, 0, none⟩) 1 1) usual.params.length (cellsH usual.params) :=
                    ⟨by decide, .inr ⟨wz.heap.size + 1, 1, _, rfl, by omega, H9.out, by decide, by decide, by decide, rfl⟩⟩
                  exact own_apR (own_apR (own_apR ho (by simp [Value.ownBlock]; omega)) (by simp [Value.ownBlock]; omega)) (by simp [Value.ownBlock]; omega)
                · rw [HB.out]
                  have q1 := HS9.out.tri (j := 0) (y := .string ⟨#[116, 101, 120, 116]⟩) HT9.out
                  have r1 : TriR (((wz.alloc (.cells #[.string ⟨#[116, 101, 120, 116]⟩, .string ⟨#[112, 108, 97, 105, 110]⟩, .slice (some ⟨wz.heap.size + 1, 0, none⟩) 1 1] 39)).alloc (.cells #[.string ⟨#[99, 104, 97, 114, 115, 101, 116]⟩, .string ⟨#[85, 83, 45, 65, 83, 67, 73, 73]⟩] 44)).setCell ⟨w.heap.size + 1, 0, none⟩ (.string ⟨#[116, 101, 120, 116]⟩)) (w.heap.size + 1) ⟨#[116, 101, 120, 116]⟩ ⟨#[]⟩ (.slice none 0 0) := Lib.heap_setCell_same HT9.out (i := 0) (.string ⟨#[116, 101, 120, 116]⟩)
                  have q2 := q1.tri (j := 1) (y := .string ⟨#[112, 108, 97, 105, 110]⟩) r1
                  have r2 : TriR ((((wz.alloc (.cells #[.string ⟨#[116, 101, 120, 116]⟩, .string ⟨#[112, 108, 97, 105, 110]⟩, .slice (some ⟨wz.heap.size + 1, 0, none⟩) 1 1] 39)).alloc (.cells #[.string ⟨#[99, 104, 97, 114, 115, 101, 116]⟩, .string ⟨#[85, 83, 45, 65, 83, 67, 73, 73]⟩] 44)).setCell ⟨w.heap.size + 1, 0, none⟩ (.string ⟨#[116, 101, 120, 116]⟩)).setCell ⟨w.heap.size + 1, 1, none⟩ (.string ⟨#[112, 108, 97, 105, 110]⟩)) (w.heap.size + 1) ⟨#[116, 101, 120, 116]⟩ ⟨#[112, 108, 97, 105, 110]⟩ (.slice none 0 0) := Lib.heap_setCell_same r1 (i := 1) (.string ⟨#[112, 108, 97, 105, 110]⟩)
                  exact q2.tri r2
            | true =>
              obtain ⟨KC, hKC⟩ : ∃ X : ByteArray, ⟨#[116, 101, 120, 116, 47, 112, 108, 97, 105, 110]⟩ ++ KS = X := ⟨_, rfl⟩
              have hKl : KC.data.toList = tplB ++ KS.data.toList := by rw [← hKC]; simp [tplB]
              have HKc := hid (show rdK u = KC.data.toList by rw [HK.out, hKl]; unfold comK; rw [hbg]; rfl)
              have hKCs : KC.size ≤ 500000 := by rw [Lib.size_eq, hKl, List.length_append, ← Lib.size_eq]; show 10 + _ ≤ _; omega
              have HPr := hid (fun w => rparse6_any KC w (by omega))
              clear hbg hKl
              go_wp2_with fail
              refine (HBg.out _).mono ?_
              rintro e wq ⟨rfl, rfl⟩
              go_wp2_with fail
              refine (HPr.out _).mono ?_
              rintro e wz ⟨v, rfl, hown, hbz⟩
              unfold knVal
              obtain ⟨x1, x2, x3, rfl⟩ := own_slice hown
              have HBz := hid (below2 HBx.out hbz)
              have HTz := hid (HTx.out.kept hbz)
              have HSz := hid (HSx.out.kept hbz)
              have HOw := hid hown
              clear hbz hown
              obtain ⟨kok, hkok⟩ : ∃ b, knOk KC.data.toList = b := ⟨_, rfl⟩
              rw [hkok]
              obtain ⟨M1, hM1⟩ : ∃ A, ba (knV KC.data.toList).major = A := ⟨_, rfl⟩
              obtain ⟨M2, hM2⟩ : ∃ A, ba (knV KC.data.toList).minor = A := ⟨_, rfl⟩
              rw [hM1, hM2]
              have hb8 : Below wz.heap.size wz (wz.alloc (.cells #[.string M1, .string M2, .slice x1 x2 x3] 39)) := (Below.refl _ _).alloc (Nat.le_refl _) _
              have hz8 : (wz.alloc (.cells #[.string M1, .string M2, .slice x1 x2 x3] 39)).heap.size = wz.heap.size + 1 := by simp
              cases kok with
              | true =>
                have ht8 := HTz.out.kept hb8
                obtain ⟨t0, t1, t2⟩ := ht8.cells
                have f0 := ht8.frozen 0
                have f1 := ht8.frozen 1
                have f2 := ht8.frozen 2
                have HT8 := hid ht8
                have HB8 := hid (below2 HBz.out hb8)
                have HS8 := hid (HSz.out.kept hb8)
                have HTy := hid (show typV (rdK u) = knV KC.data.toList by rw [HKc.out]; unfold typV; rw [hkok]; rfl)
                have HO8 := hid (own_base (C := w.heap.size) (ownsRow_same HOw.out fun g hg => hb8.block g (HOw.out.lt g hg).2) (by have := HLt.out; omega))
                have HNe := hid (show (Value.slice x1 x2 x3).ownBlock ≠ some (w.heap.size + 1) from fun e => by have h1 := (HOw.out.lt _ e).1; have h2 := HLt.out; omega)
                have HM1 := hid hM1
                have HM2 := hid hM2
                clear hb8 hz8 ht8 hkok hM1 hM2
                go_wp2_with fail
                refine bodyPost_ret (results_t3 rfl _ _ (w.heap.size + 1) M1 M2 (.slice x1 x2 x3) rfl HT8.out.set.range) rfl ⟨?_, .inr ⟨HO.out, .slice x1 x2 x3, (.slice (some ⟨wb.heap.size, 0, none⟩) UB.size cap), ?_, ?_, ?_⟩⟩
                · exact ((HB8.out.setCell (p := ⟨w.heap.size + 1, 0, none⟩) (Nat.le_succ _) _).setCell (p := ⟨w.heap.size + 1, 1, none⟩) (Nat.le_succ _) _).setCell (p := ⟨w.heap.size + 1, 2, none⟩) (Nat.le_succ _) _
                · rw [HTy.out, HM1.out, HM2.out]; rfl
                · rw [HTy.out]; exact own_apR (own_apR (own_apR HO8.out HNe.out) HNe.out) HNe.out
                · rw [HB.out]
                  have q1 := HS8.out.tri (j := 0) (y := .string M1) HT8.out
                  have r1 : TriR ((wz.alloc (.cells #[.string M1, .string M2, .slice x1 x2 x3] 39)).setCell ⟨w.heap.size + 1, 0, none⟩ (.string M1)) (w.heap.size + 1) M1 ⟨#[]⟩ (.slice none 0 0) := Lib.heap_setCell_same HT8.out (i := 0) (.string M1)
                  have q2 := q1.tri (j := 1) (y := .string M2) r1
                  have r2 : TriR (((wz.alloc (.cells #[.string M1, .string M2, .slice x1 x2 x3] 39)).setCell ⟨w.heap.size + 1, 0, none⟩ (.string M1)).setCell ⟨w.heap.size + 1, 1, none⟩ (.string M2)) (w.heap.size + 1) M1 M2 (.slice none 0 0) := Lib.heap_setCell_same r1 (i := 1) (.string M2)
                  exact q2.tri r2
              | false =>
                have hz9 : (wz.alloc (.cells #[.string ⟨#[116, 101, 120, 116]⟩, .string ⟨#[112, 108, 97, 105, 110]⟩, .slice (some ⟨wz.heap.size + 1, 0, none⟩) 1 1] 39)).heap.size = wz.heap.size + 1 := by simp
                have h9 : ((wz.alloc (.cells #[.string ⟨#[116, 101, 120, 116]⟩, .string ⟨#[112, 108, 97, 105, 110]⟩, .slice (some ⟨wz.heap.size + 1, 0, none⟩) 1 1] 39)).alloc (.cells #[.string ⟨#[99, 104, 97, 114, 115, 101, 116]⟩, .string ⟨#[85, 83, 45, 65, 83, 67, 73, 73]⟩] 44)).heap[wz.heap.size + 1]? = some (.cells #[.string ⟨#[99, 104, 97, 114, 115, 101, 116]⟩, .string ⟨#[85, 83, 45, 65, 83, 67, 73, 73]⟩] 44 (0, 0)) := by
                  have := heap_alloc_new (wz.alloc (.cells #[.string ⟨#[116, 101, 120, 116]⟩, .string ⟨#[112, 108, 97, 105, 110]⟩, .slice (some ⟨wz.heap.size + 1, 0, none⟩) 1 1] 39)) (.cells #[.string ⟨#[99, 104, 97, 114, 115, 101, 116]⟩, .string ⟨#[85, 83, 45, 65, 83, 67, 73, 73]⟩] 44)
                  rw [hz9] at this
                  exact this
                have hb9 : Below wz.heap.size wz ((wz.alloc (.cells #[.string ⟨#[116, 101, 120, 116]⟩, .string ⟨#[112, 108, 97, 105, 110]⟩, .slice (some ⟨wz.heap.size + 1, 0, none⟩) 1 1] 39)).alloc (.cells #[.string ⟨#[99, 104, 97, 114, 115, 101, 116]⟩, .string ⟨#[85, 83, 45, 65, 83, 67, 73, 73]⟩] 44)) := below2 ((Below.refl _ wz).alloc (Nat.le_refl _) _) ((Below.refl _ _).alloc (Nat.le_refl _) _)
                have ht9 := HTz.out.kept hb9
                obtain ⟨t0', t1', t2'⟩ := ht9.cells
                have f0' := ht9.frozen 0
                have f1' := ht9.frozen 1
                have f2' := ht9.frozen 2
                have HT9 := hid ht9
                have HB9 := hid (below2 HBz.out hb9)
                have HS9 := hid (HSz.out.kept hb9)
                have H9 := hid h9
                have HLz := hid HTz.out.lt
                have HTy := hid (show typV (rdK u) = usual by rw [HKc.out]; unfold typV; rw [hkok]; rfl)
                clear hb8 hz8 hkok hM1 hM2 hz9 h9 hb9 ht9 t0 t1 t2 f0 f1 f2
                go_wp2_with fail
                refine bodyPost_ret (results_t3 rfl _ _ (w.heap.size + 1) ⟨#[116, 101, 120, 116]⟩ ⟨#[112, 108, 97, 105, 110]⟩ (.slice (some ⟨wz.heap.size + 1, 0, none⟩) 1 1) rfl HT9.out.set.range) rfl ⟨?_, .inr ⟨HO.out, .slice (some ⟨wz.heap.size + 1, 0, none⟩) 1 1, (.slice (some ⟨wb.heap.size, 0, none⟩) UB.size cap), ?_, ?_, ?_⟩⟩
                · exact ((HB9.out.setCell (p := ⟨w.heap.size + 1, 0, none⟩) (Nat.le_succ _) _).setCell (p := ⟨w.heap.size + 1, 1, none⟩) (Nat.le_succ _) _).setCell (p := ⟨w.heap.size + 1, 2, none⟩) (Nat.le_succ _) _
                · rw [HTy.out]; rfl
                · rw [HTy.out]
                  have hlt : w.heap.size + 1 < wz.heap.size := HLz.out
                  have ho : ((wz.alloc (.cells #[.string ⟨#[116, 101, 120, 116]⟩, .string ⟨#[112, 108, 97, 105, 110]⟩, .slice (some ⟨wz.heap.size + 1, 0, none⟩) 1 1] 39)).alloc (.cells #[.string ⟨#[99, 104, 97, 114, 115, 101, 116]⟩, .string ⟨#[85, 83, 45, 65, 83, 67, 73, 73]⟩] 44)).ownsRow w.heap.size 44 2 (.slice (some ⟨wz.heap.size + 1, 0, none⟩) 1 1) usual.params.length (cellsH usual.params) :=
                    ⟨by decide, .inr ⟨wz.heap.size + 1, 1, _, rfl, by omega, H9.out, by decide, by decide, by decide, rfl⟩⟩
                  exact own_apR (own_apR (own_apR ho (by simp [Value.ownBlock]; omega)) (by simp [Value.ownBlock]; omega)) (by simp [Value.ownBlock]; omega)
                · rw [HB.out]
                  have q1 := HS9.out.tri (j := 0) (y := .string ⟨#[116, 101, 120, 116]⟩) HT9.out
                  have r1 : TriR (((wz.alloc (.cells #[.string ⟨#[116, 101, 120, 116]⟩, .string ⟨#[112, 108, 97, 105, 110]⟩, .slice (some ⟨wz.heap.size + 1, 0, none⟩) 1 1] 39)).alloc (.cells #[.string ⟨#[99, 104, 97, 114, 115, 101, 116]⟩, .string ⟨#[85, 83, 45, 65, 83, 67, 73, 73]⟩] 44)).setCell ⟨w.heap.size + 1, 0, none⟩ (.string ⟨#[116, 101, 120, 116]⟩)) (w.heap.size + 1) ⟨#[116, 101, 120, 116]⟩ ⟨#[]⟩ (.slice none 0 0) := Lib.heap_setCell_same HT9.out (i := 0) (.string ⟨#[116, 101, 120, 116]⟩)
                  have q2 := q1.tri (j := 1) (y := .string ⟨#[112, 108, 97, 105, 110]⟩) r1
                  have r2 : TriR ((((wz.alloc (.cells #[.string ⟨#[116, 101, 120, 116]⟩, .string ⟨#[112, 108, 97, 105, 110]⟩, .slice (some ⟨wz.heap.size + 1, 0, none⟩) 1 1] 39)).alloc (.cells #[.string ⟨#[99, 104, 97, 114, 115, 101, 116]⟩, .string ⟨#[85, 83, 45, 65, 83, 67, 73, 73]⟩] 44)).setCell ⟨w.heap.size + 1, 0, none⟩ (.string ⟨#[116, 101, 120, 116]⟩)).setCell ⟨w.heap.size + 1, 1, none⟩ (.string ⟨#[112, 108, 97, 105, 110]⟩)) (w.heap.size + 1) ⟨#[116, 101, 120, 116]⟩ ⟨#[112, 108, 97, 105, 110]⟩ (.slice none 0 0) := Lib.heap_setCell_same r1 (i := 1) (.string ⟨#[112, 108, 97, 105, 110]⟩)
                  exact q2.tri r2
          | true =>
            have h6 : 6 ≤ KS.size := by
              unfold ends6 at he6
              simp only [Bool.and_eq_true, decide_eq_true_eq] at he6
              rw [Lib.size_eq]; exact he6.1
            obtain ⟨n, hn⟩ : ∃ n, KS.size = n + 6 := ⟨KS.size - 6, by omega⟩
            have hni : (KS.size : Int) - 6 = (n : Int) := by omega
            obtain ⟨X0, hX0⟩ : ∃ X, KS.extract 0 n = X := ⟨_, rfl⟩
            have hX0l : noBl X0.data.toList = ahead6 KS.data.toList := by
              unfold ahead6
              rw [← hX0, show KS.data.toList.length - 6 = n by rw [← Lib.size_eq]; omega]
              congr 1
              simp
            have hX0s : X0.size ≤ 50000 := by rw [← hX0, ByteArray.size_extract]; omega
            have hX0n : X0.size ≤ n := by rw [← hX0, ByteArray.size_extract]; omega
            have HX0 := hid hX0l
            obtain ⟨A6, hA6⟩ : ∃ A, ahead6 KS.data.toList = A := ⟨_, rfl⟩
            rw [hA6] at HX0
            have HE6' := hid he6
            have HA6 := hid hA6
            have HKl := hid hKSl
            have HUl := hid hUBl
            clear hX0l hA6 he6 hKSl hUBl
            go_wp2_with fail
            go_loop [10] (fun o => ∃ X : ByteArray, o = .string X ∧ noBl X.data.toList = A6 ∧ X.size ≤ 50000) (fun o => szV o)
            case atStart => exact ⟨X0, rfl, HX0.out, hX0s⟩
            case round =>
              obtain ⟨X, rfl, hXA, hXs⟩ := hrel
              have HXA := hid hXA
              clear hXA
              by_cases hx0 : 0 < X.size
              · obtain ⟨m, hm⟩ : ∃ m, X.size = m + 1 := ⟨X.size - 1, by omega⟩
                have hml : m < X.size := by omega
                have HSp := hid (show X.data.toList = (X.extract 0 m).data.toList ++ [X[m]] by
                  have h1 := last_split X hx0
                  have e : X.size - 1 = m := by omega
                  simp only [e] at h1
                  exact h1)
                have hmi : (X.size : Int) - 1 = (m : Int) := by omega
                have hx0' : (0 : Int) < (X.size : Int) := by omega
                have hb8 := X[m].toNat_lt
                by_cases hc : X[m] = 32
                · have hcc : ((X[m].toNat : Int) == 32) = true := by rw [hc]; decide
                  have HR := hid (show noBl (X.extract 0 m).data.toList = A6 by rw [← HXA.out, HSp.out, hc, noBl_blank])
                  have HZ := hid (show (X.extract 0 m).size = m by rw [ByteArray.size_extract]; omega)
                  clear hc
                  go_wp2_with fail
                  go_round
                  case rel => exact ⟨X.extract 0 m, rfl, HR.out, by rw [HZ.out]; omega⟩
                  case measure => show (X.extract 0 m).size < X.size; rw [HZ.out]; exact hml
                · have hcc : ((X[m].toNat : Int) == 32) = false := by
                    rw [beq_eq_false_iff_ne]
                    intro e
                    exact hc (UInt8.toNat_inj.1 (by have : (32 : UInt8).toNat = 32 := rfl; omega))
                  have HXl := hid (show X.data.toList = A6 by rw [← HXA.out]; conv => rhs; rw [HSp.out, noBl_other _ _ hc]; rw [← HSp.out])
                  have HKO := hid (show (X.extract 0 m).data.toList = A6.take (A6.length - 1) by
                    have e := HSp.out
                    rw [← HXl.out, e]
                    exact (take_butlast _ _).symm)
                  clear hc
                  have HEs := hid (fun w : World => ends_any X ⟨#[59]⟩ w (by omega) (by decide))
                  rw [show (⟨#[59]⟩ : ByteArray).data.toList = [59] from rfl, HXl.out] at HEs
                  obtain ⟨sf, hsf⟩ : ∃ b, Lib.hasSuffix A6 [59] = b := ⟨_, rfl⟩
                  cases sf with
                  | false =>
                    have him : isM KS.data.toList = false := by unfold isM; rw [HE6'.out, HA6.out, hsf]; rfl
                    have HK := hid (show rdK u = comK KS.data.toList by unfold rdK unK; rw [← HKl.out, him]; rfl)
                    have HB := hid (show rdB u = UB.data.toList by unfold rdB unB; rw [← HKl.out, him, HUl.out]; rfl)
                    have HO := hid (show rdO u = true by unfold rdO unO; rw [HRd.out.1, HRd.out.2, ← HKl.out, him]; rfl)
                    rw [hsf] at HEs
                    clear him hsf
                    go_wp2_with fail
                    refine (HEs.out _).mono ?_
                    rintro e wq ⟨rfl, rfl⟩
                    have HLt := hid (show w.heap.size + 1 < _ from HTx.out.lt)
                    have HBg := hid (fun w : World => begins_any KS ⟨#[59]⟩ w (by omega) (by decide))
                    rw [show (⟨#[59]⟩ : ByteArray).data.toList = [59] from rfl] at HBg
                    obtain ⟨bg, hbg⟩ : ∃ b, Lib.hasPrefix KS.data.toList [59] = b := ⟨_, rfl⟩
                    rw [hbg] at HBg
                    cases bg with
                    | false =>
                      have HKc := hid (show rdK u = KS.data.toList by rw [HK.out]; unfold comK; rw [hbg]; rfl)
                      have HPr := hid (fun w => rparse6_any KS w (by omega))
                      clear hbg
                      go_wp2_with fail
                      refine (HBg.out _).mono ?_
                      rintro e wq ⟨rfl, rfl⟩
                      go_wp2_with fail
                      refine (HPr.out _).mono ?_
                      rintro e wz ⟨v, rfl, hown, hbz⟩
                      unfold knVal
                      obtain ⟨x1, x2, x3, rfl⟩ := own_slice hown
                      have HBz := hid (below2 HBx.out hbz)
                      have HTz := hid (HTx.out.kept hbz)
                      have HSz := hid (HSx.out.kept hbz)
                      have HOw := hid hown
                      clear hbz hown
                      obtain ⟨kok, hkok⟩ : ∃ b, knOk KS.data.toList = b := ⟨_, rfl⟩
                      rw [hkok]
                      obtain ⟨M1, hM1⟩ : ∃ A, ba (knV KS.data.toList).major = A := ⟨_, rfl⟩
                      obtain ⟨M2, hM2⟩ : ∃ A, ba (knV KS.data.toList).minor = A := ⟨_, rfl⟩
                      rw [hM1, hM2]
                      have hb8 : Below wz.heap.size wz (wz.alloc (.cells #[.string M1, .string M2, .slice x1 x2 x3] 39)) := (Below.refl _ _).alloc (Nat.le_refl _) _
                      have hz8 : (wz.alloc (.cells #[.string M1, .string M2, .slice x1 x2 x3] 39)).heap.size = wz.heap.size + 1 := by simp
                      cases kok with
                      | true =>
                        have ht8 := HTz.out.kept hb8
                        obtain ⟨t0, t1, t2⟩ := ht8.cells
                        have f0 := ht8.frozen 0
                        have f1 := ht8.frozen 1
                        have f2 := ht8.frozen 2
                        have HT8 := hid ht8
                        have HB8 := hid (below2 HBz.out hb8)
                        have HS8 := hid (HSz.out.kept hb8)
                        have HTy := hid (show typV (rdK u) = knV KS.data.toList by rw [HKc.out]; unfold typV; rw [hkok]; rfl)
                        have HO8 := hid (own_base (C := w.heap.size) (ownsRow_same HOw.out fun g hg => hb8.block g (HOw.out.lt g hg).2) (by have := HLt.out; omega))
                        have HNe := hid (show (Value.slice x1 x2 x3).ownBlock ≠ some (w.heap.size + 1) from fun e => by have h1 := (HOw.out.lt _ e).1; have h2 := HLt.out; omega)
                        have HM1 := hid hM1
                        have HM2 := hid hM2
                        clear hb8 hz8 ht8 hkok hM1 hM2
                        go_wp2_with fail
                        refine bodyPost_ret (results_t3 rfl _ _ (w.heap.size + 1) M1 M2 (.slice x1 x2 x3) rfl HT8.out.set.range) rfl ⟨?_, .inr ⟨HO.out, .slice x1 x2 x3, (.slice (some ⟨wb.heap.size, 0, none⟩) UB.size cap), ?_, ?_, ?_⟩⟩
                        · exact ((HB8.out.setCell (p := ⟨w.heap.size + 1, 0, none⟩) (Nat.le_succ _) _).setCell (p := ⟨w.heap.size + 1, 1, none⟩) (Nat.le_succ _) _).setCell (p := ⟨w.heap.size + 1, 2, none⟩) (Nat.le_succ _) _
                        · rw [HTy.out, HM1.out, HM2.out]; rfl
                        · rw [HTy.out]; exact own_apR (own_apR (own_apR HO8.out HNe.out) HNe.out) HNe.out
                        · rw [HB.out]
                          have q1 := HS8.out.tri (j := 0) (y := .string M1) HT8.out
                          have r1 : TriR ((wz.alloc (.cells #[.string M1, .string M2, .slice x1 x2 x3] 39)).setCell ⟨w.heap.size + 1, 0, none⟩ (.string M1)) (w.heap.size + 1) M1 ⟨#[]⟩ (.slice none 0 0) := Lib.heap_setCell_same HT8.out (i := 0) (.string M1)
                          have q2 := q1.tri (j := 1) (y := .string M2) r1
                          have r2 : TriR (((wz.alloc (.cells #[.string M1, .string M2, .slice x1 x2 x3] 39)).setCell ⟨w.heap.size + 1, 0, none⟩ (.string M1)).setCell ⟨w.heap.size + 1, 1, none⟩ (.string M2)) (w.heap.size + 1) M1 M2 (.slice none 0 0) := Lib.heap_setCell_same r1 (i := 1) (.string M2)
                          exact q2.tri r2
                      | false =>
                        have hz9 : (wz.alloc (.cells #[.string ⟨#[116, 101, 120, 116]⟩, .string ⟨#[112, 108, 97, 105, 110]⟩, .slice (some ⟨wz.heap.size + 1, 0, none⟩) 1 1] 39)).heap.size = wz.heap.size + 1 := by simp
                        have h9 : ((wz.alloc (.cells #[.string ⟨#[116, 101, 120, 116]⟩, .string ⟨#[112, 108, 97, 105, 110]⟩, .slice (some ⟨wz.heap.size + 1, 0, none⟩) 1 1] 39)).alloc (.cells #[.string ⟨#[99, 104, 97, 114, 115, 101, 116]⟩, .string ⟨#[85, 83, 45, 65, 83, 67, 73, 73]⟩] 44)).heap[wz.heap.size + 1]? = some (.cells #[.string ⟨#[99, 104, 97, 114, 115, 101, 116]⟩, .string ⟨#[85, 83, 45, 65, 83, 67, 73, 73]⟩] 44 (0, 0)) := by
                          have := heap_alloc_new (wz.alloc (.cells #[.string ⟨#[116, 101, 120, 116]⟩, .string ⟨#[112, 108, 97, 105, 110]⟩, .slice (some ⟨wz.heap.size + 1, 0, none⟩) 1 1] 39)) (.cells #[.string ⟨#[99, 104, 97, 114, 115, 101, 116]⟩, .string ⟨#[85, 83, 45, 65, 83, 67, 73, 73]⟩] 44)
                          rw [hz9] at this
                          exact this
                        have hb9 : Below wz.heap.size wz ((wz.alloc (.cells #[.string ⟨#[116, 101, 120, 116]⟩, .string ⟨#[112, 108, 97, 105, 110]⟩, .slice (some ⟨wz.heap.size + 1, 0, none⟩) 1 1] 39)).alloc (.cells #[.string ⟨#[99, 104, 97, 114, 115, 101, 116]⟩, .string ⟨#[85, 83, 45, 65, 83, 67, 73, 73]⟩] 44)) := below2 ((Below.refl _ wz).alloc (Nat.le_refl _) _) ((Below.refl _ _).alloc (Nat.le_refl _) _)
                        have ht9 := HTz.out.kept hb9
                        obtain ⟨t0', t1', t2'⟩ := ht9.cells
                        have f0' := ht9.frozen 0
                        have f1' := ht9.frozen 1
                        have f2' := ht9.frozen 2
                        have HT9 := hid ht9
                        have HB9 := hid (below2 HBz.out hb9)
                        have HS9 := hid (HSz.out.kept hb9)
                        have H9 := hid h9
                        have HLz := hid HTz.out.lt
                        have HTy := hid (show typV (rdK u) = usual by rw [HKc.out]; unfold typV; rw [hkok]; rfl)
                        clear hb8 hz8 hkok hM1 hM2 hz9 h9 hb9 ht9 t0 t1 t2 f0 f1 f2
                        go_wp2_with fail
                        refine bodyPost_ret (results_t3 rfl _ _ (w.heap.size + 1) ⟨#[116, 101, 120, 116]⟩ ⟨#[112, 108, 97, 105, 110]⟩ (.slice (some ⟨wz.heap.size + 1, 0, none⟩) 1 1) rfl HT9.out.set.range) rfl ⟨?_, .inr ⟨HO.out, .slice (some ⟨wz.heap.size + 1, 0, none⟩) 1 1, (.slice (some ⟨wb.heap.size, 0, none⟩) UB.size cap), ?_, ?_, ?_⟩⟩
                        · exact ((HB9.out.setCell (p := ⟨w.heap.size + 1, 0, none⟩) (Nat.le_succ _) _).setCell (p := ⟨w.heap.size + 1, 1, none⟩) (Nat.le_succ _) _).setCell (p := ⟨w.heap.size + 1, 2, none⟩) (Nat.le_succ _) _
                        · rw [HTy.out]; rfl
                        · rw [HTy.out]
                          have hlt : w.heap.size + 1 < wz.heap.size := HLz.out
                          have ho : ((wz.alloc (.cells #[.string ⟨#[116, 101, 120, 116]⟩, .string ⟨#[112, 108, 97, 105, 110]⟩, .slice (some ⟨wz.heap.size + 1, 0, none⟩) 1 1] 39)).alloc (.cells #[.string ⟨#[99, 104, 97, 114, 115, 101, 116]⟩, .string ⟨#[85, 83, 45, 65, 83, 67, 73, 73]⟩] 44)).ownsRow w.heap.size 44 2 (.slice (some ⟨wz.heap.size + 1, 0, none⟩) 1 1) usual.params.length (cellsH usual.params) :=
                            ⟨by decide, .inr ⟨wz.heap.size + 1, 1, _, rfl, by omega, H9.out, by decide, by decide, by decide, rfl⟩⟩
                          exact own_apR (own_apR (own_apR ho (by simp [Value.ownBlock]; omega)) (by simp [Value.ownBlock]; omega)) (by simp [Value.ownBlock]; omega)
                        · rw [HB.out]
                          have q1 := HS9.out.tri (j := 0) (y := .string ⟨#[116, 101, 120, 116]⟩) HT9.out
                          have r1 : TriR (((wz.alloc (.cells #[.string ⟨#[116, 101, 120, 116]⟩, .string ⟨#[112, 108, 97, 105, 110]⟩, .slice (some ⟨wz.heap.size + 1, 0, none⟩) 1 1] 39)).alloc (.cells #[.string ⟨#[99, 104, 97, 114, 115, 101, 116]⟩, .string ⟨#[85, 83, 45, 65, 83, 67, 73, 73]⟩] 44)).setCell ⟨w.heap.size + 1, 0, none⟩ (.string ⟨#[116, 101, 120, 116]⟩)) (w.heap.size + 1) ⟨#[116, 101, 120, 116]⟩ ⟨#[]⟩ (.slice none 0 0) := Lib.heap_setCell_same HT9.out (i := 0) (.string ⟨#[116, 101, 120, 116]⟩)
                          have q2 := q1.tri (j := 1) (y := .string ⟨#[112, 108, 97, 105, 110]⟩) r1
                          have r2 : TriR ((((wz.alloc (.cells #[.string ⟨#[116, 101, 120, 116]⟩, .string ⟨#[112, 108, 97, 105, 110]⟩, .slice (some ⟨wz.heap.size + 1, 0, none⟩) 1 1] 39)).alloc (.cells #[.string ⟨#[99, 104, 97, 114, 115, 101, 116]⟩, .string ⟨#[85, 83, 45, 65, 83, 67, 73, 73]⟩] 44)).setCell ⟨w.heap.size + 1, 0, none⟩ (.string ⟨#[116, 101, 120, 116]⟩)).setCell ⟨w.heap.size + 1, 1, none⟩ (.string ⟨#[112, 108, 97, 105, 110]⟩)) (w.heap.size + 1) ⟨#[116, 101, 120, 116]⟩ ⟨#[112, 108, 97, 105, 110]⟩ (.slice none 0 0) := Lib.heap_setCell_same r1 (i := 1) (.string ⟨#[112, 108, 97, 105, 110]⟩)
                          exact q2.tri r2
                    | true =>
                      obtain ⟨KC, hKC⟩ : ∃ X : ByteArray, ⟨#[116, 101, 120, 116, 47, 112, 108, 97, 105, 110]⟩ ++ KS = X := ⟨_, rfl⟩
                      have hKl : KC.data.toList = tplB ++ KS.data.toList := by rw [← hKC]; simp [tplB]
                      have HKc := hid (show rdK u = KC.data.toList by rw [HK.out, hKl]; unfold comK; rw [hbg]; rfl)
                      have hKCs : KC.size ≤ 500000 := by rw [Lib.size_eq, hKl, List.length_append, ← Lib.size_eq]; show 10 + _ ≤ _; omega
                      have HPr := hid (fun w => rparse6_any KC w (by omega))
                      clear hbg hKl
                      go_wp2_with fail
                      refine (HBg.out _).mono ?_
                      rintro e wq ⟨rfl, rfl⟩
                      go_wp2_with fail
                      refine (HPr.out _).mono ?_
                      rintro e wz ⟨v, rfl, hown, hbz⟩
                      unfold knVal
                      obtain ⟨x1, x2, x3, rfl⟩ := own_slice hown
                      have HBz := hid (below2 HBx.out hbz)
                      have HTz := hid (HTx.out.kept hbz)
                      have HSz := hid (HSx.out.kept hbz)
                      have HOw := hid hown
                      clear hbz hown
                      obtain ⟨kok, hkok⟩ : ∃ b, knOk KC.data.toList = b := ⟨_, rfl⟩
                      rw [hkok]
                      obtain ⟨M1, hM1⟩ : ∃ A, ba (knV KC.data.toList).major = A := ⟨_, rfl⟩
                      obtain ⟨M2, hM2⟩ : ∃ A, ba (knV KC.data.toList).minor = A := ⟨_, rfl⟩
                      rw [hM1, hM2]
                      have hb8 : Below wz.heap.size wz (wz.alloc (.cells #[.string M1, .string M2, .slice x1 x2 x3] 39)) := (Below.refl _ _).alloc (Nat.le_refl _) _
                      have hz8 : (wz.alloc (.cells #[.string M1, .string M2, .slice x1 x2 x3] 39)).heap.size = wz.heap.size + 1 := by simp
                      cases kok with
                      | true =>
                        have ht8 := HTz.out.kept hb8
                        obtain ⟨t0, t1, t2⟩ := ht8.cells
                        have f0 := ht8.frozen 0
                        have f1 := ht8.frozen 1
                        have f2 := ht8.frozen 2
                        have HT8 := hid ht8
                        have HB8 := hid (below2 HBz.out hb8)
                        have HS8 := hid (HSz.out.kept hb8)
                        have HTy := hid (show typV (rdK u) = knV KC.data.toList by rw [HKc.out]; unfold typV; rw [hkok]; rfl)
                        have HO8 := hid (own_base (C := w.heap.size) (ownsRow_same HOw.out fun g hg => hb8.block g (HOw.out.lt g hg).2) (by have := HLt.out; omega))
                        have HNe := hid (show (Value.slice x1 x2 x3).ownBlock ≠ some (w.heap.size + 1) from fun e => by have h1 := (HOw.out.lt _ e).1; have h2 := HLt.out; omega)
                        have HM1 := hid hM1
                        have HM2 := hid hM2
                        clear hb8 hz8 ht8 hkok hM1 hM2
                        go_wp2_with fail
                        refine bodyPost_ret (results_t3 rfl _ _ (w.heap.size + 1) M1 M2 (.slice x1 x2 x3) rfl HT8.out.set.range) rfl ⟨?_, .inr ⟨HO.out, .slice x1 x2 x3, (.slice (some ⟨wb.heap.size, 0, none⟩) UB.size cap), ?_, ?_, ?_⟩⟩
                        · exact ((HB8.out.setCell (p := ⟨w.heap.size + 1, 0, none⟩) (Nat.le_succ _) _).setCell (p := ⟨w.heap.size + 1, 1, none⟩) (Nat.le_succ _) _).setCell (p := ⟨w.heap.size + 1, 2, none⟩) (Nat.le_succ _) _
                        · rw [HTy.out, HM1.out, HM2.out]; rfl
                        · rw [HTy.out]; exact own_apR (own_apR (own_apR HO8.out HNe.out) HNe.out) HNe.out
                        · rw [HB.out]
                          have q1 := HS8.out.tri (j := 0) (y := .string M1) HT8.out
                          have r1 : TriR ((wz.alloc (.cells #[.string M1, .string M2, .slice x1 x2 x3] 39)).setCell ⟨w.heap.size + 1, 0, none⟩ (.string M1)) (w.heap.size + 1) M1 ⟨#[]⟩ (.slice none 0 0) := Lib.heap_setCell_same HT8.out (i := 0) (.string M1)
                          have q2 := q1.tri (j := 1) (y := .string M2) r1
                          have r2 : TriR (((wz.alloc (.cells #[.string M1, .string M2, .slice x1 x2 x3] 39)).setCell ⟨w.heap.size + 1, 0, none⟩ (.string M1)).setCell ⟨w.heap.size + 1, 1, none⟩ (.string M2)) (w.heap.size + 1) M1 M2 (.slice none 0 0) := Lib.heap_setCell_same r1 (i := 1) (.string M2)
                          exact q2.tri r2
                      | false =>
                        have hz9 : (wz.alloc (.cells #[.string ⟨#[116, 101, 120, 116]⟩, .string ⟨#[112, 108, 97, 105, 110]⟩, .slice (some ⟨wz.heap.size + 1, 0, none⟩) 1 1] 39)).heap.size = wz.heap.size + 1 := by simp
                        have h9 : ((wz.alloc (.cells #[.string ⟨#[116, 101, 120, 116]⟩, .string ⟨#[112, 108, 97, 105, 110]⟩, .slice (some ⟨wz.heap.size + 1, 0, none⟩) 1 1] 39)).alloc (.cells #[.string ⟨#[99, 104, 97, 114, 115, 101, 116]⟩, .string ⟨#[85, 83, 45, 65, 83, 67, 73, 73]⟩] 44)).heap[wz.heap.size + 1]? = some (.cells #[.string ⟨#[99, 104, 97, 114, 115, 101, 116]⟩, .string ⟨#[85, 83, 45, 65, 83, 67, 73, 73]⟩] 44 (0, 0)) := by
                          have := heap_alloc_new (wz.alloc (.cells #[.string ⟨#[116, 101, 120, 116]⟩, .string ⟨#[112, 108, 97, 105, 110]⟩, .slice (some ⟨wz.heap.size + 1, 0, none⟩) 1 1] 39)) (.cells #[.string ⟨#[99, 104, 97, 114, 115, 101, 116]⟩, .string ⟨#[85, 83, 45, 65, 83, 67, 73, 73]⟩] 44)
                          rw [hz9] at this
                          exact this
                        have hb9 : Below wz.heap.size wz ((wz.alloc (.cells #[.string ⟨#[116, 101, 120, 116]⟩, .string ⟨#[112, 108, 97, 105, 110]⟩, .slice (some ⟨wz.heap.size + 1, 0, none⟩) 1 1] 39)).alloc (.cells #[.string ⟨#[99, 104, 97, 114, 115, 101, 116]⟩, .string ⟨#[85, 83, 45, 65, 83, 67, 73, 73]⟩] 44)) := below2 ((Below.refl _ wz).alloc (Nat.le_refl _) _) ((Below.refl _ _).alloc (Nat.le_refl _) _)
                        have ht9 := HTz.out.kept hb9
                        obtain ⟨t0', t1', t2'⟩ := ht9.cells
                        have f0' := ht9.frozen 0
                        have f1' := ht9.frozen 1
                        have f2' := ht9.frozen 2
                        have HT9 := hid ht9
                        have HB9 := hid (below2 HBz.out hb9)
                        have HS9 := hid (HSz.out.kept hb9)
                        have H9 := hid h9
                        have HLz := hid HTz.out.lt
                        have HTy := hid (show typV (rdK u) = usual by rw [HKc.out]; unfold typV; rw [hkok]; rfl)
                        clear hb8 hz8 hkok hM1 hM2 hz9 h9 hb9 ht9 t0 t1 t2 f0 f1 f2
                        go_wp2_with fail
                        refine bodyPost_ret (results_t3 rfl _ _ (w.heap.size + 1) ⟨#[116, 101, 120, 116]⟩ ⟨#[112, 108, 97, 105, 110]⟩ (.slice (some ⟨wz.heap.size + 1, 0, none⟩) 1 1) rfl HT9.out.set.range) rfl ⟨?_, .inr ⟨HO.out, .slice (some ⟨wz.heap.size + 1, 0, none⟩) 1 1, (.slice (some ⟨wb.heap.size, 0, none⟩) UB.size cap), ?_, ?_, ?_⟩⟩
                        · exact ((HB9.out.setCell (p := ⟨w.heap.size + 1, 0, none⟩) (Nat.le_succ _) _).setCell (p := ⟨w.heap.size + 1, 1, none⟩) (Nat.le_succ _) _).setCell (p := ⟨w.heap.size + 1, 2, none⟩) (Nat.le_succ _) _
                        · rw [HTy.out]; rfl
                        · rw [HTy.out]
                          have hlt : w.heap.size + 1 < wz.heap.size := HLz.out
                          have ho : ((wz.alloc (.cells #[.string ⟨#[116, 101, 120, 116]⟩, .string ⟨#[112, 108, 97, 105, 110]⟩, .slice (some ⟨wz.heap.size + 1, 0, none⟩) 1 1] 39)).alloc (.cells #[.string ⟨#[99, 104, 97, 114, 115, 101, 116]⟩, .string ⟨#[85, 83, 45, 65, 83, 67, 73, 73]⟩] 44)).ownsRow w.heap.size 44 2 (.slice (some ⟨wz.heap.size + 1, 0, none⟩) 1 1) usual.params.length (cellsH usual.params) :=
                            ⟨by decide, .inr ⟨wz.heap.size + 1, 1, _, rfl, by omega, H9.out, by decide, by decide, by decide, rfl⟩⟩
                          exact own_apR (own_apR (own_apR ho (by simp [Value.ownBlock]; omega)) (by simp [Value.ownBlock]; omega)) (by simp [Value.ownBlock]; omega)
                        · rw [HB.out]
                          have q1 := HS9.out.tri (j := 0) (y := .string ⟨#[116, 101, 120, 116]⟩) HT9.out
                          have r1 : TriR (((wz.alloc (.cells #[.string ⟨#[116, 101, 120, 116]⟩, .string ⟨#[112, 108, 97, 105, 110]⟩, .slice (some ⟨wz.heap.size + 1, 0, none⟩) 1 1] 39)).alloc (.cells #[.string ⟨#[99, 104, 97, 114, 115, 101, 116]⟩, .string ⟨#[85, 83, 45, 65, 83, 67, 73, 73]⟩] 44)).setCell ⟨w.heap.size + 1, 0, none⟩ (.string ⟨#[116, 101, 120, 116]⟩)) (w.heap.size + 1) ⟨#[116, 101, 120, 116]⟩ ⟨#[]⟩ (.slice none 0 0) := Lib.heap_setCell_same HT9.out (i := 0) (.string ⟨#[116, 101, 120, 116]⟩)
                          have q2 := q1.tri (j := 1) (y := .string ⟨#[112, 108, 97, 105, 110]⟩) r1
                          have r2 : TriR ((((wz.alloc (.cells #[.string ⟨#[116, 101, 120, 116]⟩, .string ⟨#[112, 108, 97, 105, 110]⟩, .slice (some ⟨wz.heap.size + 1, 0, none⟩) 1 1] 39)).alloc (.cells #[.string ⟨#[99, 104, 97, 114, 115, 101, 116]⟩, .string ⟨#[85, 83, 45, 65, 83, 67, 73, 73]⟩] 44)).setCell ⟨w.heap.size + 1, 0, none⟩ (.string ⟨#[116, 101, 120, 116]⟩)).setCell ⟨w.heap.size + 1, 1, none⟩ (.string ⟨#[112, 108, 97, 105, 110]⟩)) (w.heap.size + 1) ⟨#[116, 101, 120, 116]⟩ ⟨#[112, 108, 97, 105, 110]⟩ (.slice none 0 0) := Lib.heap_setCell_same r1 (i := 1) (.string ⟨#[112, 108, 97, 105, 110]⟩)
                          exact q2.tri r2
                  | true =>
                    have him : isM KS.data.toList = true := by unfold isM; rw [HE6'.out, HA6.out, hsf]; rfl
                    have hof : offM KS.data.toList = A6.take (A6.length - 1) := by unfold offM Lib.trimSuffix; rw [HA6.out, hsf]; rfl
                    obtain ⟨KO, hKO⟩ : ∃ Y : ByteArray, X.extract 0 m = Y := ⟨_, rfl⟩
                    have hKOl : KO.data.toList = offM KS.data.toList := by rw [← hKO, HKO.out, hof]
                    have hKOs : KO.size ≤ 50000 := by rw [← hKO, ByteArray.size_extract]; omega
                    have hcv2 := HSx.out.string (P := Tryz.prog) Tryz.underlying27 Tryz.underlying5 Tryz.underlying9
                    rw [show (⟨UB.data.toList.toArray⟩ : ByteArray) = UB from mba_self UB] at hcv2
                    have HB64 := hid (fun w => rbase64_any UB w (by omega))
                    have HKOl := hid hKOl
                    have HIm := hid him
                    rw [hsf] at HEs
                    clear him hof hsf hKOl
                    go_wp2_with fail
                    refine (HEs.out _).mono ?_
                    rintro e wq ⟨rfl, rfl⟩
                    go_wp2_with fail
                    refine (HB64.out _).mono ?_
                    rintro e we ⟨hbe, ⟨hno, rfl⟩ | ⟨ax, nx, cx, l, hl, rfl, hSl⟩⟩
                    · have HO := hid (show rdO u = false by unfold rdO unO; rw [HRd.out.1, HRd.out.2, ← HKl.out, ← HUl.out, HIm.out, hno]; rfl)
                      have HTe := hid (HTx.out.kept hbe)
                      have HBe := hid (below2 HBx.out hbe)
                      clear t0 t1 t2 f0 f1 f2 hbe hcv2
                      obtain ⟨t0, t1, t2⟩ := HTe.out.cells
                      have f0 := HTe.out.frozen 0
                      have f1 := HTe.out.frozen 1
                      have f2 := HTe.out.frozen 2
                      go_wp2_with fail
                      refine bodyPost_ret (results_t3 rfl _ _ (w.heap.size + 1) ⟨#[]⟩ ⟨#[]⟩ (.slice none 0 0) rfl (by first | exact HTe.out.range | exact HTe.out.set.range)) rfl ⟨by first | exact HBe.out | exact ((HBe.out.setCell (p := ⟨w.heap.size + 1, 0, none⟩) (Nat.le_succ _) _).setCell (p := ⟨w.heap.size + 1, 1, none⟩) (Nat.le_succ _) _).setCell (p := ⟨w.heap.size + 1, 2, none⟩) (Nat.le_succ _) _, .inl ⟨HO.out, rfl⟩⟩
                    · have HK := hid (show rdK u = comK KO.data.toList by unfold rdK unK; rw [← HKl.out, HIm.out, HKOl.out]; rfl)
                      have HB := hid (show rdB u = l by unfold rdB unB; rw [← HKl.out, ← HUl.out, HIm.out, hl]; rfl)
                      have HO := hid (show rdO u = true by unfold rdO unO; rw [HRd.out.1, HRd.out.2, ← HKl.out, ← HUl.out, HIm.out, hl]; rfl)
                      have HTe := hid (HTx.out.kept hbe)
                      have HBe := hid (below2 HBx.out hbe)
                      clear t0 t1 t2 f0 f1 f2 hbe hcv2 HTx HBx HSx
                      have HTx := HTe
                      have HBx := HBe
                      have HSx := hid hSl
                      clear HTe HBe hSl hl
                      obtain ⟨t0, t1, t2⟩ := HTx.out.cells
                      have f0 := HTx.out.frozen 0
                      have f1 := HTx.out.frozen 1
                      have f2 := HTx.out.frozen 2
                      go_wp2_with fail
                      have HLt := hid (show w.heap.size + 1 < _ from HTx.out.lt)
                      have HBg := hid (fun w : World => begins_any KO ⟨#[59]⟩ w (by omega) (by decide))
                      rw [show (⟨#[59]⟩ : ByteArray).data.toList = [59] from rfl] at HBg
                      obtain ⟨bg, hbg⟩ : ∃ b, Lib.hasPrefix KO.data.toList [59] = b := ⟨_, rfl⟩
                      rw [hbg] at HBg
                      cases bg with
                      | false =>
                        have HKc := hid (show rdK u = KO.data.toList by rw [HK.out]; unfold comK; rw [hbg]; rfl)
                        have HPr := hid (fun w => rparse6_any KO w (by omega))
                        clear hbg
                        go_wp2_with fail
                        refine (HBg.out _).mono ?_
                        rintro e wq ⟨rfl, rfl⟩
                        go_wp2_with fail
                        refine (HPr.out _).mono ?_
                        rintro e wz ⟨v, rfl, hown, hbz⟩
                        unfold knVal
                        obtain ⟨x1, x2, x3, rfl⟩ := own_slice hown
                        have HBz := hid (below2 HBx.out hbz)
                        have HTz := hid (HTx.out.kept hbz)
                        have HSz := hid (HSx.out.kept hbz)
                        have HOw := hid hown
                        clear hbz hown
                        obtain ⟨kok, hkok⟩ : ∃ b, knOk KO.data.toList = b := ⟨_, rfl⟩
                        rw [hkok]
                        obtain ⟨M1, hM1⟩ : ∃ A, ba (knV KO.data.toList).major = A := ⟨_, rfl⟩
                        obtain ⟨M2, hM2⟩ : ∃ A, ba (knV KO.data.toList).minor = A := ⟨_, rfl⟩
                        rw [hM1, hM2]
                        have hb8 : Below wz.heap.size wz (wz.alloc (.cells #[.string M1, .string M2, .slice x1 x2 x3] 39)) := (Below.refl _ _).alloc (Nat.le_refl _) _
                        have hz8 : (wz.alloc (.cells #[.string M1, .string M2, .slice x1 x2 x3] 39)).heap.size = wz.heap.size + 1 := by simp
                        cases kok with
                        | true =>
                          have ht8 := HTz.out.kept hb8
                          obtain ⟨t0, t1, t2⟩ := ht8.cells
                          have f0 := ht8.frozen 0
                          have f1 := ht8.frozen 1
                          have f2 := ht8.frozen 2
                          have HT8 := hid ht8
                          have HB8 := hid (below2 HBz.out hb8)
                          have HS8 := hid (HSz.out.kept hb8)
                          have HTy := hid (show typV (rdK u) = knV KO.data.toList by rw [HKc.out]; unfold typV; rw [hkok]; rfl)
                          have HO8 := hid (own_base (C := w.heap.size) (ownsRow_same HOw.out fun g hg => hb8.block g (HOw.out.lt g hg).2) (by have := HLt.out; omega))
                          have HNe := hid (show (Value.slice x1 x2 x3).ownBlock ≠ some (w.heap.size + 1) from fun e => by have h1 := (HOw.out.lt _ e).1; have h2 := HLt.out; omega)
                          have HM1 := hid hM1
                          have HM2 := hid hM2
                          clear hb8 hz8 ht8 hkok hM1 hM2
                          go_wp2_with fail
                          refine bodyPost_ret (results_t3 rfl _ _ (w.heap.size + 1) M1 M2 (.slice x1 x2 x3) rfl HT8.out.set.range) rfl ⟨?_, .inr ⟨HO.out, .slice x1 x2 x3, (.slice ax nx cx), ?_, ?_, ?_⟩⟩
                          · exact ((HB8.out.setCell (p := ⟨w.heap.size + 1, 0, none⟩) (Nat.le_succ _) _).setCell (p := ⟨w.heap.size + 1, 1, none⟩) (Nat.le_succ _) _).setCell (p := ⟨w.heap.size + 1, 2, none⟩) (Nat.le_succ _) _
                          · rw [HTy.out, HM1.out, HM2.out]; rfl
                          · rw [HTy.out]; exact own_apR (own_apR (own_apR HO8.out HNe.out) HNe.out) HNe.out
                          · rw [HB.out]
                            have q1 := HS8.out.tri (j := 0) (y := .string M1) HT8.out
                            have r1 : TriR ((wz.alloc (.cells #[.string M1, .string M2, .slice x1 x2 x3] 39)).setCell ⟨w.heap.size + 1, 0, none⟩ (.string M1)) (w.heap.size + 1) M1 ⟨#[]⟩ (.slice none 0 0) := Lib.heap_setCell_same HT8.out (i := 0) (.string M1)
                            have q2 := q1.tri (j := 1) (y := .string M2) r1
                            have r2 : TriR (((wz.alloc (.cells #[.string M1, .string M2, .slice x1 x2 x3] 39)).setCell ⟨w.heap.size + 1, 0, none⟩ (.string M1)).setCell ⟨w.heap.size + 1, 1, none⟩ (.string M2)) (w.heap.size + 1) M1 M2 (.slice none 0 0) := Lib.heap_setCell_same r1 (i := 1) (.string M2)
                            exact q2.tri r2
                        | false =>
                          have hz9 : (wz.alloc (.cells #[.string ⟨#[116, 101, 120, 116]⟩, .string ⟨#[112, 108, 97, 105, 110]⟩, .slice (some ⟨wz.heap.size + 1, 0, none⟩) 1 1] 39)).heap.size = wz.heap.size + 1 := by simp
                          have h9 : ((wz.alloc (.cells #[.string ⟨#[116, 101, 120, 116]⟩, .string ⟨#[112, 108, 97, 105, 110]⟩, .slice (some ⟨wz.heap.size + 1, 0, none⟩) 1 1] 39)).alloc (.cells #[.string ⟨#[99, 104, 97, 114, 115, 101, 116]⟩, .string ⟨#[85, 83, 45, 65, 83, 67, 73, 73]⟩] 44)).heap[wz.heap.size + 1]? = some (.cells #[.string ⟨#[99, 104, 97, 114, 115, 101, 116]⟩, .string ⟨#[85, 83, 45, 65, 83, 67, 73, 73]⟩] 44 (0, 0)) := by
                            have := heap_alloc_new (wz.alloc (.cells #[.string ⟨#[116, 101, 120, 116]⟩, .string ⟨#[112, 108, 97, 105, 110]⟩, .slice (some ⟨wz.heap.size + 1, 0, none⟩) 1 1] 39)) (.cells #[.string ⟨#[99, 104, 97, 114, 115, 101, 116]⟩, .string ⟨#[85, 83, 45, 65, 83, 67, 73, 73]⟩] 44)
                            rw [hz9] at this
                            exact this
                          have hb9 : Below wz.heap.size wz ((wz.alloc (.cells #[.string ⟨#[116, 101, 120, 116]⟩, .string ⟨#[112, 108, 97, 105, 110]⟩, .slice (some ⟨wz.heap.size + 1, 0, none⟩) 1 1] 39)).alloc (.cells #[.string ⟨#[99, 104, 97, 114, 115, 101, 116]⟩, .string ⟨#[85, 83, 45, 65, 83, 67, 73, 73]⟩] 44)) := below2 ((Below.refl _ wz).alloc (Nat.le_refl _) _) ((Below.refl _ _).alloc (Nat.le_refl _) _)
                          have ht9 := HTz.out.kept hb9
                          obtain ⟨t0', t1', t2'⟩ := ht9.cells
                          have f0' := ht9.frozen 0
                          have f1' := ht9.frozen 1
                          have f2' := ht9.frozen 2
                          have HT9 := hid ht9
                          have HB9 := hid (below2 HBz.out hb9)
                          have HS9 := hid (HSz.out.kept hb9)
                          have H9 := hid h9
                          have HLz := hid HTz.out.lt
                          have HTy := hid (show typV (rdK u) = usual by rw [HKc.out]; unfold typV; rw [hkok]; rfl)
                          clear hb8 hz8 hkok hM1 hM2 hz9 h9 hb9 ht9 t0 t1 t2 f0 f1 f2
                          go_wp2_with fail
                          refine bodyPost_ret (results_t3 rfl _ _ (w.heap.size + 1) ⟨#[116, 101, 120, 116]⟩ ⟨#[112, 108, 97, 105, 110]⟩ (.slice (some ⟨wz.heap.size + 1, 0, none⟩) 1 1) rfl HT9.out.set.range) rfl ⟨?_, .inr ⟨HO.out, .slice (some ⟨wz.heap.size + 1, 0, none⟩) 1 1, (.slice ax nx cx), ?_, ?_, ?_⟩⟩
                          · exact ((HB9.out.setCell (p := ⟨w.heap.size + 1, 0, none⟩) (Nat.le_succ _) _).setCell (p := ⟨w.heap.size + 1, 1, none⟩) (Nat.le_succ _) _).setCell (p := ⟨w.heap.size + 1, 2, none⟩) (Nat.le_succ _) _
                          · rw [HTy.out]; rfl
                          · rw [HTy.out]
                            have hlt : w.heap.size + 1 < wz.heap.size := HLz.out
                            have ho : ((wz.alloc (.cells #[.string ⟨#[116, 101, 120, 116]⟩, .string ⟨#[112, 108, 97, 105, 110]⟩, .slice (some ⟨wz.heap.size + 1, 0, none⟩) 1 1] 39)).alloc (.cells #[.string ⟨#[99, 104, 97, 114, 115, 101, 116]⟩, .string ⟨#[85, 83, 45, 65, 83, 67, 73, 73]⟩] 44)).ownsRow w.heap.size 44 2 (.slice (some ⟨wz.heap.size + 1, 0, none⟩) 1 1) usual.params.length (cellsH usual.params) :=
                              ⟨by decide, .inr ⟨wz.heap.size + 1, 1, _, rfl, by omega, H9.out, by decide, by decide, by decide, rfl⟩⟩
                            exact own_apR (own_apR (own_apR ho (by simp [Value.ownBlock]; omega)) (by simp [Value.ownBlock]; omega)) (by simp [Value.ownBlock]; omega)
                          · rw [HB.out]
                            have q1 := HS9.out.tri (j := 0) (y := .string ⟨#[116, 101, 120, 116]⟩) HT9.out
                            have r1 : TriR (((wz.alloc (.cells #[.string ⟨#[116, 101, 120, 116]⟩, .string ⟨#[112, 108, 97, 105, 110]⟩, .slice (some ⟨wz.heap.size + 1, 0, none⟩) 1 1] 39)).alloc (.cells #[.string ⟨#[99, 104, 97, 114, 115, 101, 116]⟩, .string ⟨#[85, 83, 45, 65, 83, 67, 73, 73]⟩] 44)).setCell ⟨w.heap.size + 1, 0, none⟩ (.string ⟨#[116, 101, 120, 116]⟩)) (w.heap.size + 1) ⟨#[116, 101, 120, 116]⟩ ⟨#[]⟩ (.slice none 0 0) := Lib.heap_setCell_same HT9.out (i := 0) (.string ⟨#[116, 101, 120, 116]⟩)
                            have q2 := q1.tri (j := 1) (y := .string ⟨#[112, 108, 97, 105, 110]⟩) r1
                            have r2 : TriR ((((wz.alloc (.cells #[.string ⟨#[116, 101, 120, 116]⟩, .string ⟨#[112, 108, 97, 105, 110]⟩, .slice (some ⟨wz.heap.size + 1, 0, none⟩) 1 1] 39)).alloc (.cells #[.string ⟨#[99, 104, 97, 114, 115, 101, 116]⟩, .string ⟨#[85, 83, 45, 65, 83, 67, 73, 73]⟩] 44)).setCell ⟨w.heap.size + 1, 0, none⟩ (.string ⟨#[116, 101, 120, 116]⟩)).setCell ⟨w.heap.size + 1, 1, none⟩ (.string ⟨#[112, 108, 97, 105, 110]⟩)) (w.heap.size + 1) ⟨#[116, 101, 120, 116]⟩ ⟨#[112, 108, 97, 105, 110]⟩ (.slice none 0 0) := Lib.heap_setCell_same r1 (i := 1) (.string ⟨#[112, 108, 97, 105, 110]⟩)
                            exact q2.tri r2
                      | true =>
                        obtain ⟨KC, hKC⟩ : ∃ X : ByteArray, ⟨#[116, 101, 120, 116, 47, 112, 108, 97, 105, 110]⟩ ++ KO = X := ⟨_, rfl⟩
                        have hKl : KC.data.toList = tplB ++ KO.data.toList := by rw [← hKC]; simp [tplB]
                        have HKc := hid (show rdK u = KC.data.toList by rw [HK.out, hKl]; unfold comK; rw [hbg]; rfl)
                        have hKCs : KC.size ≤ 500000 := by rw [Lib.size_eq, hKl, List.length_append, ← Lib.size_eq]; show 10 + _ ≤ _; omega
                        have HPr := hid (fun w => rparse6_any KC w (by omega))
                        clear hbg hKl
                        go_wp2_with fail
                        refine (HBg.out _).mono ?_
                        rintro e wq ⟨rfl, rfl⟩
                        go_wp2_with fail
                        refine (HPr.out _).mono ?_
                        rintro e wz ⟨v, rfl, hown, hbz⟩
                        unfold knVal
                        obtain ⟨x1, x2, x3, rfl⟩ := own_slice hown
                        have HBz := hid (below2 HBx.out hbz)
                        have HTz := hid (HTx.out.kept hbz)
                        have HSz := hid (HSx.out.kept hbz)
                        have HOw := hid hown
                        clear hbz hown
                        obtain ⟨kok, hkok⟩ : ∃ b, knOk KC.data.toList = b := ⟨_, rfl⟩
                        rw [hkok]
                        obtain ⟨M1, hM1⟩ : ∃ A, ba (knV KC.data.toList).major = A := ⟨_, rfl⟩
                        obtain ⟨M2, hM2⟩ : ∃ A, ba (knV KC.data.toList).minor = A := ⟨_, rfl⟩
                        rw [hM1, hM2]
                        have hb8 : Below wz.heap.size wz (wz.alloc (.cells #[.string M1, .string M2, .slice x1 x2 x3] 39)) := (Below.refl _ _).alloc (Nat.le_refl _) _
                        have hz8 : (wz.alloc (.cells #[.string M1, .string M2, .slice x1 x2 x3] 39)).heap.size = wz.heap.size + 1 := by simp
                        cases kok with
                        | true =>
                          have ht8 := HTz.out.kept hb8
                          obtain ⟨t0, t1, t2⟩ := ht8.cells
                          have f0 := ht8.frozen 0
                          have f1 := ht8.frozen 1
                          have f2 := ht8.frozen 2
                          have HT8 := hid ht8
                          have HB8 := hid (below2 HBz.out hb8)
                          have HS8 := hid (HSz.out.kept hb8)
                          have HTy := hid (show typV (rdK u) = knV KC.data.toList by rw [HKc.out]; unfold typV; rw [hkok]; rfl)
                          have HO8 := hid (own_base (C := w.heap.size) (ownsRow_same HOw.out fun g hg => hb8.block g (HOw.out.lt g hg).2) (by have := HLt.out; omega))
                          have HNe := hid (show (Value.slice x1 x2 x3).ownBlock ≠ some (w.heap.size + 1) from fun e => by have h1 := (HOw.out.lt _ e).1; have h2 := HLt.out; omega)
                          have HM1 := hid hM1
                          have HM2 := hid hM2
                          clear hb8 hz8 ht8 hkok hM1 hM2
                          go_wp2_with fail
                          refine bodyPost_ret (results_t3 rfl _ _ (w.heap.size + 1) M1 M2 (.slice x1 x2 x3) rfl HT8.out.set.range) rfl ⟨?_, .inr ⟨HO.out, .slice x1 x2 x3, (.slice ax nx cx), ?_, ?_, ?_⟩⟩
                          · exact ((HB8.out.setCell (p := ⟨w.heap.size + 1, 0, none⟩) (Nat.le_succ _) _).setCell (p := ⟨w.heap.size + 1, 1, none⟩) (Nat.le_succ _) _).setCell (p := ⟨w.heap.size + 1, 2, none⟩) (Nat.le_succ _) _
                          · rw [HTy.out, HM1.out, HM2.out]; rfl
                          · rw [HTy.out]; exact own_apR (own_apR (own_apR HO8.out HNe.out) HNe.out) HNe.out
                          · rw [HB.out]
                            have q1 := HS8.out.tri (j := 0) (y := .string M1) HT8.out
                            have r1 : TriR ((wz.alloc (.cells #[.string M1, .string M2, .slice x1 x2 x3] 39)).setCell ⟨w.heap.size + 1, 0, none⟩ (.string M1)) (w.heap.size + 1) M1 ⟨#[]⟩ (.slice none 0 0) := Lib.heap_setCell_same HT8.out (i := 0) (.string M1)
                            have q2 := q1.tri (j := 1) (y := .string M2) r1
                            have r2 : TriR (((wz.alloc (.cells #[.string M1, .string M2, .slice x1 x2 x3] 39)).setCell ⟨w.heap.size + 1, 0, none⟩ (.string M1)).setCell ⟨w.heap.size + 1, 1, none⟩ (.string M2)) (w.heap.size + 1) M1 M2 (.slice none 0 0) := Lib.heap_setCell_same r1 (i := 1) (.string M2)
                            exact q2.tri r2
                        | false =>
                          have hz9 : (wz.alloc (.cells #[.string ⟨#[116, 101, 120, 116]⟩, .string ⟨#[112, 108, 97, 105, 110]⟩, .slice (some ⟨wz.heap.size + 1, 0, none⟩) 1 1] 39)).heap.size = wz.heap.size + 1 := by simp
                          have h9 : ((wz.alloc (.cells #[.string ⟨#[116, 101, 120, 116]⟩, .string ⟨#[112, 108, 97, 105, 110]⟩, .slice (some ⟨wz.heap.size + 1, 0, none⟩) 1 1] 39)).alloc (.cells #[.string ⟨#[99, 104, 97, 114, 115, 101, 116]⟩, .string ⟨#[85, 83, 45, 65, 83, 67, 73, 73]⟩] 44)).heap[wz.heap.size + 1]? = some (.cells #[.string ⟨#[99, 104, 97, 114, 115, 101, 116]⟩, .string ⟨#[85, 83, 45, 65, 83, 67, 73, 73]⟩] 44 (0, 0)) := by
                            have := heap_alloc_new (wz.alloc (.cells #[.string ⟨#[116, 101, 120, 116]⟩, .string ⟨#[112, 108, 97, 105, 110]⟩, .slice (some ⟨wz.heap.size + 1, 0, none⟩) 1 1] 39)) (.cells #[.string ⟨#[99, 104, 97, 114, 115, 101, 116]⟩, .string ⟨#[85, 83, 45, 65, 83, 67, 73, 73]⟩] 44)
                            rw [hz9] at this
                            exact this
                          have hb9 : Below wz.heap.size wz ((wz.alloc (.cells #[.string ⟨#[116, 101, 120, 116]⟩, .string ⟨#[112, 108, 97, 105, 110]⟩, .slice (some ⟨wz.heap.size + 1, 0, none⟩) 1 1] 39)).alloc (.cells #[.string ⟨#[99, 104, 97, 114, 115, 101, 116]⟩, .string ⟨#[85, 83, 45, 65, 83, 67, 73, 73]⟩] 44)) := below2 ((Below.refl _ wz).alloc (Nat.le_refl _) _) ((Below.refl _ _).alloc (Nat.le_refl _) _)
                          have ht9 := HTz.out.kept hb9
                          obtain ⟨t0', t1', t2'⟩ := ht9.cells
                          have f0' := ht9.frozen 0
                          have f1' := ht9.frozen 1
                          have f2' := ht9.frozen 2
                          have HT9 := hid ht9
                          have HB9 := hid (below2 HBz.out hb9)
                          have HS9 := hid (HSz.out.kept hb9)
                          have H9 := hid h9
                          have HLz := hid HTz.out.lt
                          have HTy := hid (show typV (rdK u) = usual by rw [HKc.out]; unfold typV; rw [hkok]; rfl)
                          clear hb8 hz8 hkok hM1 hM2 hz9 h9 hb9 ht9 t0 t1 t2 f0 f1 f2
                          go_wp2_with fail
                          refine bodyPost_ret (results_t3 rfl _ _ (w.heap.size + 1) ⟨#[116, 101, 120, 116]⟩ ⟨#[112, 108, 97, 105, 110]⟩ (.slice (some ⟨wz.heap.size + 1, 0, none⟩) 1 1) rfl HT9.out.set.range) rfl ⟨?_, .inr ⟨HO.out, .slice (some ⟨wz.heap.size + 1, 0, none⟩) 1 1, (.slice ax nx cx), ?_, ?_, ?_⟩⟩
                          · exact ((HB9.out.setCell (p := ⟨w.heap.size + 1, 0, none⟩) (Nat.le_succ _) _).setCell (p := ⟨w.heap.size + 1, 1, none⟩) (Nat.le_succ _) _).setCell (p := ⟨w.heap.size + 1, 2, none⟩) (Nat.le_succ _) _
                          · rw [HTy.out]; rfl
                          · rw [HTy.out]
                            have hlt : w.heap.size + 1 < wz.heap.size := HLz.out
                            have ho : ((wz.alloc (.cells #[.string ⟨#[116, 101, 120, 116]⟩, .string ⟨#[112, 108, 97, 105, 110]⟩, .slice (some ⟨wz.heap.size + 1, 0, none⟩) 1 1] 39)).alloc (.cells #[.string ⟨#[99, 104, 97, 114, 115, 101, 116]⟩, .string ⟨#[85, 83, 45, 65, 83, 67, 73, 73]⟩] 44)).ownsRow w.heap.size 44 2 (.slice (some ⟨wz.heap.size + 1, 0, none⟩) 1 1) usual.params.length (cellsH usual.params) :=
                              ⟨by decide, .inr ⟨wz.heap.size + 1, 1, _, rfl, by omega, H9.out, by decide, by decide, by decide, rfl⟩⟩
                            exact own_apR (own_apR (own_apR ho (by simp [Value.ownBlock]; omega)) (by simp [Value.ownBlock]; omega)) (by simp [Value.ownBlock]; omega)
                          · rw [HB.out]
                            have q1 := HS9.out.tri (j := 0) (y := .string ⟨#[116, 101, 120, 116]⟩) HT9.out
                            have r1 : TriR (((wz.alloc (.cells #[.string ⟨#[116, 101, 120, 116]⟩, .string ⟨#[112, 108, 97, 105, 110]⟩, .slice (some ⟨wz.heap.size + 1, 0, none⟩) 1 1] 39)).alloc (.cells #[.string ⟨#[99, 104, 97, 114, 115, 101, 116]⟩, .string ⟨#[85, 83, 45, 65, 83, 67, 73, 73]⟩] 44)).setCell ⟨w.heap.size + 1, 0, none⟩ (.string ⟨#[116, 101, 120, 116]⟩)) (w.heap.size + 1) ⟨#[116, 101, 120, 116]⟩ ⟨#[]⟩ (.slice none 0 0) := Lib.heap_setCell_same HT9.out (i := 0) (.string ⟨#[116, 101, 120, 116]⟩)
                            have q2 := q1.tri (j := 1) (y := .string ⟨#[112, 108, 97, 105, 110]⟩) r1
                            have r2 : TriR ((((wz.alloc (.cells #[.string ⟨#[116, 101, 120, 116]⟩, .string ⟨#[112, 108, 97, 105, 110]⟩, .slice (some ⟨wz.heap.size + 1, 0, none⟩) 1 1] 39)).alloc (.cells #[.string ⟨#[99, 104, 97, 114, 115, 101, 116]⟩, .string ⟨#[85, 83, 45, 65, 83, 67, 73, 73]⟩] 44)).setCell ⟨w.heap.size + 1, 0, none⟩ (.string ⟨#[116, 101, 120, 116]⟩)).setCell ⟨w.heap.size + 1, 1, none⟩ (.string ⟨#[112, 108, 97, 105, 110]⟩)) (w.heap.size + 1) ⟨#[116, 101, 120, 116]⟩ ⟨#[112, 108, 97, 105, 110]⟩ (.slice none 0 0) := Lib.heap_setCell_same r1 (i := 1) (.string ⟨#[112, 108, 97, 105, 110]⟩)
                            exact q2.tri r2
              · have hx0' : ¬ (0 : Int) < (X.size : Int) := by omega
                have HXl := hid (show X.data.toList = A6 by
                  have : X.data.toList = [] := List.eq_nil_of_length_eq_zero (by rw [← Lib.size_eq]; omega)
                  rw [← HXA.out, this]; rfl)
                have hsf0 : Lib.hasSuffix A6 [59] = false := by
                  rw [← HXl.out, List.eq_nil_of_length_eq_zero (show X.data.toList.length = 0 by rw [← Lib.size_eq]; omega)]; rfl
                have HEs := hid (fun w : World => ends_any X ⟨#[59]⟩ w (by omega) (by decide))
                rw [show (⟨#[59]⟩ : ByteArray).data.toList = [59] from rfl, HXl.out] at HEs
                have hsf := hsf0
                have him : isM KS.data.toList = false := by unfold isM; rw [HE6'.out, HA6.out, hsf]; rfl
                have HK := hid (show rdK u = comK KS.data.toList by unfold rdK unK; rw [← HKl.out, him]; rfl)
                have HB := hid (show rdB u = UB.data.toList by unfold rdB unB; rw [← HKl.out, him, HUl.out]; rfl)
                have HO := hid (show rdO u = true by unfold rdO unO; rw [HRd.out.1, HRd.out.2, ← HKl.out, him]; rfl)
                rw [hsf] at HEs
                clear him hsf
                go_wp2_with fail
                refine (HEs.out _).mono ?_
                rintro e wq ⟨rfl, rfl⟩
                have HLt := hid (show w.heap.size + 1 < _ from HTx.out.lt)
                have HBg := hid (fun w : World => begins_any KS ⟨#[59]⟩ w (by omega) (by decide))
                rw [show (⟨#[59]⟩ : ByteArray).data.toList = [59] from rfl] at HBg
                obtain ⟨bg, hbg⟩ : ∃ b, Lib.hasPrefix KS.data.toList [59] = b := ⟨_, rfl⟩
                rw [hbg] at HBg
                cases bg with
                | false =>
                  have HKc := hid (show rdK u = KS.data.toList by rw [HK.out]; unfold comK; rw [hbg]; rfl)
                  have HPr := hid (fun w => rparse6_any KS w (by omega))
                  clear hbg
                  go_wp2_with fail
                  refine (HBg.out _).mono ?_
                  rintro e wq ⟨rfl, rfl⟩
                  go_wp2_with fail
                  refine (HPr.out _).mono ?_
                  rintro e wz ⟨v, rfl, hown, hbz⟩
                  unfold knVal
                  obtain ⟨x1, x2, x3, rfl⟩ := own_slice hown
                  have HBz := hid (below2 HBx.out hbz)
                  have HTz := hid (HTx.out.kept hbz)
                  have HSz := hid (HSx.out.kept hbz)
                  have HOw := hid hown
                  clear hbz hown
                  obtain ⟨kok, hkok⟩ : ∃ b, knOk KS.data.toList = b := ⟨_, rfl⟩
                  rw [hkok]
                  obtain ⟨M1, hM1⟩ : ∃ A, ba (knV KS.data.toList).major = A := ⟨_, rfl⟩
                  obtain ⟨M2, hM2⟩ : ∃ A, ba (knV KS.data.toList).minor = A := ⟨_, rfl⟩
                  rw [hM1, hM2]
                  have hb8 : Below wz.heap.size wz (wz.alloc (.cells #[.string M1, .string M2, .slice x1 x2 x3] 39)) := (Below.refl _ _).alloc (Nat.le_refl _) _
                  have hz8 : (wz.alloc (.cells #[.string M1, .string M2, .slice x1 x2 x3] 39)).heap.size = wz.heap.size + 1 := by simp
                  cases kok with
                  | true =>
                    have ht8 := HTz.out.kept hb8
                    obtain ⟨t0, t1, t2⟩ := ht8.cells
                    have f0 := ht8.frozen 0
                    have f1 := ht8.frozen 1
                    have f2 := ht8.frozen 2
                    have HT8 := hid ht8
                    have HB8 := hid (below2 HBz.out hb8)
                    have HS8 := hid (HSz.out.kept hb8)
                    have HTy := hid (show typV (rdK u) = knV KS.data.toList by rw [HKc.out]; unfold typV; rw [hkok]; rfl)
                    have HO8 := hid (own_base (C := w.heap.size) (ownsRow_same HOw.out fun g hg => hb8.block g (HOw.out.lt g hg).2) (by have := HLt.out; omega))
                    have HNe := hid (show (Value.slice x1 x2 x3).ownBlock ≠ some (w.heap.size + 1) from fun e => by have h1 := (HOw.out.lt _ e).1; have h2 := HLt.out; omega)
                    have HM1 := hid hM1
                    have HM2 := hid hM2
                    clear hb8 hz8 ht8 hkok hM1 hM2
                    go_wp2_with fail
                    refine bodyPost_ret (results_t3 rfl _ _ (w.heap.size + 1) M1 M2 (.slice x1 x2 x3) rfl HT8.out.set.range) rfl ⟨?_, .inr ⟨HO.out, .slice x1 x2 x3, (.slice (some ⟨wb.heap.size, 0, none⟩) UB.size cap), ?_, ?_, ?_⟩⟩
                    · exact ((HB8.out.setCell (p := ⟨w.heap.size + 1, 0, none⟩) (Nat.le_succ _) _).setCell (p := ⟨w.heap.size + 1, 1, none⟩) (Nat.le_succ _) _).setCell (p := ⟨w.heap.size + 1, 2, none⟩) (Nat.le_succ _) _
                    · rw [HTy.out, HM1.out, HM2.out]; rfl
                    · rw [HTy.out]; exact own_apR (own_apR (own_apR HO8.out HNe.out) HNe.out) HNe.out
                    · rw [HB.out]
                      have q1 := HS8.out.tri (j := 0) (y := .string M1) HT8.out
                      have r1 : TriR ((wz.alloc (.cells #[.string M1, .string M2, .slice x1 x2 x3] 39)).setCell ⟨w.heap.size + 1, 0, none⟩ (.string M1)) (w.heap.size + 1) M1 ⟨#[]⟩ (.slice none 0 0) := Lib.heap_setCell_same HT8.out (i := 0) (.string M1)
                      have q2 := q1.tri (j := 1) (y := .string M2) r1
                      have r2 : TriR (((wz.alloc (.cells #[.string M1, .string M2, .slice x1 x2 x3] 39)).setCell ⟨w.heap.size + 1, 0, none⟩ (.string M1)).setCell ⟨w.heap.size + 1, 1, none⟩ (.string M2)) (w.heap.size + 1) M1 M2 (.slice none 0 0) := Lib.heap_setCell_same r1 (i := 1) (.string M2)
                      exact q2.tri r2
                  | false =>
                    have hz9 : (wz.alloc (.cells #[.string ⟨#[116, 101, 120, 116]⟩, .string ⟨#[112, 108, 97, 105, 110]⟩, .slice (some ⟨wz.heap.size + 1, 0, none⟩) 1 1] 39)).heap.size = wz.heap.size + 1 := by simp
                    have h9 : ((wz.alloc (.cells #[.string ⟨#[116, 101, 120, 116]⟩, .string ⟨#[112, 108, 97, 105, 110]⟩, .slice (some ⟨wz.heap.size + 1, 0, none⟩) 1 1] 39)).alloc (.cells #[.string ⟨#[99, 104, 97, 114, 115, 101, 116]⟩, .string ⟨#[85, 83, 45, 65, 83, 67, 73, 73]⟩] 44)).heap[wz.heap.size + 1]? = some (.cells #[.string ⟨#[99, 104, 97, 114, 115, 101, 116]⟩, .string ⟨#[85, 83, 45, 65, 83, 67, 73, 73]⟩] 44 (0, 0)) := by
                      have := heap_alloc_new (wz.alloc (.cells #[.string ⟨#[116, 101, 120, 116]⟩, .string ⟨#[112, 108, 97, 105, 110]⟩, .slice (some ⟨wz.heap.size + 1, 0, none⟩) 1 1] 39)) (.cells #[.string ⟨#[99, 104, 97, 114, 115, 101, 116]⟩, .string ⟨#[85, 83, 45, 65, 83, 67, 73, 73]⟩] 44)
                      rw [hz9] at this
                      exact this
                    have hb9 : Below wz.heap.size wz ((wz.alloc (.cells #[.string ⟨#[116, 101, 120, 116]⟩, .string ⟨#[112, 108, 97, 105, 110]⟩, .slice (some ⟨wz.heap.size + 1, 0, none⟩) 1 1] 39)).alloc (.cells #[.string ⟨#[99, 104, 97, 114, 115, 101, 116]⟩, .string ⟨#[85, 83, 45, 65, 83, 67, 73, 73]⟩] 44)) := below2 ((Below.refl _ wz).alloc (Nat.le_refl _) _) ((Below.refl _ _).alloc (Nat.le_refl _) _)
                    have ht9 := HTz.out.kept hb9
                    obtain ⟨t0', t1', t2'⟩ := ht9.cells
                    have f0' := ht9.frozen 0
                    have f1' := ht9.frozen 1
                    have f2' := ht9.frozen 2
                    have HT9 := hid ht9
                    have HB9 := hid (below2 HBz.out hb9)
                    have HS9 := hid (HSz.out.kept hb9)
                    have H9 := hid h9
                    have HLz := hid HTz.out.lt
                    have HTy := hid (show typV (rdK u) = usual by rw [HKc.out]; unfold typV; rw [hkok]; rfl)
                    clear hb8 hz8 hkok hM1 hM2 hz9 h9 hb9 ht9 t0 t1 t2 f0 f1 f2
                    go_wp2_with fail
                    refine bodyPost_ret (results_t3 rfl _ _ (w.heap.size + 1) ⟨#[116, 101, 120, 116]⟩ ⟨#[112, 108, 97, 105, 110]⟩ (.slice (some ⟨wz.heap.size + 1, 0, none⟩) 1 1) rfl HT9.out.set.range) rfl ⟨?_, .inr ⟨HO.out, .slice (some ⟨wz.heap.size + 1, 0, none⟩) 1 1, (.slice (some ⟨wb.heap.size, 0, none⟩) UB.size cap), ?_, ?_, ?_⟩⟩
                    · exact ((HB9.out.setCell (p := ⟨w.heap.size + 1, 0, none⟩) (Nat.le_succ _) _).setCell (p := ⟨w.heap.size + 1, 1, none⟩) (Nat.le_succ _) _).setCell (p := ⟨w.heap.size + 1, 2, none⟩) (Nat.le_succ _) _
                    · rw [HTy.out]; rfl
                    · rw [HTy.out]
                      have hlt : w.heap.size + 1 < wz.heap.size := HLz.out
                      have ho : ((wz.alloc (.cells #[.string ⟨#[116, 101, 120, 116]⟩, .string ⟨#[112, 108, 97, 105, 110]⟩, .slice (some ⟨wz.heap.size + 1, 0, none⟩) 1 1] 39)).alloc (.cells #[.string ⟨#[99, 104, 97, 114, 115, 101, 116]⟩, .string ⟨#[85, 83, 45, 65, 83, 67, 73, 73]⟩] 44)).ownsRow w.heap.size 44 2 (.slice (some ⟨wz.heap.size + 1, 0, none⟩) 1 1) usual.params.length (cellsH usual.params) :=
                        ⟨by decide, .inr ⟨wz.heap.size + 1, 1, _, rfl, by omega, H9.out, by decide, by decide, by decide, rfl⟩⟩
                      exact own_apR (own_apR (own_apR ho (by simp [Value.ownBlock]; omega)) (by simp [Value.ownBlock]; omega)) (by simp [Value.ownBlock]; omega)
                    · rw [HB.out]
                      have q1 := HS9.out.tri (j := 0) (y := .string ⟨#[116, 101, 120, 116]⟩) HT9.out
                      have r1 : TriR (((wz.alloc (.cells #[.string ⟨#[116, 101, 120, 116]⟩, .string ⟨#[112, 108, 97, 105, 110]⟩, .slice (some ⟨wz.heap.size + 1, 0, none⟩) 1 1] 39)).alloc (.cells #[.string ⟨#[99, 104, 97, 114, 115, 101, 116]⟩, .string ⟨#[85, 83, 45, 65, 83, 67, 73, 73]⟩] 44)).setCell ⟨w.heap.size + 1, 0, none⟩ (.string ⟨#[116, 101, 120, 116]⟩)) (w.heap.size + 1) ⟨#[116, 101, 120, 116]⟩ ⟨#[]⟩ (.slice none 0 0) := Lib.heap_setCell_same HT9.out (i := 0) (.string ⟨#[116, 101, 120, 116]⟩)
                      have q2 := q1.tri (j := 1) (y := .string ⟨#[112, 108, 97, 105, 110]⟩) r1
                      have r2 : TriR ((((wz.alloc (.cells #[.string ⟨#[116, 101, 120, 116]⟩, .string ⟨#[112, 108, 97, 105, 110]⟩, .slice (some ⟨wz.heap.size + 1, 0, none⟩) 1 1] 39)).alloc (.cells #[.string ⟨#[99, 104, 97, 114, 115, 101, 116]⟩, .string ⟨#[85, 83, 45, 65, 83, 67, 73, 73]⟩] 44)).setCell ⟨w.heap.size + 1, 0, none⟩ (.string ⟨#[116, 101, 120, 116]⟩)).setCell ⟨w.heap.size + 1, 1, none⟩ (.string ⟨#[112, 108, 97, 105, 110]⟩)) (w.heap.size + 1) ⟨#[116, 101, 120, 116]⟩ ⟨#[112, 108, 97, 105, 110]⟩ (.slice none 0 0) := Lib.heap_setCell_same r1 (i := 1) (.string ⟨#[112, 108, 97, 105, 110]⟩)
                      exact q2.tri r2
                | true =>
                  obtain ⟨KC, hKC⟩ : ∃ X : ByteArray, ⟨#[116, 101, 120, 116, 47, 112, 108, 97, 105, 110]⟩ ++ KS = X := ⟨_, rfl⟩
                  have hKl : KC.data.toList = tplB ++ KS.data.toList := by rw [← hKC]; simp [tplB]
                  have HKc := hid (show rdK u = KC.data.toList by rw [HK.out, hKl]; unfold comK; rw [hbg]; rfl)
                  have hKCs : KC.size ≤ 500000 := by rw [Lib.size_eq, hKl, List.length_append, ← Lib.size_eq]; show 10 + _ ≤ _; omega
                  have HPr := hid (fun w => rparse6_any KC w (by omega))
                  clear hbg hKl
                  go_wp2_with fail
                  refine (HBg.out _).mono ?_
                  rintro e wq ⟨rfl, rfl⟩
                  go_wp2_with fail
                  refine (HPr.out _).mono ?_
                  rintro e wz ⟨v, rfl, hown, hbz⟩
                  unfold knVal
                  obtain ⟨x1, x2, x3, rfl⟩ := own_slice hown
                  have HBz := hid (below2 HBx.out hbz)
                  have HTz := hid (HTx.out.kept hbz)
                  have HSz := hid (HSx.out.kept hbz)
                  have HOw := hid hown
                  clear hbz hown
                  obtain ⟨kok, hkok⟩ : ∃ b, knOk KC.data.toList = b := ⟨_, rfl⟩
                  rw [hkok]
                  obtain ⟨M1, hM1⟩ : ∃ A, ba (knV KC.data.toList).major = A := ⟨_, rfl⟩
                  obtain ⟨M2, hM2⟩ : ∃ A, ba (knV KC.data.toList).minor = A := ⟨_, rfl⟩
                  rw [hM1, hM2]
                  have hb8 : Below wz.heap.size wz (wz.alloc (.cells #[.string M1, .string M2, .slice x1 x2 x3] 39)) := (Below.refl _ _).alloc (Nat.le_refl _) _
                  have hz8 : (wz.alloc (.cells #[.string M1, .string M2, .slice x1 x2 x3] 39)).heap.size = wz.heap.size + 1 := by simp
                  cases kok with
                  | true =>
                    have ht8 := HTz.out.kept hb8
                    obtain ⟨t0, t1, t2⟩ := ht8.cells
                    have f0 := ht8.frozen 0
                    have f1 := ht8.frozen 1
                    have f2 := ht8.frozen 2
                    have HT8 := hid ht8
                    have HB8 := hid (below2 HBz.out hb8)
                    have HS8 := hid (HSz.out.kept hb8)
                    have HTy := hid (show typV (rdK u) = knV KC.data.toList by rw [HKc.out]; unfold typV; rw [hkok]; rfl)
                    have HO8 := hid (own_base (C := w.heap.size) (ownsRow_same HOw.out fun g hg => hb8.block g (HOw.out.lt g hg).2) (by have := HLt.out; omega))
                    have HNe := hid (show (Value.slice x1 x2 x3).ownBlock ≠ some (w.heap.size + 1) from fun e => by have h1 := (HOw.out.lt _ e).1; have h2 := HLt.out; omega)
                    have HM1 := hid hM1
                    have HM2 := hid hM2
                    clear hb8 hz8 ht8 hkok hM1 hM2
                    go_wp2_with fail
                    refine bodyPost_ret (results_t3 rfl _ _ (w.heap.size + 1) M1 M2 (.slice x1 x2 x3) rfl HT8.out.set.range) rfl ⟨?_, .inr ⟨HO.out, .slice x1 x2 x3, (.slice (some ⟨wb.heap.size, 0, none⟩) UB.size cap), ?_, ?_, ?_⟩⟩
                    · exact ((HB8.out.setCell (p := ⟨w.heap.size + 1, 0, none⟩) (Nat.le_succ _) _).setCell (p := ⟨w.heap.size + 1, 1, none⟩) (Nat.le_succ _) _).setCell (p := ⟨w.heap.size + 1, 2, none⟩) (Nat.le_succ _) _
                    · rw [HTy.out, HM1.out, HM2.out]; rfl
                    · rw [HTy.out]; exact own_apR (own_apR (own_apR HO8.out HNe.out) HNe.out) HNe.out
                    · rw [HB.out]
                      have q1 := HS8.out.tri (j := 0) (y := .string M1) HT8.out
                      have r1 : TriR ((wz.alloc (.cells #[.string M1, .string M2, .slice x1 x2 x3] 39)).setCell ⟨w.heap.size + 1, 0, none⟩ (.string M1)) (w.heap.size + 1) M1 ⟨#[]⟩ (.slice none 0 0) := Lib.heap_setCell_same HT8.out (i := 0) (.string M1)
                      have q2 := q1.tri (j := 1) (y := .string M2) r1
                      have r2 : TriR (((wz.alloc (.cells #[.string M1, .string M2, .slice x1 x2 x3] 39)).setCell ⟨w.heap.size + 1, 0, none⟩ (.string M1)).setCell ⟨w.heap.size + 1, 1, none⟩ (.string M2)) (w.heap.size + 1) M1 M2 (.slice none 0 0) := Lib.heap_setCell_same r1 (i := 1) (.string M2)
                      exact q2.tri r2
                  | false =>
                    have hz9 : (wz.alloc (.cells #[.string ⟨#[116, 101, 120, 116]⟩, .string ⟨#[112, 108, 97, 105, 110]⟩, .slice (some ⟨wz.heap.size + 1, 0, none⟩) 1 1] 39)).heap.size = wz.heap.size + 1 := by simp
                    have h9 : ((wz.alloc (.cells #[.string ⟨#[116, 101, 120, 116]⟩, .string ⟨#[112, 108, 97, 105, 110]⟩, .slice (some ⟨wz.heap.size + 1, 0, none⟩) 1 1] 39)).alloc (.cells #[.string ⟨#[99, 104, 97, 114, 115, 101, 116]⟩, .string ⟨#[85, 83, 45, 65, 83, 67, 73, 73]⟩] 44)).heap[wz.heap.size + 1]? = some (.cells #[.string ⟨#[99, 104, 97, 114, 115, 101, 116]⟩, .string ⟨#[85, 83, 45, 65, 83, 67, 73, 73]⟩] 44 (0, 0)) := by
                      have := heap_alloc_new (wz.alloc (.cells #[.string ⟨#[116, 101, 120, 116]⟩, .string ⟨#[112, 108, 97, 105, 110]⟩, .slice (some ⟨wz.heap.size + 1, 0, none⟩) 1 1] 39)) (.cells #[.string ⟨#[99, 104, 97, 114, 115, 101, 116]⟩, .string ⟨#[85, 83, 45, 65, 83, 67, 73, 73]⟩] 44)
                      rw [hz9] at this
                      exact this
                    have hb9 : Below wz.heap.size wz ((wz.alloc (.cells #[.string ⟨#[116, 101, 120, 116]⟩, .string ⟨#[112, 108, 97, 105, 110]⟩, .slice (some ⟨wz.heap.size + 1, 0, none⟩) 1 1] 39)).alloc (.cells #[.string ⟨#[99, 104, 97, 114, 115, 101, 116]⟩, .string ⟨#[85, 83, 45, 65, 83, 67, 73, 73]⟩] 44)) := below2 ((Below.refl _ wz).alloc (Nat.le_refl _) _) ((Below.refl _ _).alloc (Nat.le_refl _) _)
                    have ht9 := HTz.out.kept hb9
                    obtain ⟨t0', t1', t2'⟩ := ht9.cells
                    have f0' := ht9.frozen 0
                    have f1' := ht9.frozen 1
                    have f2' := ht9.frozen 2
                    have HT9 := hid ht9
                    have HB9 := hid (below2 HBz.out hb9)
                    have HS9 := hid (HSz.out.kept hb9)
                    have H9 := hid h9
                    have HLz := hid HTz.out.lt
                    have HTy := hid (show typV (rdK u) = usual by rw [HKc.out]; unfold typV; rw [hkok]; rfl)
                    clear hb8 hz8 hkok hM1 hM2 hz9 h9 hb9 ht9 t0 t1 t2 f0 f1 f2
                    go_wp2_with fail
                    refine bodyPost_ret (results_t3 rfl _ _ (w.heap.size + 1) ⟨#[116, 101, 120, 116]⟩ ⟨#[112, 108, 97, 105, 110]⟩ (.slice (some ⟨wz.heap.size + 1, 0, none⟩) 1 1) rfl HT9.out.set.range) rfl ⟨?_, .inr ⟨HO.out, .slice (some ⟨wz.heap.size + 1, 0, none⟩) 1 1, (.slice (some ⟨wb.heap.size, 0, none⟩) UB.size cap), ?_, ?_, ?_⟩⟩
                    · exact ((HB9.out.setCell (p := ⟨w.heap.size + 1, 0, none⟩) (Nat.le_succ _) _).setCell (p := ⟨w.heap.size + 1, 1, none⟩) (Nat.le_succ _) _).setCell (p := ⟨w.heap.size + 1, 2, none⟩) (Nat.le_succ _) _
                    · rw [HTy.out]; rfl
                    · rw [HTy.out]
                      have hlt : w.heap.size + 1 < wz.heap.size := HLz.out
                      have ho : ((wz.alloc (.cells #[.string ⟨#[116, 101, 120, 116]⟩, .string ⟨#[112, 108, 97, 105, 110]⟩, .slice (some ⟨wz.heap.size + 1, 0, none⟩) 1 1] 39)).alloc (.cells #[.string ⟨#[99, 104, 97, 114, 115, 101, 116]⟩, .string ⟨#[85, 83, 45, 65, 83, 67, 73, 73]⟩] 44)).ownsRow w.heap.size 44 2 (.slice (some ⟨wz.heap.size + 1, 0, none⟩) 1 1) usual.params.length (cellsH usual.params) :=
                        ⟨by decide, .inr ⟨wz.heap.size + 1, 1, _, rfl, by omega, H9.out, by decide, by decide, by decide, rfl⟩⟩
                      exact own_apR (own_apR (own_apR ho (by simp [Value.ownBlock]; omega)) (by simp [Value.ownBlock]; omega)) (by simp [Value.ownBlock]; omega)
                    · rw [HB.out]
                      have q1 := HS9.out.tri (j := 0) (y := .string ⟨#[116, 101, 120, 116]⟩) HT9.out
                      have r1 : TriR (((wz.alloc (.cells #[.string ⟨#[116, 101, 120, 116]⟩, .string ⟨#[112, 108, 97, 105, 110]⟩, .slice (some ⟨wz.heap.size + 1, 0, none⟩) 1 1] 39)).alloc (.cells #[.string ⟨#[99, 104, 97, 114, 115, 101, 116]⟩, .string ⟨#[85, 83, 45, 65, 83, 67, 73, 73]⟩] 44)).setCell ⟨w.heap.size + 1, 0, none⟩ (.string ⟨#[116, 101, 120, 116]⟩)) (w.heap.size + 1) ⟨#[116, 101, 120, 116]⟩ ⟨#[]⟩ (.slice none 0 0) := Lib.heap_setCell_same HT9.out (i := 0) (.string ⟨#[116, 101, 120, 116]⟩)
                      have q2 := q1.tri (j := 1) (y := .string ⟨#[112, 108, 97, 105, 110]⟩) r1
                      have r2 : TriR ((((wz.alloc (.cells #[.string ⟨#[116, 101, 120, 116]⟩, .string ⟨#[112, 108, 97, 105, 110]⟩, .slice (some ⟨wz.heap.size + 1, 0, none⟩) 1 1] 39)).alloc (.cells #[.string ⟨#[99, 104, 97, 114, 115, 101, 116]⟩, .string ⟨#[85, 83, 45, 65, 83, 67, 73, 73]⟩] 44)).setCell ⟨w.heap.size + 1, 0, none⟩ (.string ⟨#[116, 101, 120, 116]⟩)).setCell ⟨w.heap.size + 1, 1, none⟩ (.string ⟨#[112, 108, 97, 105, 110]⟩)) (w.heap.size + 1) ⟨#[116, 101, 120, 116]⟩ ⟨#[112, 108, 97, 105, 110]⟩ (.slice none 0 0) := Lib.heap_setCell_same r1 (i := 1) (.string ⟨#[112, 108, 97, 105, 110]⟩)
                      exact q2.tri r2
  · have hne : (SC.data.toList == dataB) = false := by
      cases h : SC.data.toList == dataB with
      | false => rfl
      | true => exact absurd (by rw [← mba_self SC, eq_of_beq h]; rfl) hs
    have HO := hid (show rdO u = false by unfold rdO; rw [hD, hne]; rfl)
    have hSf : (SC.toList == [100, 97, 116, 97]) = false := by rw [Lib.toList_data]; exact hne
    clear hD hne hs
    go_enter Tryz.func14, Tryz.ntmps14
    go_wp2_with fail
    refine bodyPost_ret (results_t3 rfl _ _ (w.heap.size + 1) ⟨#[]⟩ ⟨#[]⟩ (.slice none 0 0) rfl (by first | exact HT0.out.range | exact HT0.out.set.range)) rfl ⟨by first | exact HB0.out | exact ((HB0.out.setCell (p := ⟨w.heap.size + 1, 0, none⟩) (Nat.le_succ _) _).setCell (p := ⟨w.heap.size + 1, 1, none⟩) (Nat.le_succ _) _).setCell (p := ⟨w.heap.size + 1, 2, none⟩) (Nat.le_succ _) _, .inl ⟨HO.out, rfl⟩⟩

end Go.Proofs.YtjmkccnjjofmeaaGreatDoor
