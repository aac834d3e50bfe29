/-
  Walks and plain facts that this claim leans on, put together out of 9 texts: Yi, Yt, Yo, Pg, Xa, Xb, Xc, Xe, Xi.
-/
import Derived.Test.YtgoefeaopegdoaaGreatDoorProg
import Derived.Test.YtgoefeaopegdoaaGreatDoorQa1
import Derived.Test.YtgoefeaopegdoaaGreatDoorQa3
import Derived.Test.YtgoefeaopegdoaaGreatDoorQa6
import Derived.Test.YtgoefeaopegdoaaGreatDoorQa8
import Derived.Test.YtgoefeaopegdoaaGreatDoorQa9
import Derived.Test.YtgoefeaopegdoaaGreatDoorQa11
import Derived.Test.YtgoefeaopegdoaaGreatDoorQa12
import Derived.Test.YtgoefeaopegdoaaGreatDoorQa18
import Derived.Test.YtgoefeaopegdoaaGreatDoorQa22
import Derived.Test.YtgoefeaopegdoaaGreatDoorQa24
import Derived.Test.YtgoefeaopegdoaaGreatDoorQa25
import Derived.Lib.IndexMore
import Derived.Lib.Join
import Derived.Lib.LastIndexByte
import Derived.WalkKit
import Derived.Lib.Strings
import Derived.Lib.UnsafeStr
import Derived.Laws.IdiomStrings
import Derived.Laws.AppendOwn
import Derived.Laws.BitsAllLaws
import Derived.Lib.Bytealg
import Derived.Lib.BufferMore
import Derived.Lib.BufferRead
import Derived.Lib.RuneBytes
import Derived.Laws.RangeAny
import Derived.LoopN
import Derived.RegionTactic
import Derived.Deep.RegionWith
import Derived.Deep.QuietTactic
import Derived.BigQuiet
import Derived.OwnWalk
import Derived.Deep.RegionLaw
import Derived.Laws.OwnMore
import Derived.Deep.LoopGhost
import Derived.Shelf.Strings.Builder1
import Derived.Shelf.Strings.Builder2
import Derived.Shelf.Strings.OnBuilder
import Derived.Shelf.Strings.Trim
import Derived.Shelf.Small.Utf8
import Derived.Shelf.Small.Bits
import Derived.Shelf.Small.Strs
import Derived.Shelf.Small.Wraps
import Derived.Shelf.Strings.BuilderF
import Derived.Shelf.Strings.BuilderK
import Derived.Shelf.Strings.BuilderRune
import Derived.Shelf.Utf8.AppendRune
import Derived.Shelf.Utf8.AppendRunePlain
import Derived.Shelf.Strings.Builder2Cap
import Derived.Shelf.Strconv.Itoa0
import Derived.Shelf.Strconv.Itoa1
import Derived.Shelf.LaysM
import Derived.Shelf.Strconv.Itoa2
import Derived.Shelf.Strconv.Itoa3
import Derived.Shelf.Strings.Search1
import Derived.Shelf.Strings.Search2
import Derived.Shelf.Strings.Search3
import Derived.Shelf.Strings.Cut
import Derived.Shelf.Strings.Count
import Derived.Shelf.Strings.Shaped
import Derived.Shelf.Strings.LastIndex
import Derived.Shelf.Strings.Prefix
import Derived.Shelf.Strings.Split
import Derived.Shelf.Strings.Replace
import Derived.Shelf.Strings.Runes
import Derived.Shelf.Strings.IndexAny
import Derived.Shelf.Strings.AsciiSet
import Derived.Shelf.Strings.IndexAnyAll
import Derived.Shelf.Unicode.DecodeSlow
import Derived.Ground.Names2Prog
import Derived.Shelf.Slices.Clone
import Derived.Shelf.Slices.In.SortNone
import Derived.Ground.SlgnProg
import Derived.Shelf.SlicesE.Clone
import Derived.BigRegion
import Derived.Laws.AppendOwnNone
import Derived.Deep.Cut
import Derived.Scope
import Derived.ScopeJumps
import Derived.WalkMore
import Derived.Lib.IndexAny
import Derived.Lib.Replace
import Derived.Lib.TrimByte
import Derived.Lib.ItoaNum
import Derived.Lib.DecodeN
import Derived.Lib.OthersKept
import Derived.Laws.BytesString
import Derived.Deep.WholeRow
import Derived.Lib.AppendStr
import Derived.Deep.RegionHeld
import Derived.WalkSpells
import Derived.WalkLawsBesides
import Derived.Lib.AppendIntMem
import Derived.Lib.SmallJoins
import Derived.WalkSmall
import Derived.Laws.CopyOwn
import Derived.Laws.ResultCell
import Derived.Deep.MidRow
import Derived.Lib.FrozenHead2
import Derived.Lib.Builder
import Derived.Laws.Runes
import Derived.Lib.SlTrimSet
import Derived.Below
set_option linter.unusedSimpArgs false
set_option linter.unusedVariables false

namespace Go.Proofs.YtgoefeaopegdoaaGreatDoor
open Go.RowKit

def orgCells (o : Org) : List Value := [.string ⟨o.scheme.toArray⟩, .string ⟨o.host.toArray⟩, .int .i64 o.port, .bool o.opq]

def orgVal (o : Org) : Value := .agg (orgCells o).toArray

def OrgIn (w : World) (b : Nat) (o : Org) : Prop := w.heap[b]? = some (.cells (orgCells o).toArray 28 (0, 0))

def Org.nil : Org := ⟨[], [], 0, false⟩

theorem OrgIn.lt {w : World} {b : Nat} {o : Org} (h : OrgIn w b o) : b < w.heap.size := (Array.getElem?_eq_some_iff.1 h).1

theorem OrgIn.kept {w w' : World} {b : Nat} {o : Org} (h : OrgIn w b o) (hb : Below w.heap.size w w') : OrgIn w' b o := by
 unfold OrgIn
 rw [hb.block b h.lt]; exact h

theorem OrgIn.cell {w : World} {b : Nat} {o : Org} (h : OrgIn w b o) (j : Nat) (v : Value) (hv : (orgCells o)[j]? = some v) : w.cell? ⟨b, j, none⟩ = some v := by
 rw [Lib.cell_of_heap h]
 simpa using hv

theorem OrgIn.frozen {w : World} {b : Nat} {o : Org} (h : OrgIn w b o) (j : Nat) : w.frozen? ⟨b, j, none⟩ = false := by
 simp [World.frozen?, show w.heap[b]? = _ from h]

theorem OrgIn.store {w : World} {b : Nat} {o p : Org} (h : OrgIn w b o) : OrgIn (w.setCells b 0 (orgCells p)) b p := by
 obtain ⟨C', e1, e2, _, e4⟩ := setCells_heap b 28 (0, 0) (orgCells p) 0 w _ h
 unfold OrgIn
 rw [e1]
 have : C' = (orgCells p).toArray := by
  apply Array.ext_getElem?
  intro j
  by_cases hj : j < 4
  ·have := e4 j hj (by rw [Nat.zero_add]; exact hj)
   rw [Nat.zero_add] at this
   rw [this]; simp
  ·have h2 : C'.size = 4 := by rw [e2]; rfl
   rw [Array.getElem?_eq_none (by omega), Array.getElem?_eq_none (by simp [orgCells]; omega)]
 rw [this]

theorem OrgIn.far {w : World} {b c j : Nat} {o : Org} {v : Value} (h : OrgIn w b o) (hne : b ≠ c) : OrgIn (w.setCell ⟨c, j, none⟩ v) b o := by
 unfold OrgIn
 rw [heap_setCell_other _ _ _ _ (fun e => hne (by simpa using e))]; exact h

theorem OrgIn.fars {b c : Nat} {o : Org} (hne : b ≠ c) : ∀ (vs : List Value) (j : Nat) (w : World), OrgIn w b o → OrgIn (w.setCells c j vs) b o
 | [], _, _, h => h
 | v :: r, j, w, h => by rw [World.setCells]; exact OrgIn.fars hne r (j + 1) _ (h.far hne)

theorem AdrIn.fars {b c : Nat} {u : Adr} {pv : Value} (hne : b ≠ c) : ∀ (vs : List Value) (j : Nat) (w : World), AdrIn w b u pv → AdrIn (w.setCells c j vs) b u pv
 | [], _, _, h => h
 | v :: r, j, w, h => by
  rw [World.setCells]
  refine AdrIn.fars hne r (j + 1) _ ?_
  unfold AdrIn
  rw [heap_setCell_other _ _ _ _ (fun e => hne (by simpa using e))]; exact h

theorem OrgIn.port {w : World} {b : Nat} {sc h : List UInt8} {n m : Int} {q : Bool} (H : OrgIn w b ⟨sc, h, n, q⟩) : OrgIn (w.setCell ⟨b, 2, none⟩ (.int .i64 m)) b ⟨sc, h, m, q⟩ := Lib.heap_setCell_same H (i := 2) (.int .i64 m)

theorem sizeO : (Tryz.prog.info? 28).map (·.size) = some 4 := by kernel_rfl

theorem results_o1 {fn : Func} {p : Tmp} (h : fn.results = #[.cell p 28]) (tmps : Array Value) (w : World) (b : Nat) (o : Org) (hp : tmps.getD p undef = .pointer (some ⟨b, 0, none⟩)) (hc : w.rangeAt b 0 (orgCells o)) : (results fn tmps).run Tryz.prog w = .ok (orgVal o) w := by
 rw [Array.getD_eq_getD_getElem?] at hp
 simp only [results, h]
 simp [Sem.run_bind, Result.andThen, hp, asAddr, run_loadVar_mid w b 0 28 (orgCells o) _ hc Tryz.underlying28 rfl sizeO, orgVal]

theorem wpList_worldO {P : Program} {ops : Array Oper} {Q : Exit → Act → World → Prop} {rest : List Oper} {a : Act} {w w' : World} (e : w = w') (h : wpList P ops Q rest a w) : wpList P ops Q rest a w' := e ▸ h

theorem orgV_no {u : Adr} (h : specV (orgA u).scheme = false) : orgV u = Org.none := by unfold orgV; rw [h]; rfl

theorem orgV_yes {u : Adr} (h : specV (orgA u).scheme = true) : orgV u = ⟨(orgA u).scheme, (orgA u).host, hasP (orgA u), false⟩ := by unfold orgV; rw [h]; rfl

theorem orgA_in {u : Adr} (h : webV (innV u).scheme = true) : orgA u = innV u := by unfold orgA; rw [h]; rfl

theorem orgA_out {u : Adr} (h : webV (innV u).scheme = false) : orgA u = u := by unfold orgA; rw [h]; rfl

def OfPost (o : Org) (w : World) (e : Ending) (w' : World) : Prop := e = .returned (orgVal o) ∧ Below w.heap.size w w'

set_option maxHeartbeats 8000000 in
set_option maxRecDepth 100000 in
theorem of_any (u : Adr) (pv : Value) (w : World) (hg : Gd w) (hp : PathAt w pv u.path) (hl : u.path.length ≤ 1000000) (hf : u.path.flatten.length ≤ 100000) :
  Calls Tryz.prog 71 #[adrVal u pv] w (OfPost (orgV u) w) := by
 have hsl : IsSl pv := by
  rcases hp with ⟨rfl, _⟩ | ⟨b, cap, rfl, _⟩
  ·exact ⟨_, _, _, rfl⟩
  ·exact ⟨_, _, _, rfl⟩
 obtain ⟨ua, un, uc, rfl⟩ := hsl
 have HIN := hid (fun (w : World) (hg : Gd w) (hp : PathAt w (.slice ua un uc) u.path) => inner_any u (.slice ua un uc) w hg hp hl hf)
 obtain ⟨u0, u1, u2, u3, u4, u5, u6, u8, u9, u10, u11, hx, hx0, hx3, hx5, hx6⟩ := adr_named u ua un uc
 have hva : adrVal u (.slice ua un uc) = .agg #[.string u0, .string u1, .string u2, .string u3, .bool u4, .int .i64 u5, .bool u6, .slice ua un uc, .string u8, .string u9, .bool u10, .bool u11] := by unfold adrVal; rw [hx]
 rw [hva] at HIN ⊢
 obtain ⟨W1, hW1⟩ : ∃ W1, (w.alloc (.cells #[.string u0, .string u1, .string u2, .string u3, .bool u4, .int .i64 u5, .bool u6, .slice ua un uc, .string u8, .string u9, .bool u10, .bool u11] 34)) = W1 := ⟨_, rfl⟩
 have hb1 : Below w.heap.size w W1 := by rw [← hW1]; exact (Below.refl _ w).alloc (Nat.le_refl _) _
 have hs1 : W1.heap.size = w.heap.size + 1 := by rw [← hW1]; simp
 have hA1 : AdrIn W1 w.heap.size u (.slice ua un uc) := by
  unfold AdrIn
  rw [hx, ← hW1]
  exact heap_alloc_new w _
 obtain ⟨W2, hW2⟩ : ∃ W2, (W1.alloc (.cells (orgCells Org.nil).toArray 28)) = W2 := ⟨_, rfl⟩
 have hb2 : Below W1.heap.size W1 W2 := by rw [← hW2]; exact (Below.refl _ W1).alloc (Nat.le_refl _) _
 have hA2 := hA1.kept hb2
 have hR2 : OrgIn W2 W1.heap.size Org.nil := by rw [← hW2]; exact heap_alloc_new W1 _
 rw [hs1] at hR2
 have hB2 := below2 hb1 hb2
 have HG2 := hid (hg.kept hB2)
 have HP2 := hid (hp.kept hB2)
 have hA2' := hA2
 unfold AdrIn at hA2'
 have hfl : ∀ j v, (adrCells u (.slice ua un uc))[j]? = some v → W2.cell? ⟨w.heap.size, j, none⟩ = some v := fun j v h => hA2.cell j v h
 rw [hx] at hfl
 have y0 := hfl 0 _ rfl
 have y1 := hfl 1 _ rfl
 have y2 := hfl 2 _ rfl
 have y3 := hfl 3 _ rfl
 have y4 := hfl 4 _ rfl
 have y5 := hfl 5 _ rfl
 have y6 := hfl 6 _ rfl
 have y7 := hfl 7 _ rfl
 have y8 := hfl 8 _ rfl
 have y9 := hfl 9 _ rfl
 have y10 := hfl 10 _ rfl
 have y11 := hfl 11 _ rfl
 have HA2 := hid hA2
 have HR2 := hid hR2
 have HB2 := hid hB2
 have hW1' : w.alloc (.cells #[.string u0, .string u1, .string u2, .string u3, .bool u4, .int .i64 u5, .bool u6, .slice ua un uc, .string u8, .string u9, .bool u10, .bool u11] 34) = W1 := hW1
 have hW2' : W1.alloc (.cells #[.string ⟨#[]⟩, .string ⟨#[]⟩, .int .i64 0, .bool false] 28) = W2 := hW2
 have HX := hid hx
 have HXA := hid (And.intro hx0 (And.intro hx3 (And.intro hx5 hx6)))
 clear hva hW1 hW2 hb1 hA1 hb2 hA2 hA2' hR2 hB2 hfl hg hx hl hf hp hx0 hx3 hx5 hx6
 go_enter Tryz.func71, Tryz.ntmps71
 go_wp2_with fail
 refine (HIN.out _ HG2.out HP2.out).mono ?_
 rintro e w3 ⟨qv, rfl, hqs, hb3⟩
 have hh0 : W2.heap.size = w.heap.size + 2 := by
  rw [← hW2']; simp [hs1]
 obtain ⟨qa, qn, qc, rfl⟩ := hqs
 obtain ⟨q0, q1, q2, q3, q4, q5, q6, q8, q9, q10, q11, hq, hq0, hq3, hq5, hq6⟩ := adr_named (innV u) qa qn qc
 have hqa : adrVal (innV u) (.slice qa qn qc) = .agg #[.string q0, .string q1, .string q2, .string q3, .bool q4, .int .i64 q5, .bool q6, .slice qa qn qc, .string q8, .string q9, .bool q10, .bool q11] := by unfold adrVal; rw [hq]
 rw [hqa]
 obtain ⟨W5, hW5⟩ : ∃ W5, (w3.alloc (.cells #[.string q0, .string q1, .string q2, .string q3, .bool q4, .int .i64 q5, .bool q6, .slice qa qn qc, .string q8, .string q9, .bool q10, .bool q11] 34)) = W5 := ⟨_, rfl⟩
 have hb5 : Below w3.heap.size w3 W5 := by rw [← hW5]; exact (Below.refl _ w3).alloc (Nat.le_refl _) _
 have hq' : AdrIn W5 w3.heap.size (innV u) (.slice qa qn qc) := by
  unfold AdrIn
  rw [hq, ← hW5]
  exact heap_alloc_new w3 _
 have HA5 := hid ((HA2.out.kept hb3).kept hb5)
 have HR5 := hid ((HR2.out.kept hb3).kept hb5)
 have HB5 := hid (below2 (below2 HB2.out hb3) hb5)
 have hfl : ∀ j v, (adrCells (innV u) (.slice qa qn qc))[j]? = some v → W5.cell? ⟨w3.heap.size, j, none⟩ = some v := fun j v h => hq'.cell j v h
 rw [hq] at hfl
 have q_y0 := hfl 0 _ rfl
 have q_y1 := hfl 1 _ rfl
 have q_y2 := hfl 2 _ rfl
 have q_y3 := hfl 3 _ rfl
 have q_y4 := hfl 4 _ rfl
 have q_y5 := hfl 5 _ rfl
 have q_y6 := hfl 6 _ rfl
 have q_y7 := hfl 7 _ rfl
 have q_y8 := hfl 8 _ rfl
 have q_y9 := hfl 9 _ rfl
 have q_y10 := hfl 10 _ rfl
 have q_y11 := hfl 11 _ rfl
 have HQ := hid hq
 have HQA := hid (And.intro hq0 (And.intro hq3 (And.intro hq5 hq6)))
 clear hfl hq' hb5 hb3 hqa hq y0 y1 y2 y3 y4 y5 y6 y7 y8 y9 y10 y11
 by_cases hweb : webV (innV u).scheme = true
 ·have HAV := hid (orgA_in hweb)
  obtain ⟨W6, hW6⟩ : ∃ W6, W6 = W5.setCells w.heap.size 0 [.string q0, .string q1, .string q2, .string q3, .bool q4, .int .i64 q5, .bool q6, .slice qa qn qc, .string q8, .string q9, .bool q10, .bool q11] := ⟨_, rfl⟩
  have HA6 := hid (show AdrIn W6 w.heap.size (innV u) (.slice qa qn qc) by
   have := HA5.out.store (v := innV u) (qv := .slice qa qn qc)
   rw [HQ.out] at this
   rw [hW6]; exact this)
  have HR6 := hid (show OrgIn W6 (w.heap.size + 1) Org.nil by rw [hW6]; exact OrgIn.fars (by omega) _ _ _ HR5.out)
  have HB6 := hid (show Below w.heap.size w W6 by rw [hW6]; exact below_setCells (Nat.le_refl _) _ _ _ HB5.out)
  have HT := hid (show W5.there w.heap.size 0 12 from HA5.out.there)
  have HW6 := hid hW6
  have hone : (#[.string q0, .string q1, .string q2, .string q3, .bool q4, .int .i64 q5, .bool q6, .slice qa qn qc, .string q8, .string q9, .bool q10, .bool q11] : Array Value).all (·.oneCell') = true := by
   have := all_oneCell_toArray (adrCells_one (innV u) (.slice qa qn qc) ⟨_, _, _, rfl⟩)
   rw [HQ.out] at this
   exact this
  have hws : (q0.toList == [104, 116, 116, 112]) = true ∨ ((q0.toList == [104, 116, 116, 112]) = false ∧ (q0.toList == [104, 116, 116, 112, 115]) = true) := by
   unfold webV at hweb
   rw [Bool.or_eq_true] at hweb
   by_cases h : q0.data.toList = [104, 116, 116, 112]
   ·left; exact beq_yes q0 _ h
   ·right
    refine ⟨beq_no q0 _ h, beq_yes q0 _ ?_⟩
    rw [hq0] at h ⊢
    rcases hweb with h2 | h2
    ·exact absurd (beq_iff_eq.1 h2) h
    ·exact (beq_iff_eq.1 h2)
  clear hW6 hweb hq0 hq3 hq5 hq6
  rcases hws with e0 | ⟨e0, e1⟩
  all_goals
   have hfl : ∀ j y, (adrCells (innV u) (.slice qa qn qc))[j]? = some y → W6.cell? ⟨w.heap.size, j, none⟩ = some y := fun j y h => HA6.out.cell j y h
   rw [HQ.out] at hfl
   have c0 := hfl 0 _ rfl
   have c3 := hfl 3 _ rfl
   have c5 := hfl 5 _ rfl
   clear hfl
   have ry0 := HR6.out.cell 0 _ rfl
   have rz0 := HR6.out.frozen 0
   have ry1 := HR6.out.cell 1 _ rfl
   have rz1 := HR6.out.frozen 1
   have ry2 := HR6.out.cell 2 _ rfl
   have rz2 := HR6.out.frozen 2
   have ry3 := HR6.out.cell 3 _ rfl
   have rz3 := HR6.out.frozen 3
   have HSp := hid (fun w => special_any q0 w)
   have HOw := hid (fun w => own_any q0 w)
   obtain ⟨sp, hsp⟩ : ∃ b, specV q0.data.toList = b := ⟨_, rfl⟩
   obtain ⟨ow, how⟩ : ∃ b, ownV q0.data.toList = b := ⟨_, rfl⟩
   rw [hsp] at HSp
   rw [how] at HOw
   have HSP := hid hsp
   have HOW := hid how
   clear hsp how
   cases sp with
   | false =>
    go_wp2_with (first | (refine wpList_store_mid rfl 34 (.tmp 1) (.tmp 15) rfl w.heap.size 0 #[.string q0, .string q1, .string q2, .string q3, .bool q4, .int .i64 q5, .bool q6, .slice qa qn qc, .string q8, .string q9, .bool q10, .bool q11] rfl rfl HT.out (sizeUa (innV u) (.slice qa qn qc)) hone ?_; refine wpList_worldO HW6.out ?_) | (go_at_call 124; refine (HSp.out _).mono ?_; rintro e wz ⟨rfl, hwz⟩; rw [← hwz]; clear hwz) | (go_at_call 125; refine (HOw.out _).mono ?_; rintro e wz ⟨rfl, hwz⟩; rw [← hwz]; clear hwz))
    have HV := hid (show orgV u = Org.none from orgV_no (by rw [HAV.out, ← HQA.out.1]; exact HSP.out))
    have hrg := range_row (HR6.out.store (p := Org.none))
    have hbl := below_setCells (B := w.heap.size) (b := w.heap.size + 1) (Nat.le_succ _) (orgCells Org.none) 0 _ HB6.out
    rw [HV.out]
    refine bodyPost_ret (results_o1 rfl _ _ (w.heap.size + 1) Org.none rfl ?_) rfl ⟨?_, ?_⟩
    ·exact hrg
    ·rfl
    ·exact hbl
   | true =>
    have HV0 := hid (orgV_yes (u := u) (by rw [HAV.out, ← HQA.out.1]; exact HSP.out))
    rw [HAV.out] at HV0
    have hbn : Below W6.heap.size W6 (W6.alloc (.cells #[.string q0, .string q3, .int .i64 q5, .bool false] 28)) := (Below.refl _ _).alloc (Nat.le_refl _) _
    have HRn := hid (HR6.out.kept hbn)
    have HBn := hid (below2 HB6.out hbn)
    have ny0 := HRn.out.cell 0 _ rfl
    have nz0 := HRn.out.frozen 0
    have ny1 := HRn.out.cell 1 _ rfl
    have nz1 := HRn.out.frozen 1
    have ny2 := HRn.out.cell 2 _ rfl
    have nz2 := HRn.out.frozen 2
    have ny3 := HRn.out.cell 3 _ rfl
    have nz3 := HRn.out.frozen 3
    have HLt := hid (HR6.out.lt)
    clear hbn
    by_cases hpo : q5 = -1
    ·subst hpo
     have HV := hid (show orgV u = ⟨(innV u).scheme, (innV u).host, ow, false⟩ by rw [HV0.out]; unfold hasP; rw [if_pos (show (innV u).port = -1 from HQA.out.2.2.1.symm), ← HQA.out.1, HOW.out])
     have hbo : Below W6.heap.size W6 (W6.alloc (.cells #[.string q0, .string q3, .int .i64 ow, .bool false] 28)) := (Below.refl _ _).alloc (Nat.le_refl _) _
     have HR8 := hid (HR6.out.kept hbo)
     have HB8 := hid (below2 HB6.out hbo)
     have k0 := (((Below.refl _ W6).alloc (Nat.le_refl _) (.cells #[.string q0, .string q3, .int .i64 (-1), .bool false] 28)).cell (World.block_lt_of_cell? W6 _ c0)).trans c0
     clear hbo ny0 nz0 ny1 nz1 ny2 nz2 ny3 nz3
     have ny0 := HR8.out.cell 0 _ rfl
     have nz0 := HR8.out.frozen 0
     have ny1 := HR8.out.cell 1 _ rfl
     have nz1 := HR8.out.frozen 1
     have ny2 := HR8.out.cell 2 _ rfl
     have nz2 := HR8.out.frozen 2
     have ny3 := HR8.out.cell 3 _ rfl
     have nz3 := HR8.out.frozen 3
     go_wp2_with (first | (refine wpList_store_mid rfl 34 (.tmp 1) (.tmp 15) rfl w.heap.size 0 #[.string q0, .string q1, .string q2, .string q3, .bool q4, .int .i64 (-1), .bool q6, .slice qa qn qc, .string q8, .string q9, .bool q10, .bool q11] rfl rfl HT.out (sizeUa (innV u) (.slice qa qn qc)) hone ?_; refine wpList_worldO HW6.out ?_) | (go_at_call 124; refine (HSp.out _).mono ?_; rintro e wz ⟨rfl, hwz⟩; rw [← hwz]; clear hwz) | (go_at_call 125; refine (HOw.out _).mono ?_; rintro e wz ⟨rfl, hwz⟩; rw [← hwz]; clear hwz))
     have hrg := range_row (HR8.out.store (p := ⟨(innV u).scheme, (innV u).host, ow, false⟩))
     have hbl := below_setCells (B := w.heap.size) (b := w.heap.size + 1) (Nat.le_succ _) (orgCells ⟨(innV u).scheme, (innV u).host, ow, false⟩) 0 _ HB8.out
     have HC := hid (show orgCells ⟨(innV u).scheme, (innV u).host, ow, false⟩ = [.string q0, .string q3, .int .i64 ow, .bool false] by unfold orgCells; rw [← HQA.out.1, ← HQA.out.2.1])
     rw [HV.out]
     refine bodyPost_ret (results_o1 rfl _ _ (w.heap.size + 1) ⟨(innV u).scheme, (innV u).host, ow, false⟩ rfl ?_) rfl ⟨?_, ?_⟩
     ·rw [HC.out] at hrg ⊢; exact hrg
     ·rfl
     ·rw [HC.out] at hbl; exact hbl
    ·have hpb : (q5 == -1) = false := beq_eq_false_iff_ne.2 hpo
     have HV := hid (show orgV u = ⟨(innV u).scheme, (innV u).host, q5, false⟩ by rw [HV0.out]; unfold hasP; rw [if_neg (show ¬ (innV u).port = -1 from fun e => hpo (HQA.out.2.2.1.trans e)), HQA.out.2.2.1])
     clear hpo
     go_wp2_with (first | (refine wpList_store_mid rfl 34 (.tmp 1) (.tmp 15) rfl w.heap.size 0 #[.string q0, .string q1, .string q2, .string q3, .bool q4, .int .i64 q5, .bool q6, .slice qa qn qc, .string q8, .string q9, .bool q10, .bool q11] rfl rfl HT.out (sizeUa (innV u) (.slice qa qn qc)) hone ?_; refine wpList_worldO HW6.out ?_) | (go_at_call 124; refine (HSp.out _).mono ?_; rintro e wz ⟨rfl, hwz⟩; rw [← hwz]; clear hwz) | (go_at_call 125; refine (HOw.out _).mono ?_; rintro e wz ⟨rfl, hwz⟩; rw [← hwz]; clear hwz))
     have hrg := range_row (HRn.out.store (p := ⟨(innV u).scheme, (innV u).host, q5, false⟩))
     have hbl := below_setCells (B := w.heap.size) (b := w.heap.size + 1) (Nat.le_succ _) (orgCells ⟨(innV u).scheme, (innV u).host, q5, false⟩) 0 _ HBn.out
     have HC := hid (show orgCells ⟨(innV u).scheme, (innV u).host, q5, false⟩ = [.string q0, .string q3, .int .i64 q5, .bool false] by unfold orgCells; rw [← HQA.out.1, ← HQA.out.2.1])
     rw [HV.out]
     refine bodyPost_ret (results_o1 rfl _ _ (w.heap.size + 1) ⟨(innV u).scheme, (innV u).host, q5, false⟩ rfl ?_) rfl ⟨?_, ?_⟩
     ·rw [HC.out] at hrg ⊢; exact hrg
     ·rfl
     ·rw [HC.out] at hbl; exact hbl
 ·have hweb' : webV (innV u).scheme = false := by simpa using hweb
  have HAV := hid (orgA_out hweb')
  have e0 : (q0.toList == [104, 116, 116, 112]) = false := beq_no q0 _ (fun h => by
   rw [hq0] at h
   unfold webV at hweb'
   rw [show (innV u).scheme = sHttp from h] at hweb'
   revert hweb'; decide)
  have e1 : (q0.toList == [104, 116, 116, 112, 115]) = false := beq_no q0 _ (fun h => by
   rw [hq0] at h
   unfold webV at hweb'
   rw [show (innV u).scheme = sHttps from h] at hweb'
   revert hweb'; decide)
  clear hweb hweb' hq0 hq3 hq5 hq6
  have hfl : ∀ j y, (adrCells u (.slice ua un uc))[j]? = some y → W5.cell? ⟨w.heap.size, j, none⟩ = some y := fun j y h => HA5.out.cell j y h
  rw [HX.out] at hfl
  have c0 := hfl 0 _ rfl
  have c3 := hfl 3 _ rfl
  have c5 := hfl 5 _ rfl
  clear hfl
  have ry0 := HR5.out.cell 0 _ rfl
  have rz0 := HR5.out.frozen 0
  have ry1 := HR5.out.cell 1 _ rfl
  have rz1 := HR5.out.frozen 1
  have ry2 := HR5.out.cell 2 _ rfl
  have rz2 := HR5.out.frozen 2
  have ry3 := HR5.out.cell 3 _ rfl
  have rz3 := HR5.out.frozen 3
  have HSp := hid (fun w => special_any u0 w)
  have HOw := hid (fun w => own_any u0 w)
  obtain ⟨sp, hsp⟩ : ∃ b, specV u0.data.toList = b := ⟨_, rfl⟩
  obtain ⟨ow, how⟩ : ∃ b, ownV u0.data.toList = b := ⟨_, rfl⟩
  rw [hsp] at HSp
  rw [how] at HOw
  have HSP := hid hsp
  have HOW := hid how
  clear hsp how
  cases sp with
  | false =>
   go_wp2_with (first | (go_at_call 124; refine (HSp.out _).mono ?_; rintro e wz ⟨rfl, hwz⟩; rw [← hwz]; clear hwz) | (go_at_call 125; refine (HOw.out _).mono ?_; rintro e wz ⟨rfl, hwz⟩; rw [← hwz]; clear hwz))
   have HV := hid (show orgV u = Org.none from orgV_no (by rw [HAV.out, ← HXA.out.1]; exact HSP.out))
   have hrg := range_row (HR5.out.store (p := Org.none))
   have hbl := below_setCells (B := w.heap.size) (b := w.heap.size + 1) (Nat.le_succ _) (orgCells Org.none) 0 _ HB5.out
   rw [HV.out]
   refine bodyPost_ret (results_o1 rfl _ _ (w.heap.size + 1) Org.none rfl ?_) rfl ⟨?_, ?_⟩
   ·exact hrg
   ·rfl
   ·exact hbl
  | true =>
   have HV0 := hid (orgV_yes (u := u) (by rw [HAV.out, ← HXA.out.1]; exact HSP.out))
   rw [HAV.out] at HV0
   have hbn : Below W5.heap.size W5 (W5.alloc (.cells #[.string u0, .string u3, .int .i64 u5, .bool false] 28)) := (Below.refl _ _).alloc (Nat.le_refl _) _
   have HRn := hid (HR5.out.kept hbn)
   have HBn := hid (below2 HB5.out hbn)
   have ny0 := HRn.out.cell 0 _ rfl
   have nz0 := HRn.out.frozen 0
   have ny1 := HRn.out.cell 1 _ rfl
   have nz1 := HRn.out.frozen 1
   have ny2 := HRn.out.cell 2 _ rfl
   have nz2 := HRn.out.frozen 2
   have ny3 := HRn.out.cell 3 _ rfl
   have nz3 := HRn.out.frozen 3
   have HLt := hid (HR5.out.lt)
   clear hbn
   by_cases hpo : u5 = -1
   ·subst hpo
    have HV := hid (show orgV u = ⟨u.scheme, u.host, ow, false⟩ by rw [HV0.out]; unfold hasP; rw [if_pos (show u.port = -1 from HXA.out.2.2.1.symm), ← HXA.out.1, HOW.out])
    have hbo : Below W5.heap.size W5 (W5.alloc (.cells #[.string u0, .string u3, .int .i64 ow, .bool false] 28)) := (Below.refl _ _).alloc (Nat.le_refl _) _
    have HR8 := hid (HR5.out.kept hbo)
    have HB8 := hid (below2 HB5.out hbo)
    have k0 := (((Below.refl _ W5).alloc (Nat.le_refl _) (.cells #[.string u0, .string u3, .int .i64 (-1), .bool false] 28)).cell (World.block_lt_of_cell? W5 _ c0)).trans c0
    clear hbo ny0 nz0 ny1 nz1 ny2 nz2 ny3 nz3
    have ny0 := HR8.out.cell 0 _ rfl
    have nz0 := HR8.out.frozen 0
    have ny1 := HR8.out.cell 1 _ rfl
    have nz1 := HR8.out.frozen 1
    have ny2 := HR8.out.cell 2 _ rfl
    have nz2 := HR8.out.frozen 2
    have ny3 := HR8.out.cell 3 _ rfl
    have nz3 := HR8.out.frozen 3
    go_wp2_with (first | (go_at_call 124; refine (HSp.out _).mono ?_; rintro e wz ⟨rfl, hwz⟩; rw [← hwz]; clear hwz) | (go_at_call 125; refine (HOw.out _).mono ?_; rintro e wz ⟨rfl, hwz⟩; rw [← hwz]; clear hwz))
    have hrg := range_row (HR8.out.store (p := ⟨u.scheme, u.host, ow, false⟩))
    have hbl := below_setCells (B := w.heap.size) (b := w.heap.size + 1) (Nat.le_succ _) (orgCells ⟨u.scheme, u.host, ow, false⟩) 0 _ HB8.out
    have HC := hid (show orgCells ⟨u.scheme, u.host, ow, false⟩ = [.string u0, .string u3, .int .i64 ow, .bool false] by unfold orgCells; rw [← HXA.out.1, ← HXA.out.2.1])
    rw [HV.out]
    refine bodyPost_ret (results_o1 rfl _ _ (w.heap.size + 1) ⟨u.scheme, u.host, ow, false⟩ rfl ?_) rfl ⟨?_, ?_⟩
    ·rw [HC.out] at hrg ⊢; exact hrg
    ·rfl
    ·rw [HC.out] at hbl; exact hbl
   ·have hpb : (u5 == -1) = false := beq_eq_false_iff_ne.2 hpo
    have HV := hid (show orgV u = ⟨u.scheme, u.host, u5, false⟩ by rw [HV0.out]; unfold hasP; rw [if_neg (show ¬ u.port = -1 from fun e => hpo (HXA.out.2.2.1.trans e)), HXA.out.2.2.1])
    clear hpo
    go_wp2_with (first | (go_at_call 124; refine (HSp.out _).mono ?_; rintro e wz ⟨rfl, hwz⟩; rw [← hwz]; clear hwz) | (go_at_call 125; refine (HOw.out _).mono ?_; rintro e wz ⟨rfl, hwz⟩; rw [← hwz]; clear hwz))
    have hrg := range_row (HRn.out.store (p := ⟨u.scheme, u.host, u5, false⟩))
    have hbl := below_setCells (B := w.heap.size) (b := w.heap.size + 1) (Nat.le_succ _) (orgCells ⟨u.scheme, u.host, u5, false⟩) 0 _ HBn.out
    have HC := hid (show orgCells ⟨u.scheme, u.host, u5, false⟩ = [.string u0, .string u3, .int .i64 u5, .bool false] by unfold orgCells; rw [← HXA.out.1, ← HXA.out.2.1])
    rw [HV.out]
    refine bodyPost_ret (results_o1 rfl _ _ (w.heap.size + 1) ⟨u.scheme, u.host, u5, false⟩ rfl ?_) rfl ⟨?_, ?_⟩
    ·rw [HC.out] at hrg ⊢; exact hrg
    ·rfl
    ·rw [HC.out] at hbl; exact hbl

end Go.Proofs.YtgoefeaopegdoaaGreatDoor

namespace Go.Proofs.YtgoefeaopegdoaaGreatDoor
open Go.RowKit

set_option maxHeartbeats 2000000 in
set_option maxRecDepth 100000 in
theorem same4_any (a b : Org) (w : World) :
  Calls Tryz.prog 36 #[orgVal a, orgVal b] w fun e w' => e = .returned (.bool (sameO a b)) ∧ Below w.heap.size w w' := by
 obtain ⟨sa, ah, ap, ao⟩ := a
 obtain ⟨bs, bh, bp, bo⟩ := b
 obtain ⟨AS, rfl⟩ : ∃ X : ByteArray, sa = X.data.toList := ⟨⟨sa.toArray⟩, rfl⟩
 obtain ⟨AH, rfl⟩ : ∃ X : ByteArray, ah = X.data.toList := ⟨⟨ah.toArray⟩, rfl⟩
 obtain ⟨BS, rfl⟩ : ∃ X : ByteArray, bs = X.data.toList := ⟨⟨bs.toArray⟩, rfl⟩
 obtain ⟨BH, rfl⟩ : ∃ X : ByteArray, bh = X.data.toList := ⟨⟨bh.toArray⟩, rfl⟩
 have hv : ∀ (s h : ByteArray) (p : Int) (o : Bool), orgVal ⟨s.data.toList, h.data.toList, p, o⟩ = .agg #[.string s, .string h, .int .i64 p, .bool o] := fun _ _ _ _ => rfl
 rw [hv, hv]
 have HBx := hid (show Below w.heap.size w ((w.alloc (.cells #[.string AS, .string AH, .int .i64 ap, .bool ao] 28)).alloc (.cells #[.string BS, .string BH, .int .i64 bp, .bool bo] 28)) from ((Below.refl _ w).alloc (Nat.le_refl _) _).alloc (by simp) _)
 clear hv
 cases ao with
 | true =>
  go_enter Tryz.func36, Tryz.ntmps36
  go_wp2
  go_ret
  exact ⟨rfl, HBx.out⟩
 | false =>
  clear HBx
  go_enter Tryz.func36, Tryz.ntmps36
  go_wp2
  all_goals
   go_ret
   refine ⟨ret_bool ?_, ((Below.refl _ w).alloc (Nat.le_refl _) _).alloc (by simp) _⟩
   simp only [Lib.toList_data] at *
   simp_all [sameO]

def UrlAt (w : World) (u : Adr) (pv : Value) : Prop := PathAt w pv u.path ∧ u.path.length ≤ 1000000 ∧ u.path.flatten.length ≤ 100000

theorem UrlAt.kept {w w' : World} {u : Adr} {pv : Value} (h : UrlAt w u pv) (hb : Below w.heap.size w w') : UrlAt w' u pv := ⟨h.1.kept hb, h.2⟩

end Go.Proofs.YtgoefeaopegdoaaGreatDoor

namespace Go.Proofs.YtgoefeaopegdoaaGreatDoor
open Go.RowKit

def Rdr11 (w : World) (v : Value) (q : List UInt8 → Bool) : Prop :=
 ∃ (f : Nat) (lb : Array Value), v = .func (.func f) #[] lb ∧ (∀ args w, (callFunc f args).run Tryz.prog w = .ok (.enter f args) w) ∧ ∀ (X : World) (s : ByteArray), Below w.heap.size w X → s.size ≤ 4000000000 → Calls Tryz.prog f (#[.string s] ++ lb) X fun e w' => e = .returned (.bool (q s.data.toList)) ∧ Below X.heap.size X w'

theorem Rdr11.kept {w w' : World} {v : Value} {q : List UInt8 → Bool} (h : Rdr11 w v q) (hb : Below w.heap.size w w') : Rdr11 w' v q := by
 obtain ⟨f, lb, h1, h2, h3⟩ := h
 exact ⟨f, lb, h1, h2, fun X s hX hs => h3 X s (below2 hb hX) hs⟩

theorem keptC {w w' : World} {a : Addr} {v : Value} (h : w.cell? a = some v) (hb : Below w.heap.size w w') : w'.cell? a = some v := (hb.cell (World.block_lt_of_cell? w _ h)).trans h

end Go.Proofs.YtgoefeaopegdoaaGreatDoor

namespace Go.Proofs.YtgoefeaopegdoaaGreatDoor
def blC (c : UInt8) : Bool := blankI c.toNat

theorem all_reverse (A : List UInt8) (h : A.all blC = true) : A.reverse.all blC = true := by simpa using h

end Go.Proofs.YtgoefeaopegdoaaGreatDoor

namespace Go.Proofs.YtgoefeaopegdoaaGreatDoor
structure Hd where
 name : List UInt8
 value : List UInt8
deriving DecidableEq

def isN (n : List UInt8) (h : Hd) : Bool := low h.name == low n

def selV (L : List Hd) (n : List UInt8) : List (List UInt8) := (L.filter (isN n)).map (·.value)

def getT (L : List Hd) (n : List UInt8) : List UInt8 := Lib.join (selV L n) [44, 32]

def getB (L : List Hd) (n : List UInt8) : Bool := !(selV L n).isEmpty

theorem selV_snoc (L : List Hd) (h : Hd) (n : List UInt8) : selV (L ++ [h]) n = selV L n ++ (if isN n h then [h.value] else []) := by
 unfold selV
 rw [List.filter_append, List.map_append]
 by_cases hh : isN n h = true <;> simp [hh]

def bndV (l : List UInt8) : Int := if l = [] then -1 else intV l

def bndOk (l : List UInt8) : Bool := l == [] || intOk l

end Go.Proofs.YtgoefeaopegdoaaGreatDoor

namespace Go.Proofs.YtgoefeaopegdoaaGreatDoor
def Dec (n : Nat) (T : List UInt8) : Prop := T ≠ [] ∧ T.all digP = true ∧ numI T = (n : Int) ∧ T.length ≤ 40

def decC (d : Nat) : UInt8 := UInt8.ofNat (48 + d)

theorem decC_val (d : Nat) (h : d < 10) : ((decC d).toNat : Int) - 48 = (d : Int) ∧ digP (decC d) = true := by
 rcases (show d = 0 ∨ d = 1 ∨ d = 2 ∨ d = 3 ∨ d = 4 ∨ d = 5 ∨ d = 6 ∨ d = 7 ∨ d = 8 ∨ d = 9 from by omega) with
  rfl | rfl | rfl | rfl | rfl | rfl | rfl | rfl | rfl | rfl <;> decide

theorem Dec.no {n : Nat} {T : List UInt8} (h : Dec n T) (c : UInt8) (hc : digP c = false) : c ∉ T := by
 intro hm
 have := List.all_eq_true.1 h.2.1 c hm
 rw [hc] at this
 cases this

theorem Dec.int {n : Nat} {T : List UInt8} (h : Dec n T) : bndV T = n ∧ bndOk T = true := by
 have e : (T.all digP && !T.isEmpty) = true := by
  rw [h.2.1]
  have := h.1
  cases T with
  | nil => exact absurd rfl this
  | cons a b => rfl
 constructor
 ·unfold bndV intV
  rw [if_neg h.1, if_pos e, h.2.2.1]
 ·unfold bndOk intOk
  rw [e]; simp

end Go.Proofs.YtgoefeaopegdoaaGreatDoor

namespace Go.Proofs.YtgoefeaopegdoaaGreatDoor
open Go.RowKit

def cellsT (L : List (List UInt8)) : List Value := L.map fun x => Value.string ⟨x.toArray⟩

theorem cellsT_app (a b : List (List UInt8)) : cellsT (a ++ b) = cellsT a ++ cellsT b := by simp [cellsT]

theorem cellsT_one (X : ByteArray) : cellsT [X.data.toList] = [.string X] := by
 show [Value.string ⟨X.data.toList.toArray⟩] = _
 rw [Lib.mk_data]

def TxL (w : World) (b off : Nat) (L : List (List UInt8)) : Prop := ∀ j (h : j < L.length), w.cell? ⟨b, off + j, none⟩ = some (.string ⟨L[j].toArray⟩)

def TxAt (w : World) (v : Value) (L : List (List UInt8)) : Prop :=
 ∃ a cap, v = .slice a L.length cap ∧ L.length ≤ cap ∧ cap ≤ maxLen ∧ ∀ j (hj : j < L.length), ∃ b off, a = some ⟨b, off, none⟩ ∧ w.cell? ⟨b, off + j, none⟩ = some (.string ⟨L[j].toArray⟩)

theorem TxAt.view {w : World} {v : Value} {L : List (List UInt8)} (h : TxAt w v L) : ∃ a cap, v = .slice a L.length cap ∧ L.length ≤ cap ∧ cap ≤ maxLen ∧ ∀ j (hj : j < L.length), ∃ b off, a = some ⟨b, off, none⟩ ∧ w.cell? ⟨b, off + j, none⟩ = some (.string ⟨L[j].toArray⟩) := h

theorem tx_of {w : World} {b off cap : Nat} {L : List (List UInt8)} (h1 : L.length ≤ cap) (h2 : cap ≤ maxLen) (h : TxL w b off L) : TxAt w (.slice (some ⟨b, off, none⟩) L.length cap) L :=
 ⟨_, cap, rfl, h1, h2, fun j hj => ⟨b, off, rfl, h j hj⟩⟩

theorem tx_nil (w : World) : TxAt w (.slice none 0 0) [] := ⟨none, 0, rfl, Nat.le_refl _, by decide, fun j hj => by simp at hj⟩

def HdS (w : World) (b off : Nat) (L : List Hd) : Prop :=
 ∀ j (h : j < L.length), w.cell? ⟨b, off + j * 2, none⟩ = some (.string ⟨L[j].name.toArray⟩) ∧ w.cell? ⟨b, off + j * 2 + 1, none⟩ = some (.string ⟨L[j].value.toArray⟩)

def HdAt (w : World) (v : Value) (L : List Hd) : Prop :=
 ∃ a cap, v = .slice a L.length cap ∧ L.length ≤ cap ∧ cap ≤ maxLen ∧ ∀ j (hj : j < L.length), ∃ b off, a = some ⟨b, off, none⟩ ∧ w.cell? ⟨b, off + j * 2, none⟩ = some (.string ⟨L[j].name.toArray⟩) ∧ w.cell? ⟨b, off + j * 2 + 1, none⟩ = some (.string ⟨L[j].value.toArray⟩)

theorem HdAt.view {w : World} {v : Value} {L : List Hd} (h : HdAt w v L) : ∃ a cap, v = .slice a L.length cap ∧ L.length ≤ cap ∧ cap ≤ maxLen ∧ ∀ j (hj : j < L.length), ∃ b off, a = some ⟨b, off, none⟩ ∧ w.cell? ⟨b, off + j * 2, none⟩ = some (.string ⟨L[j].name.toArray⟩) ∧ w.cell? ⟨b, off + j * 2 + 1, none⟩ = some (.string ⟨L[j].value.toArray⟩) := h

theorem hd_of {w : World} {b off cap : Nat} {L : List Hd} (h1 : L.length ≤ cap) (h2 : cap ≤ maxLen) (h : HdS w b off L) : HdAt w (.slice (some ⟨b, off, none⟩) L.length cap) L :=
 ⟨_, cap, rfl, h1, h2, fun j hj => ⟨b, off, rfl, h j hj⟩⟩

theorem HdS.kept {w w' : World} {b off : Nat} {L : List Hd} (h : HdS w b off L) (hb : Below w.heap.size w w') : HdS w' b off L := fun j hj => by
 have h1 := h j hj
 exact ⟨(hb.cell (World.block_lt_of_cell? w _ h1.1)).trans h1.1, (hb.cell (World.block_lt_of_cell? w _ h1.2)).trans h1.2⟩

theorem TxL.kept {w w' : World} {b off : Nat} {L : List (List UInt8)} (h : TxL w b off L) (hb : Below w.heap.size w w') : TxL w' b off L := fun j hj => by
 have h1 := h j hj
 exact (hb.cell (World.block_lt_of_cell? w _ h1)).trans h1

theorem HdAt.kept {w w' : World} {v : Value} {L : List Hd} (h : HdAt w v L) (hb : Below w.heap.size w w') : HdAt w' v L := by
 obtain ⟨a, cap, h1, h2, h3, h4⟩ := h
 refine ⟨a, cap, h1, h2, h3, fun j hj => ?_⟩
 obtain ⟨b, off, e, c1, c2⟩ := h4 j hj
 exact ⟨b, off, e, (hb.cell (World.block_lt_of_cell? w _ c1)).trans c1, (hb.cell (World.block_lt_of_cell? w _ c2)).trans c2⟩

theorem TxAt.kept {w w' : World} {v : Value} {L : List (List UInt8)} (h : TxAt w v L) (hb : Below w.heap.size w w') : TxAt w' v L := by
 obtain ⟨a, cap, h1, h2, h3, h4⟩ := h
 refine ⟨a, cap, h1, h2, h3, fun j hj => ?_⟩
 obtain ⟨b, off, e, c1⟩ := h4 j hj
 exact ⟨b, off, e, (hb.cell (World.block_lt_of_cell? w _ c1)).trans c1⟩

theorem own_txt' {w : World} {B : Nat} {e : TypeId} {v : Value} {L : List (List UInt8)} (h : w.ownsRow B e 1 v L.length (cellsT L)) : TxAt w v L := by
 have h2 := h.2
 rcases h2 with ⟨hv, hn⟩ | ⟨g, cap, cur, rfl, hg, hrow, hnc, hcm, hcs, htake⟩
 ·obtain rfl := List.eq_nil_of_length_eq_zero hn
  rw [hv]; exact tx_nil w
 ·refine tx_of hnc hcm fun j hj => ?_
  rw [Nat.zero_add, h.cellAt j (by omega)]
  simp [cellsT, hj]

theorem own_same {w w' : World} {B : Nat} {e : TypeId} {k : Nat} {v : Value} {n : Nat} {xs : List Value} (h : w.ownsRow B e k v n xs) (hb : Below w.heap.size w w') : w'.ownsRow B e k v n xs := by
 rcases h.2 with h' | ⟨g, cap, cur, hv, hg, hrow, rest⟩
 ·exact ⟨h.1, .inl h'⟩
 ·exact ⟨h.1, .inr ⟨g, cap, cur, hv, hg, (hb.block g (Array.getElem?_eq_some_iff.1 hrow).1).trans hrow, rest⟩⟩

theorem xba {a b : ByteArray} (h : a.data.toList = b.data.toList) : a = b := by
 cases a; cases b; simp at h; simp [h]

theorem xsize (l : List UInt8) : (⟨l.toArray⟩ : ByteArray).size = l.length := by simp [ByteArray.size]

end Go.Proofs.YtgoefeaopegdoaaGreatDoor

namespace Go.Proofs.YtgoefeaopegdoaaGreatDoor
open Go.RowKit

theorem xext {a : ByteArray} {l : List UInt8} (h : a.data.toList = l) : a = ⟨l.toArray⟩ := xba h

end Go.Proofs.YtgoefeaopegdoaaGreatDoor

namespace Go.Proofs.YtgoefeaopegdoaaGreatDoor
open Go.RowKit

theorem infoTx : (Tryz.prog.info? 9).map (fun i => (i.zero, i.size, i.bytes)) = some (some (.string ByteArray.empty), 1, 16) := by kernel_rfl

theorem info3 {i : Option TypeInfo} {z : Value} {a b : Nat} (h : i.map (fun i => (i.zero, i.size, i.bytes)) = some (some z, a, b)) : ∃ j, i = some j ∧ j.zero = some z ∧ j.size = a ∧ j.bytes = b := by
 cases i with
 | none => cases h
 | some j =>
  simp at h
  exact ⟨j, rfl, h.1, h.2.1, h.2.2⟩

end Go.Proofs.YtgoefeaopegdoaaGreatDoor
