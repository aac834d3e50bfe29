/-
  Walks and plain facts that this claim leans on, put together out of 7 texts: Ysi, Yso, Yk, Ym, Yn, Yy, Ysq.
-/
import Derived.Test.YtkhpemjjholneaaGreatDoorProg
import Derived.Test.YtkhpemjjholneaaGreatDoorQa1
import Derived.Test.YtkhpemjjholneaaGreatDoorQa2
import Derived.Test.YtkhpemjjholneaaGreatDoorQa3
import Derived.Test.YtkhpemjjholneaaGreatDoorQa4
import Derived.Test.YtkhpemjjholneaaGreatDoorQa5
import Derived.Test.YtkhpemjjholneaaGreatDoorQa6
import Derived.Test.YtkhpemjjholneaaGreatDoorQa7
import Derived.Test.YtkhpemjjholneaaGreatDoorQa8
import Derived.Test.YtkhpemjjholneaaGreatDoorQa9
import Derived.Test.YtkhpemjjholneaaGreatDoorQa10
import Derived.Test.YtkhpemjjholneaaGreatDoorQa11
import Derived.Test.YtkhpemjjholneaaGreatDoorQa12
import Derived.Test.YtkhpemjjholneaaGreatDoorQa13
import Derived.Test.YtkhpemjjholneaaGreatDoorQa14
import Derived.Test.YtkhpemjjholneaaGreatDoorQa15
import Derived.Test.YtkhpemjjholneaaGreatDoorQa16
import Derived.Test.YtkhpemjjholneaaGreatDoorQa17
import Derived.Test.YtkhpemjjholneaaGreatDoorQa18
import Derived.Test.YtkhpemjjholneaaGreatDoorQa19
import Derived.Test.YtkhpemjjholneaaGreatDoorQa20
import Derived.Test.YtkhpemjjholneaaGreatDoorQa21
import Derived.Test.YtkhpemjjholneaaGreatDoorQa22
import Derived.Test.YtkhpemjjholneaaGreatDoorQa23
import Derived.Test.YtkhpemjjholneaaGreatDoorQa24
import Derived.Test.YtkhpemjjholneaaGreatDoorQa25
import Derived.Test.YtkhpemjjholneaaGreatDoorQa26
import Derived.Test.YtkhpemjjholneaaGreatDoorQa27
import Derived.Test.YtkhpemjjholneaaGreatDoorQa28
import Derived.Test.YtkhpemjjholneaaGreatDoorQa29
import Derived.Test.YtkhpemjjholneaaGreatDoorQa30
import Derived.Test.YtkhpemjjholneaaGreatDoorQa31
import Derived.Test.YtkhpemjjholneaaGreatDoorQn1
import Derived.Test.YtkhpemjjholneaaGreatDoorQn2
import Derived.Test.YtkhpemjjholneaaGreatDoorQn3
import Derived.WalkKit
import Derived.WalkSpells
import Derived.WalkLawsBesides
import Derived.Laws.Runes
import Derived.Laws.RangeAny
import Derived.Lib.DecodeN
import Derived.Lib.OthersKept
import Derived.Deep.LoopGhost
import Derived.RegionTactic
import Derived.Deep.RegionWith
import Derived.Deep.QuietTactic
import Derived.BigQuiet
import Derived.Lib.FrozenHead2
import Derived.Lib.Builder
import Derived.Deep.RegionHeldLaw
import Derived.Laws.CopyOwn
import Derived.Laws.ResultCell
import Derived.Deep.MidRow
import Derived.Laws.AppendOwnNone
import Derived.Scope
import Derived.ScopeJumps
import Derived.WalkMore
import Derived.Lib.AppendIntMem
import Derived.Deep.WholeRow
import Derived.Lib.AppendStr
import Derived.LoopN
import Derived.Maps.OwnSet
import Derived.Maps.OwnOps
import Derived.Maps.AppendAt
import Derived.StringKeys
import Derived.Lib.LastIndexByte
import Derived.Lib.Replace
import Derived.Lib.Bytealg
import Derived.Lib.TrimByte
import Derived.Lib.BufferRead
import Derived.Lib.RuneBytes
import Derived.Laws.BitsAllLaws
import Derived.Deep.RegionHeld
import Derived.Lib.IndexMore
import Derived.Lib.Join
import Derived.Laws.AppendOwn
import Derived.OwnWalk
import Derived.Deep.RegionLaw
import Derived.Lib.IndexAny
import Derived.Lib.ItoaNum
import Derived.Laws.OwnMore
import Derived.Below
import Derived.WalkSmall
import Derived.Lib.FieldsP
import Derived.Lib.SmallJoins
import Derived.Lib.UnsafeStr
import Derived.BigRegion
import Derived.Deep.Cut
import Derived.Shelf.Strings.Builder1
import Derived.Shelf.Strings.Builder2
import Derived.Shelf.Strings.OnBuilder
import Derived.Shelf.Strings.Trim
import Derived.Shelf.Small.Utf8
import Derived.Shelf.Small.Bits
import Derived.Shelf.Small.Strs
import Derived.Shelf.Small.Wraps
import Derived.Shelf.Strings.BuilderF
import Derived.Shelf.Strings.BuilderK
import Derived.Shelf.Strings.BuilderRune
import Derived.Shelf.Utf8.AppendRune
import Derived.Shelf.Utf8.AppendRunePlain
import Derived.Shelf.Strings.Builder2Cap
import Derived.Shelf.Strconv.Itoa0
import Derived.Shelf.Strconv.Itoa1
import Derived.Shelf.LaysM
import Derived.Shelf.Strconv.Itoa2
import Derived.Shelf.Strconv.Itoa3
import Derived.Shelf.Strings.Search1
import Derived.Shelf.Strings.Search2
import Derived.Shelf.Strings.Search3
import Derived.Shelf.Strings.Cut
import Derived.Shelf.Strings.Count
import Derived.Shelf.Strings.Shaped
import Derived.Shelf.Sort.Plain
import Derived.Shelf.Strings.LastIndex
import Derived.Shelf.Strings.Prefix
import Derived.Shelf.Strings.Split
import Derived.Shelf.Strings.Replace
import Derived.Shelf.Strings.Runes
import Derived.Shelf.Strings.IndexAny
import Derived.Shelf.Strings.AsciiSet
import Derived.Shelf.Strings.IndexAnyAll
import Derived.Shelf.Unicode.DecodeSlow
import Derived.Shelf.Unicode.DecodeAny
import Derived.Shelf.Unicode.DecodeLast
import Derived.Shelf.Strings.FieldsFuncAny
import Derived.Shelf.Strings.FieldsFuncGrows
import Derived.Shelf.Slices.Equal
import Derived.Ground.Names2Prog
import Derived.Shelf.Slices.Clone
import Derived.Ground.SlgnProg
import Derived.Shelf.SlicesE.Equal
import Derived.Shelf.SlicesE.Clone
import Derived.Laws.EntriesVeiled
import Derived.Laws.IdiomStrings
import Derived.Laws.BytesString
import Derived.Shelf.GgClosure.GivesRunes
import Derived.Shelf.Spec.SearchS
import Derived.Sort.Walk0
import Derived.Shelf.Strings.SlTrimAscii
import Derived.Lib.Strings
import Derived.Lib.BufferMore
import Derived.Lib.SlTrimSet
import Derived.Shelf.Slices.In.SortNone
import Derived.Sort.OwnSorted
set_option linter.unusedSimpArgs false
set_option linter.unusedVariables false

namespace Go.Proofs.YtkhpemjjholneaaGreatDoor
open Go.RowKit

set_option maxHeartbeats 4000000 in
theorem indexI11_any (f : Nat) (lb : Array Value) (eg : ∀ args w, (callFunc f args).run Tryz.prog w = .ok (.enter f args) w) (q : It → Bool) (v : Value) (L : List It) (w : World) (hv : ItAt w v L) (hl : L.length ≤ 1000000001) (hq : ∀ (X : World) (x : It), x ∈ L → Below w.heap.size w X → Calls Tryz.prog f (#[itVal x] ++ lb) X fun e w' => e = .returned (.bool (q x)) ∧ Below X.heap.size X w') :
    Calls Tryz.prog 145 #[v, .func (.func f) #[] lb] w fun e w' => ∃ z : Int, e = .returned (.int .i64 z) ∧ decide (0 ≤ z) = L.any q ∧ Below w.heap.size w w' := by
  obtain ⟨a1, c1, rfl, hc1, hm1, hv1⟩ := hv.view
  have HV := hid hv1
  have HQ := hid hq
  obtain ⟨n, hn⟩ : ∃ n, n = L.length := ⟨_, rfl⟩
  have HN := hid hn
  rw [← hn] at hc1 hl ⊢
  clear hv hv1 hq hn
  go_enter Tryz.func145, Tryz.ntmps145
  go_wp2_with fail
  go_loopw [8] (fun v8 wr => ∃ k : Nat, k ≤ n ∧ v8 = .int .i64 k ∧ Hid (((L.take k).any q) = false ∧ Below w.heap.size w wr)) (fun v8 _ => n - (intOf v8).toNat)
  case atStart => exact ⟨0, Nat.zero_le _, rfl, rfl, Below.refl _ w⟩
  case round =>
    obtain ⟨k, hk, rfl, HR⟩ := hrel
    by_cases hlt : k < n
    · have hkL : k < L.length := by have := HN.out; omega
      obtain ⟨b1, o1, rfl, e1, e2, e3⟩ := HV.out k hkL
      obtain ⟨x, hx⟩ : ∃ x, x = L[k] := ⟨_, rfl⟩
      rw [← hx] at e1 e2 e3
      have HXM := hid (show x ∈ L by rw [hx]; exact List.getElem_mem hkL)
      obtain ⟨b, hbx⟩ : ∃ b, b = x.bits := ⟨_, rfl⟩
      obtain ⟨V, hVx⟩ : ∃ V : ByteArray, V = ⟨x.want.toArray⟩ := ⟨_, rfl⟩
      obtain ⟨O, hOx⟩ : ∃ V : ByteArray, V = ⟨x.opt.toArray⟩ := ⟨_, rfl⟩
      rw [← hbx] at e1
      rw [← hVx] at e2
      rw [← hOx] at e3
      have f1 := keptC e1 HR.out.2
      have f2 := keptC e2 HR.out.2
      have f3 := keptC e3 HR.out.2
      have HCL := hid (show Calls Tryz.prog f (#[.agg #[.int .i64 b, .string V, .string O]] ++ lb) wr fun e w' => e = .returned (.bool (q x)) ∧ Below wr.heap.size wr w' by
        rw [hbx, hVx, hOx]
        exact HQ.out wr x HXM.out HR.out.2)
      have HT := hid (show (L.take (k + 1)).any q = q x by rw [List.take_succ_eq_append_getElem hkL, List.any_append, HR.out.1, ← hx]; simp)
      have HTA := hid (show q x = true → L.any q = true from fun h => List.any_eq_true.2 ⟨x, HXM.out, h⟩)
      obtain ⟨y, hy⟩ : ∃ y, y = q x := ⟨_, rfl⟩
      rw [← hy] at HCL HT HTA
      have hin : (k : Int) < (n : Int) := by omega
      clear e1 e2 e3 hx hbx hVx hOx hkL hy
      go_wp2_with fail
      refine HCL.out.mono ?_
      rintro e w2 ⟨rfl, hb2⟩
      have HB2 := hid (below2 HR.out.2 hb2)
      clear hb2
      cases y with
      | false =>
        go_wp2_with fail
        go_roundw
        case rel =>
          have e4 : ((L.take (k + 1)).any q) = false ∧ Below w.heap.size w w2 := ⟨HT.out, HB2.out⟩
          first
            | exact ⟨k + 1, by omega, by go_num, e4⟩
            | ((repeat apply Exists.intro); refine ⟨?_, rfl⟩; exact ⟨k + 1, by omega, by go_num, e4⟩)
            | ((repeat apply Exists.intro); exact ⟨⟨k + 1, by omega, by go_num, e4⟩, rfl⟩)
        case measure => simp [intOf]; omega
      | true =>
        go_wp2_with fail
        go_ret
        exact ⟨(k : Int), rfl, by rw [HTA.out (by trivial)]; simp, HB2.out⟩
    · obtain rfl : k = n := by omega
      have HA := hid (show L.any q = false by have h := HR.out.1; rwa [List.take_of_length_le (by have := HN.out; omega)] at h)
      have HB := hid HR.out.2
      clear HR hk hlt
      go_wp2_with fail
      go_ret
      exact ⟨-1, rfl, by rw [HA.out]; rfl, HB.out⟩

set_option maxHeartbeats 1000000 in
theorem containsI11_any (f : Nat) (lb : Array Value) (eg : ∀ args w, (callFunc f args).run Tryz.prog w = .ok (.enter f args) w) (q : It → Bool) (v : Value) (L : List It) (w : World) (hv : ItAt w v L) (hl : L.length ≤ 1000000001) (hq : ∀ (X : World) (x : It), x ∈ L → Below w.heap.size w X → Calls Tryz.prog f (#[itVal x] ++ lb) X fun e w' => e = .returned (.bool (q x)) ∧ Below X.heap.size X w') :
    Calls Tryz.prog 92 #[v, .func (.func f) #[] lb] w fun e w' => e = .returned (.bool (L.any q)) ∧ Below w.heap.size w w' := by
  have HI := hid (indexI11_any f lb eg q v L w hv hl hq)
  clear hv hl hq
  go_enter Tryz.func92, Tryz.ntmps92
  go_wp2_with fail
  refine HI.out.mono ?_
  rintro e w2 ⟨z, rfl, hz, hb⟩
  have HZ := hid hz
  have HB := hid hb
  clear hz hb
  go_wp2_with fail
  go_ret
  exact ⟨ret_bool HZ.out, HB.out⟩

theorem parse_len11 (l : List UInt8) : (parse9 l).length ≤ l.length + 1 := by
  have h1 := List.length_filterMap_le itemV (words9 l)
  have h2 := (wds_len l []).1
  unfold parse9
  unfold words9 at h1 ⊢
  omega

theorem parse_want11 (l : List UInt8) : ∀ x ∈ parse9 l, x.want.length ≤ l.length := by
  intro x hx
  obtain ⟨y, hm, hy⟩ := List.mem_filterMap.1 hx
  have h0 := (wds_len l []).2 y hm
  unfold itemV at hy
  split at hy
  · obtain rfl := Option.some.inj hy
    show (wantV9 y).length ≤ _
    have h1 := (part_le9 63 y).1
    have h2 := (part_le9 45 (part9 63 y).1).2
    unfold wantV9
    simp only [List.length_nil, Nat.zero_add] at h0
    omega
  · cases hy

end Go.Proofs.YtkhpemjjholneaaGreatDoor

namespace Go.Proofs.YtkhpemjjholneaaGreatDoor
open Go.RowKit

/-- The text that a nonce is listed by. -/
def nonV (n : List UInt8) : List UInt8 := [39, 110, 111, 110, 99, 101, 45] ++ n ++ [39]

/-- Digests are named: there is one, and each is listed. -/
def digsV (q : List UInt8 → Bool) (I : List It) : Bool := !I.isEmpty && !(I.any fun x => !q (shaV x))

/-- Source's named. -/
def namedV (L : List (List UInt8)) (n m : List UInt8) : Bool := (!n.isEmpty && (txtsV L).contains (nonV n)) || digsV (fun s => (txtsV L).contains s) (parse9 m)

set_option maxHeartbeats 4000000 in
set_option maxRecDepth 100000 in
theorem named_any (v : Value) (L : List (List UInt8)) (n m : ByteArray) (w : World) (hg : Gd w) (hv : TxAt w v L) (hl : L.length ≤ 1000000) (hs : ∀ x ∈ L, x.length ≤ 1000000) (hn : n.size ≤ 1000000) (hm : m.size ≤ 1000000) :
    Calls Tryz.prog 59 #[v, .string n, .string m] w fun e w' => e = .returned (.bool (namedV L n.data.toList m.data.toList)) ∧ Below w.heap.size w w' := by
  have hmf : ∀ (fn : Fn) (first cap : Array Value) (w : World), (Instr.makeFunc fn first cap).run Tryz.prog w = .ok (.func fn first cap) w := fun _ _ _ _ => rfl
  obtain ⟨q, hq⟩ : ∃ q : List UInt8 → Bool, q = fun s => (txtsV L).contains s := ⟨_, rfl⟩
  have HL := hid (listed_any v L w hg hv hl hs)
  rw [← hq] at HL
  unfold MkPost11 at HL
  have HPa := hid (fun (X : World) (hX : Below w.heap.size w X) => parse9_any m X (hg.kept hX).1 (by omega))
  obtain ⟨I, hI⟩ : ∃ I, I = parse9 m.data.toList := ⟨_, rfl⟩
  unfold ParsePost9 at HPa
  have HNV := hid (show namedV L n.data.toList m.data.toList = ((!n.data.toList.isEmpty && q (nonV n.data.toList)) || digsV q I) by unfold namedV; rw [hq, hI])
  rw [← hI] at HPa
  have HLN := hid (show I.length ≤ 1000001 by rw [hI]; have := parse_len11 m.data.toList; rw [← Lib.size_eq] at this; omega)
  have HLB := hid (show ∀ x ∈ I, x.bits = 256 ∨ x.bits = 384 ∨ x.bits = 512 by rw [hI]; exact parse_bits _)
  have HLW := hid (show ∀ x ∈ I, x.want.length ≤ 1000000 by rw [hI]; intro x hx; have := parse_want11 m.data.toList x hx; rw [← Lib.size_eq] at this; omega)
  have HG := hid hg
  obtain ⟨T1, hT1⟩ : ∃ Z : ByteArray, (⟨#[39, 110, 111, 110, 99, 101, 45]⟩ : ByteArray) ++ n = Z := ⟨_, rfl⟩
  have hT1l : T1.data.toList = [39, 110, 111, 110, 99, 101, 45] ++ n.data.toList := by rw [← hT1, ByteArray.data_append, Array.toList_append]
  have hT1s : T1.size ≤ 1000007 := by rw [Lib.size_eq, hT1l, List.length_append, ← Lib.size_eq]; simp; omega
  obtain ⟨T2, hT2⟩ : ∃ Z : ByteArray, T1 ++ (⟨#[39]⟩ : ByteArray) = Z := ⟨_, rfl⟩
  have HT2 := hid (show T2.data.toList = nonV n.data.toList by rw [← hT2, ByteArray.data_append, Array.toList_append, hT1l]; rfl)
  have hT2s : T2.size ≤ 1000008 := by rw [Lib.size_eq, ← hT2, ByteArray.data_append, Array.toList_append, List.length_append, ← Lib.size_eq]; simp; omega
  clear hq hI hT1l hg hv hl hs hm
  go_enter Tryz.func59, Tryz.ntmps59
  go_wp2_with fail
  refine HL.out.mono ?_
  rintro e w1 ⟨fv, rfl, hr, hb1⟩
  have hr0 := hr
  obtain ⟨f, lb, rfl, eg, hc⟩ := hr0
  obtain ⟨W2, hW2⟩ : ∃ W2, (w1.alloc (.cells #[.func (.func f) #[] lb] 27)) = W2 := ⟨_, rfl⟩
  have hb2 : Below w1.heap.size w1 W2 := by rw [← hW2]; exact (Below.refl _ w1).alloc (Nat.le_refl _) _
  have hrow : W2.heap[w1.heap.size]? = some (.cells #[.func (.func f) #[] lb] 27 (0, 0)) := by rw [← hW2]; exact heap_alloc_new w1 _
  have hcell : W2.cell? ⟨w1.heap.size, 0, none⟩ = some (.func (.func f) #[] lb) := by rw [Lib.cell_of_heap hrow]; rfl
  have HCell := hid hcell
  have HR2 := hid (hr.kept hb2)
  have HB2 := hid (below2 hb1 hb2)
  have HC := hid (hc W2 T2 hb2 (by omega))
  rw [HT2.out] at HC
  clear hr hc hrow hb1 hb2
  have HTail : Hid (∀ X, Below W2.heap.size W2 X → ∀ (Y : World) (iv : Value), Below X.heap.size X Y → ItAt Y iv I → Calls Tryz.prog 92 #[iv, .func (.func 91) #[] #[.pointer (some ⟨w1.heap.size, 0, none⟩)]] Y fun e w' => e = .returned (.bool (I.any fun x => !q (shaV x))) ∧ Below Y.heap.size Y w') := fun X hX Y iv hY hiv => by
    have hXY := below2 hX hY
    refine containsI11_any _ _ enters_nm1 (fun x => !q (shaV x)) iv I Y hiv (by have := HLN.out; omega) (fun Z x hx hZ => ?_)
    have hZ2 := below2 hXY hZ
    exact nm1_any w1.heap.size _ q x Z (HG.out.kept (below2 HB2.out hZ2)) (keptC HCell.out hZ2) (HR2.out.kept hZ2) (HLW.out x hx) (HLB.out x hx)
  have HBr := hid (Below.refl W2.heap.size W2)
  by_cases hne : n.data.toList = []
  · have g3 := empty_yes n hne
    have HZ := hid (show namedV L n.data.toList m.data.toList = digsV q I by rw [HNV.out, hne]; rfl)
    clear hne
    go_wp2_with fail
    refine (HPa.out _ (below2 HB2.out HBr.out)).mono ?_
    rintro e w4 ⟨iv, rfl, hown, hb4⟩
    have HB4 := hid hb4
    have HIT := hid (own_it hown)
    obtain ⟨a, cap, hive, -, -, -⟩ := HIT.out.view
    clear hown hb4
    by_cases hz : I = []
    · have hive' : iv = .slice a 0 cap := by rw [hive, hz]; rfl
      have HD := hid (show digsV q I = false by rw [hz]; rfl)
      clear hive hz
      subst hive'
      go_wp2
      go_ret
      exact ⟨ret_bool (by rw [HZ.out, HD.out]), below2 HB2.out (below2 HBr.out HB4.out)⟩
    · obtain ⟨N, hN⟩ : ∃ N, I.length = N := ⟨_, rfl⟩
      have hN0 : (0 : Int) < (N : Int) := by have := List.length_pos_iff.2 hz; omega
      have HD := hid (show digsV q I = !(I.any fun x => !q (shaV x)) by unfold digsV; cases I with | nil => exact absurd rfl hz | cons x l => rfl)
      rw [hN] at hive
      obtain ⟨r, hr⟩ : ∃ r, (I.any fun x => !q (shaV x)) = r := ⟨_, rfl⟩
      have HCo := hid (HTail.out _ HBr.out _ _ HB4.out HIT.out)
      rw [hr] at HCo HD
      clear hz hN hr HIT
      subst hive
      go_wp2_with (go_at_call 92; refine HCo.out.mono ?_; rintro e w5 ⟨rfl, hb5⟩)
      go_ret
      exact ⟨ret_bool (by rw [HZ.out, HD.out]), below2 HB2.out (below2 (below2 HBr.out HB4.out) hb5)⟩
  · have g3 := empty_no n hne
    have HE := hid (show n.data.toList.isEmpty = false by cases h : n.data.toList with | nil => exact absurd h hne | cons x l => rfl)
    obtain ⟨r0, hr0⟩ : ∃ r, q (nonV n.data.toList) = r := ⟨_, rfl⟩
    rw [hr0] at HC
    have HR0 := hid hr0
    clear hne hr0
    go_wp2_with fail
    refine HC.out.mono ?_
    rintro e w3 ⟨rfl, hb3⟩
    have HB3 := hid hb3
    clear hb3
    cases r0 with
    | true =>
      go_wp2
      go_ret
      exact ⟨ret_bool (by rw [HNV.out, HE.out, HR0.out]; rfl), below2 HB2.out HB3.out⟩
    | false =>
      have HZ := hid (show namedV L n.data.toList m.data.toList = digsV q I by rw [HNV.out, HE.out, HR0.out]; rfl)
      go_wp2_with fail
      refine (HPa.out _ (below2 HB2.out HB3.out)).mono ?_
      rintro e w4 ⟨iv, rfl, hown, hb4⟩
      have HB4 := hid hb4
      have HIT := hid (own_it hown)
      obtain ⟨a, cap, hive, -, -, -⟩ := HIT.out.view
      clear hown hb4
      by_cases hz : I = []
      · have hive' : iv = .slice a 0 cap := by rw [hive, hz]; rfl
        have HD := hid (show digsV q I = false by rw [hz]; rfl)
        clear hive hz
        subst hive'
        go_wp2
        go_ret
        exact ⟨ret_bool (by rw [HZ.out, HD.out]), below2 HB2.out (below2 HB3.out HB4.out)⟩
      · obtain ⟨N, hN⟩ : ∃ N, I.length = N := ⟨_, rfl⟩
        have hN0 : (0 : Int) < (N : Int) := by have := List.length_pos_iff.2 hz; omega
        have HD := hid (show digsV q I = !(I.any fun x => !q (shaV x)) by unfold digsV; cases I with | nil => exact absurd rfl hz | cons x l => rfl)
        rw [hN] at hive
        obtain ⟨r, hr⟩ : ∃ r, (I.any fun x => !q (shaV x)) = r := ⟨_, rfl⟩
        have HCo := hid (HTail.out _ HB3.out _ _ HB4.out HIT.out)
        rw [hr] at HCo HD
        clear hz hN hr HIT
        subst hive
        go_wp2_with (go_at_call 92; refine HCo.out.mono ?_; rintro e w5 ⟨rfl, hb5⟩)
        go_ret
        exact ⟨ret_bool (by rw [HZ.out, HD.out]), below2 HB2.out (below2 (below2 HB3.out HB4.out) hb5)⟩

end Go.Proofs.YtkhpemjjholneaaGreatDoor

namespace Go.Proofs.YtkhpemjjholneaaGreatDoor
/-- A byte that may stand in a plain path. -/
def paC (c : UInt8) : Bool := decide (33 ≤ c.toNat) && (c != 35 && (c != 63 && c != 92))

/-- Letters of either size, digits and the point. -/
def hnC (c : UInt8) : Bool := (decide (97 ≤ c.toNat) && decide (c.toNat ≤ 122)) || ((decide (65 ≤ c.toNat) && decide (c.toNat ≤ 90)) || ((decide (48 ≤ c.toNat) && decide (c.toNat ≤ 57)) || c == 46))

end Go.Proofs.YtkhpemjjholneaaGreatDoor

namespace Go.Proofs.YtkhpemjjholneaaGreatDoor
/-- A word: q, and small letters behind it. -/
def WrQ (T : List UInt8) : Prop := ∃ r : List UInt8, T = 113 :: r ∧ ∀ c ∈ r, 97 ≤ c.toNat ∧ c.toNat ≤ 122

theorem WrQ.mem {T : List UInt8} (h : WrQ T) : ∀ c ∈ T, 97 ≤ c.toNat ∧ c.toNat ≤ 122 := fun c hc => by
  obtain ⟨r, rfl, hr⟩ := h
  rcases List.mem_cons.1 hc with rfl | hc
  · decide
  · exact hr c hc

theorem WrQ.start : WrQ [113] := ⟨[], rfl, fun c hc => by simp at hc⟩

/-- What is known of a small letter. -/
theorem small_facts (c : UInt8) (h : 97 ≤ c.toNat ∧ c.toNat ≤ 122) : lowC c = c ∧ hnC c = true ∧ c ≠ 46 ∧ c ≠ 47 ∧ c ≠ 58 ∧ c ≠ 37 ∧ paC c = true ∧ inSetI c.toNat 5 = false ∧ c ≠ 42 ∧ c ≠ 39 := by
  have key : ∀ n < 256, (97 ≤ n ∧ n ≤ 122) → lowC (UInt8.ofNat n) = UInt8.ofNat n ∧ hnC (UInt8.ofNat n) = true ∧ UInt8.ofNat n ≠ 46 ∧ UInt8.ofNat n ≠ 47 ∧ UInt8.ofNat n ≠ 58 ∧ UInt8.ofNat n ≠ 37 ∧ paC (UInt8.ofNat n) = true ∧ inSetI n 5 = false ∧ UInt8.ofNat n ≠ 42 ∧ UInt8.ofNat n ≠ 39 := by decide +kernel
  have e : UInt8.ofNat c.toNat = c := by simp
  have := key c.toNat c.toNat_lt h
  rw [e] at this
  exact this

theorem WrQ.low {T : List UInt8} (h : WrQ T) : low T = T := low_plain _ fun c hc => (small_facts c (h.mem c hc)).1

end Go.Proofs.YtkhpemjjholneaaGreatDoor

namespace Go.Proofs.YtkhpemjjholneaaGreatDoor
/-- Small letters, one at least. -/
def Lets (T : List UInt8) : Prop := T ≠ [] ∧ ∀ c ∈ T, 97 ≤ c.toNat ∧ c.toNat ≤ 122

theorem Lets.no {T : List UInt8} (h : Lets T) : 47 ∉ T ∧ 58 ∉ T ∧ 37 ∉ T := ⟨fun e => (small_facts 47 (h.2 47 e)).2.2.2.1 rfl, fun e => (small_facts 58 (h.2 58 e)).2.2.2.2.1 rfl, fun e => (small_facts 37 (h.2 37 e)).2.2.2.2.2.1 rfl⟩

theorem Lets.unpct {T : List UInt8} (h : Lets T) : unpct T = T := unpct_plain T h.no.2.2

end Go.Proofs.YtkhpemjjholneaaGreatDoor

namespace Go.Proofs.YtkhpemjjholneaaGreatDoor
open Go.RowKit

theorem known_1 : lawOne [42, 46, 98, 46, 99, 111, 109] [104, 116, 116, 112, 115, 58, 47, 47, 97, 46, 98, 46, 99, 111, 109, 47] [104, 116, 116, 112, 115, 58, 47, 47, 112, 47] 0 = true := by decide +kernel

theorem known_2 : lawOne [98, 46, 99, 111, 109] [104, 116, 116, 112, 115, 58, 47, 47, 98, 46, 99, 111, 109, 58, 52, 52, 52, 47] [104, 116, 116, 112, 115, 58, 47, 47, 112, 47] 0 = false := by decide +kernel

theorem known_3 : lawOne [104, 116, 116, 112, 58, 47, 47, 98, 46, 99, 111, 109, 47, 120, 47] [104, 116, 116, 112, 115, 58, 47, 47, 98, 46, 99, 111, 109, 47, 120, 47, 121] [104, 116, 116, 112, 115, 58, 47, 47, 112, 47] 0 = true := by decide +kernel

theorem known_4 : lawOne [104, 116, 116, 112, 115, 58] [104, 116, 116, 112, 58, 47, 47, 97, 47] [104, 116, 116, 112, 58, 47, 47, 112, 47] 0 = false := by decide +kernel

/-- A call of one at given texts. -/
theorem lawOne_at (s u p : ByteArray) (hops : Int) (b : Bool) (w : World) (hg : Gd w) (hs : s.size ≤ 4000000000) (hu : u.size ≤ 1000000) (hp : p.size ≤ 1000000) (h : lawOne s.data.toList u.data.toList p.data.toList hops = b) :
    Calls Tryz.prog 30 #[.string s, .string u, .string p, .int .i64 hops] w fun e w' => e = .returned (.bool b) ∧ Below w.heap.size w w' := by
  rw [← h]
  exact lawOne_any s u p hops w hg hs (by omega) (by omega)

set_option maxHeartbeats 2000000 in
set_option maxRecDepth 100000 in
theorem known11_any (w : World) (hg : Gd w) :
    Calls Tryz.prog 33 #[] w fun e w' => e = .returned (.bool true) ∧ Below w.heap.size w w' := by
  have H1 := hid (fun w hg => lawOne_at ⟨#[42, 46, 98, 46, 99, 111, 109]⟩ ⟨#[104, 116, 116, 112, 115, 58, 47, 47, 97, 46, 98, 46, 99, 111, 109, 47]⟩ ⟨#[104, 116, 116, 112, 115, 58, 47, 47, 112, 47]⟩ 0 true w hg (by decide) (by decide) (by decide) known_1)
  have H2 := hid (fun w hg => lawOne_at ⟨#[98, 46, 99, 111, 109]⟩ ⟨#[104, 116, 116, 112, 115, 58, 47, 47, 98, 46, 99, 111, 109, 58, 52, 52, 52, 47]⟩ ⟨#[104, 116, 116, 112, 115, 58, 47, 47, 112, 47]⟩ 0 false w hg (by decide) (by decide) (by decide) known_2)
  have H3 := hid (fun w hg => lawOne_at ⟨#[104, 116, 116, 112, 58, 47, 47, 98, 46, 99, 111, 109, 47, 120, 47]⟩ ⟨#[104, 116, 116, 112, 115, 58, 47, 47, 98, 46, 99, 111, 109, 47, 120, 47, 121]⟩ ⟨#[104, 116, 116, 112, 115, 58, 47, 47, 112, 47]⟩ 0 true w hg (by decide) (by decide) (by decide) known_3)
  have H4 := hid (fun w hg => lawOne_at ⟨#[104, 116, 116, 112, 115, 58]⟩ ⟨#[104, 116, 116, 112, 58, 47, 47, 97, 47]⟩ ⟨#[104, 116, 116, 112, 58, 47, 47, 112, 47]⟩ 0 false w hg (by decide) (by decide) (by decide) known_4)
  have HG := hid hg
  clear hg
  go_enter Tryz.func33, Tryz.ntmps33
  go_wp2_with fail
  refine (H1.out _ HG.out).mono ?_
  rintro e w1 ⟨rfl, hb1⟩
  have HB1 := hid hb1
  clear hb1
  go_wp2_with fail
  refine (H2.out _ (HG.out.kept HB1.out)).mono ?_
  rintro e w2 ⟨rfl, hb2⟩
  have HB2 := hid (below2 HB1.out hb2)
  clear hb2
  go_wp2_with fail
  refine (H3.out _ (HG.out.kept HB2.out)).mono ?_
  rintro e w3 ⟨rfl, hb3⟩
  have HB3 := hid (below2 HB2.out hb3)
  clear hb3
  go_wp2_with fail
  refine (H4.out _ (HG.out.kept HB3.out)).mono ?_
  rintro e w4 ⟨rfl, hb4⟩
  have HB4 := hid (below2 HB3.out hb4)
  clear hb4
  go_wp2
  go_ret
  exact ⟨rfl, HB4.out⟩

end Go.Proofs.YtkhpemjjholneaaGreatDoor

namespace Go.Proofs.YtkhpemjjholneaaGreatDoor
open Go.RowKit

set_option maxHeartbeats 4000000 in
set_option maxRecDepth 100000 in
theorem any11_any (v : Value) (L : List (List UInt8)) (u p : Adr) (uv pv : Value) (hops : Int) (n m : ByteArray) (w : World) (hg : Gd w) (hu : UrlAt w u uv) (hp : UrlAt w p pv) (hz : Sized11 u) (hv : TxAt w v L) (hl : L.length ≤ 1000000) (hs : ∀ x ∈ L, x.length ≤ 1000000) (hn : n.size ≤ 1000000) (hm : m.size ≤ 1000000) :
    Calls Tryz.prog 31 #[v, adrVal u uv, adrVal p pv, .int .i64 hops, .string n, .string m] w fun e w' => e = .returned (.bool (L.any (oneV u p hops) || namedV L n.data.toList m.data.toList)) ∧ Below w.heap.size w w' := by
  obtain ⟨ua, un, uc, rfl⟩ := hu.sl
  obtain ⟨pa, pn, pc, rfl⟩ := hp.sl
  have HM := hid (fun (w : World) (hg : Gd w) (hu : UrlAt w u (.slice ua un uc)) (hp : UrlAt w p (.slice pa pn pc)) => meaning_any u p (.slice ua un uc) (.slice pa pn pc) hops w hg hu hp hz)
  obtain ⟨u0, u1, u2, u3, u4, u5, u6, u8, u9, u10, u11, hx, -, -, -, -⟩ := adr_named u ua un uc
  obtain ⟨p0, p1, p2, p3, p4, p5, p6, p8, p9, p10, p11, hy, -, -, -, -⟩ := adr_named p pa pn pc
  have hva : adrVal u (.slice ua un uc) = .agg #[.string u0, .string u1, .string u2, .string u3, .bool u4, .int .i64 u5, .bool u6, .slice ua un uc, .string u8, .string u9, .bool u10, .bool u11] := by unfold adrVal; rw [hx]
  have hvb : adrVal p (.slice pa pn pc) = .agg #[.string p0, .string p1, .string p2, .string p3, .bool p4, .int .i64 p5, .bool p6, .slice pa pn pc, .string p8, .string p9, .bool p10, .bool p11] := by unfold adrVal; rw [hy]
  rw [hva, hvb] at HM ⊢
  obtain ⟨W1, hW1⟩ : ∃ W1, (w.alloc (.cells #[.string u0, .string u1, .string u2, .string u3, .bool u4, .int .i64 u5, .bool u6, .slice ua un uc, .string u8, .string u9, .bool u10, .bool u11] 45)) = W1 := ⟨_, rfl⟩
  have hb1 : Below w.heap.size w W1 := by rw [← hW1]; exact (Below.refl _ w).alloc (Nat.le_refl _) _
  have hs1 : W1.heap.size = w.heap.size + 1 := by rw [← hW1]; simp
  have hA1 : AdrIn W1 w.heap.size u (.slice ua un uc) := by
    unfold AdrIn
    rw [hx, ← hW1]
    exact heap_alloc_new w _
  obtain ⟨W2, hW2⟩ : ∃ W2, (W1.alloc (.cells #[.string p0, .string p1, .string p2, .string p3, .bool p4, .int .i64 p5, .bool p6, .slice pa pn pc, .string p8, .string p9, .bool p10, .bool p11] 45)) = W2 := ⟨_, rfl⟩
  have hb2 : Below W1.heap.size W1 W2 := by rw [← hW2]; exact (Below.refl _ W1).alloc (Nat.le_refl _) _
  have hA2 := hA1.kept hb2
  have hP2 : AdrIn W2 (w.heap.size + 1) p (.slice pa pn pc) := by
    unfold AdrIn
    rw [hy, ← hW2, ← hs1]
    exact heap_alloc_new W1 _
  have hB2 := below2 hb1 hb2
  have HG2 := hid (hg.kept hB2)
  have HU2 := hid (hu.kept hB2)
  have HP2 := hid (hp.kept hB2)
  have HV2 := hid (hv.kept hB2)
  have HB2 := hid hB2
  have HL := hid hl
  have HS := hid hs
  have HRu := hid (show W2.rangeAt w.heap.size 0 [.string u0, .string u1, .string u2, .string u3, .bool u4, .int .i64 u5, .bool u6, .slice ua un uc, .string u8, .string u9, .bool u10, .bool u11] by
    have := range_row (show W2.heap[w.heap.size]? = some (.cells (adrCells u (.slice ua un uc)).toArray 45 (0, 0)) from hA2)
    rw [hx] at this
    exact this)
  have HRp := hid (show W2.rangeAt (w.heap.size + 1) 0 [.string p0, .string p1, .string p2, .string p3, .bool p4, .int .i64 p5, .bool p6, .slice pa pn pc, .string p8, .string p9, .bool p10, .bool p11] by
    have := range_row (show W2.heap[w.heap.size + 1]? = some (.cells (adrCells p (.slice pa pn pc)).toArray 45 (0, 0)) from hP2)
    rw [hy] at this
    exact this)
  obtain ⟨q, hq⟩ : ∃ q, L.any (oneV u p hops) = q := ⟨_, rfl⟩
  have HQ := hid hq
  rw [hq]
  obtain ⟨z, hzn⟩ : ∃ z, namedV L n.data.toList m.data.toList = z := ⟨_, rfl⟩
  have HZn := hid hzn
  rw [hzn]
  clear hzn
  clear hb1 hb2 hA1 hA2 hP2 hB2 hg hu hp hx hy hz hva hvb hv hl hs hq
  go_enter Tryz.func31, Tryz.ntmps31
  go_wp2_with (first | refine wpList_load_mid rfl 45 (.tmp 7) rfl w.heap.size 0 rfl [.string u0, .string u1, .string u2, .string u3, .bool u4, .int .i64 u5, .bool u6, .slice ua un uc, .string u8, .string u9, .bool u10, .bool u11] _ HRu.out Tryz.underlying45 rfl sizeU ?_ | refine wpList_load_mid rfl 45 (.tmp 8) rfl (w.heap.size + 1) 0 rfl [.string p0, .string p1, .string p2, .string p3, .bool p4, .int .i64 p5, .bool p6, .slice pa pn pc, .string p8, .string p9, .bool p10, .bool p11] _ HRp.out Tryz.underlying45 rfl sizeU ?_)
  refine (HM.out _ HG2.out HU2.out HP2.out).mono ?_
  rintro e w3 ⟨fv, rfl, hr, hb3⟩
  have HC := hid (containsS_any (oneV u p hops) v fv L w3 (HV2.out.kept hb3) HL.out HS.out hr)
  rw [HQ.out] at HC
  have HB3 := hid (below2 HB2.out hb3)
  have HV3 := hid (HV2.out.kept hb3)
  have HG3 := hid (HG2.out.kept hb3)
  clear hr hb3
  go_wp2_with fail
  refine HC.out.mono ?_
  rintro e w4 ⟨rfl, hb4⟩
  have HB4 := hid (below2 HB3.out hb4)
  have HNm := hid (named_any v L n m w4 (HG3.out.kept hb4) (HV3.out.kept hb4) HL.out HS.out hn hm)
  rw [HZn.out] at HNm
  clear hb4
  cases q with
  | true =>
    go_wp2
    go_ret
    exact ⟨rfl, HB4.out⟩
  | false =>
    go_wp2_with (go_at_call 59; refine HNm.out.mono ?_; rintro e w5 ⟨rfl, hb5⟩)
    go_ret
    exact ⟨rfl, below2 HB4.out hb5⟩

end Go.Proofs.YtkhpemjjholneaaGreatDoor
