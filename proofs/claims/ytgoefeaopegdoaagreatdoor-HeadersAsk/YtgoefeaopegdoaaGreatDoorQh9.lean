/-
  Walks and plain facts that this claim leans on, put together out of 2 texts: Cj, Zk.
-/
import Derived.Test.YtgoefeaopegdoaaGreatDoorProg
import Derived.Test.YtgoefeaopegdoaaGreatDoorQh1
import Derived.Test.YtgoefeaopegdoaaGreatDoorQh2
import Derived.Test.YtgoefeaopegdoaaGreatDoorQh3
import Derived.Test.YtgoefeaopegdoaaGreatDoorQh4
import Derived.Test.YtgoefeaopegdoaaGreatDoorQh5
import Derived.Test.YtgoefeaopegdoaaGreatDoorQh6
import Derived.Test.YtgoefeaopegdoaaGreatDoorQh7
import Derived.Test.YtgoefeaopegdoaaGreatDoorQh8
import Derived.BigRegion
import Derived.Deep.RegionHeld
import Derived.Deep.RegionHeldLaw
import Derived.Laws.CopyOwn
import Derived.Laws.Runes
import Derived.Deep.QuietTactic
import Derived.BigQuiet
import Derived.Laws.AppendOwn
import Derived.WalkKit
import Derived.Lib.Strings
import Derived.Lib.UnsafeStr
import Derived.Laws.IdiomStrings
import Derived.Laws.BitsAllLaws
import Derived.Lib.Bytealg
import Derived.Lib.BufferMore
import Derived.LoopN
import Derived.Shelf.Strings.Builder1
import Derived.Shelf.Strings.Builder2
import Derived.Shelf.Strings.OnBuilder
import Derived.Shelf.Strings.Trim
import Derived.Shelf.Small.Utf8
import Derived.Shelf.Small.Bits
import Derived.Shelf.Small.Strs
import Derived.Shelf.Small.Wraps
import Derived.Shelf.Strings.BuilderF
import Derived.Shelf.Strings.BuilderK
import Derived.Shelf.Strings.BuilderRune
import Derived.Shelf.Utf8.AppendRune
import Derived.Shelf.Utf8.AppendRunePlain
import Derived.Shelf.Strings.Builder2Cap
import Derived.Shelf.Strconv.Itoa0
import Derived.Shelf.Strconv.Itoa1
import Derived.Shelf.LaysM
import Derived.Shelf.Strconv.Itoa2
import Derived.Shelf.Strconv.Itoa3
import Derived.Shelf.Strings.Search1
import Derived.Shelf.Strings.Search2
import Derived.Shelf.Strings.Search3
import Derived.Shelf.Strings.Cut
import Derived.Shelf.Strings.Count
import Derived.Shelf.Strings.Shaped
import Derived.Shelf.Strings.LastIndex
import Derived.Shelf.Strings.Prefix
import Derived.Shelf.Strings.Split
import Derived.Shelf.Strings.Replace
import Derived.Shelf.Strings.Runes
import Derived.Shelf.Strings.IndexAny
import Derived.Shelf.Strings.AsciiSet
import Derived.Shelf.Strings.IndexAnyAll
import Derived.Shelf.Unicode.DecodeSlow
import Derived.Ground.Names2Prog
import Derived.Shelf.Slices.Clone
import Derived.Shelf.Slices.In.SortNone
import Derived.Ground.SlgnProg
import Derived.Shelf.SlicesE.Clone
import Derived.WalkSpells
import Derived.WalkLawsBesides
import Derived.Lib.SlTrimSet
import Derived.Lib.Join
import Derived.Lib.IndexMore
import Derived.Laws.OwnMore
import Derived.Below
import Derived.WalkSmall
import Derived.Lib.SmallJoins
import Derived.Deep.LoopGhost
import Derived.Deep.MidRow
import Derived.Shelf.Strings.SlTrimAscii
import Derived.Deep.CutRange
import Derived.Laws.Rows
import Derived.Laws.MakeOwn
import Derived.Laws.RangeAny
import Derived.Lib.DecodeN
import Derived.Lib.OthersKept
import Derived.RegionTactic
import Derived.Deep.RegionWith
import Derived.Deep.WholeRow
import Derived.Deep.RegionLaw
import Derived.Laws.AppendOwnNone
set_option linter.unusedSimpArgs false
set_option linter.unusedVariables false

namespace Go.Proofs.YtgoefeaopegdoaaGreatDoor
open Go.RowKit

theorem step_append_own6 {P : Program} {ops : Array Oper} {o : Oper} {a : Act} {w : World} {K : Act → World → Prop} {Q : Exit → Act → World → Prop} {E : Prop} (hgd : o.guard = none) (s x : Operand) (t : TypeId)
  (ho : o.op = .call { callee := .builtin .append, args := #[s, x], argTypes := #[t, t] })
  (base : Nat) (e : TypeId) (i : TypeInfo) (z : Value) (size bytes : Nat) (ht : P.underlying t = some (.slice e)) (hi : P.info? e = some i) (hz : i.zero = some z)
  (hsize : i.size = size) (hby : i.bytes = bytes) (hzs : z.cells.size = size) (hsz : 0 < size)
  (v : Value) (n : Nat) (xs : List Value) (hs : a.eval s = v) (hown : w.ownsRow base e size v n xs)
  (ad : Addr) (m c : Nat) (news : List Value) (hx : a.eval x = .slice (some ad) m c) (hl : news.length = m * size) (hnews : ∀ j u, news[j]? = some u → w.cell? (ad.add j) = some u) (h1 : ∀ u ∈ news, u.oneCell' = true)
  (h63 : n + m ≤ maxLen) (hbytes : (n + m) * bytes ≤ 140737488355328) (hbase : base ≤ w.heap.size)
  (h : ∀ v' w', w'.ownsRow base e size v' (n + m) (xs ++ news) → w.grownBy w' v.ownBlock → (v' = .slice none 0 0 ↔ v = .slice none 0 0 ∧ m = 0) → K (a.put o.dst v') w') :
  if Region.wanted o (yielded ops a.tmps) = true then Oper.wp P o a w K Q else E := by
 rw [if_pos (by simp [Region.wanted, hgd])]
 exact wp_append_own w s x t ho base e i z size bytes ht hi hz hsize hby hzs hsz v n xs hs hown ad m c news hx hl hnews h1 h63 hbytes hbase h

theorem below26 {a b c : World} (h1 : Below a.heap.size a b) (h2 : Below b.heap.size b c) : Below a.heap.size a c := h1.trans (h2.mono h1.size)

theorem range_row6 {w : World} {g : Nat} {cs : List Value} {t : TypeId} {f : Nat × Nat} (h : w.heap[g]? = some (.cells cs.toArray t f)) : w.rangeAt g 0 cs := by
 intro j v hv
 rw [Nat.zero_add, Lib.cell_of_heap h]
 simpa using hv

theorem ownsRow_lower6 {w : World} {B B' : Nat} {e : TypeId} {size : Nat} {v : Value} {n : Nat} {xs : List Value} (h : w.ownsRow B e size v n xs) (hB : B' ≤ B) : w.ownsRow B' e size v n xs := by
 refine ⟨h.1, ?_⟩
 rcases h.2 with h | ⟨g, cap, cur, h1, h2, h3⟩
 ·exact .inl h
 ·exact .inr ⟨g, cap, cur, h1, Nat.le_trans hB h2, h3⟩

def lowN (h : Hd) : List UInt8 := low h.name

def nmsN (L : List Hd) : List (List UInt8) := srtN (L.map lowN)

theorem told_len (L : List Hd) (n : List UInt8) : (toldBy L n).length ≤ L.length + 1 := by
 unfold toldBy
 split
 ·rw [List.length_map]; have := List.length_filter_le (isN n) L; omega
 ·simp

theorem tolds_len (L : List Hd) : ∀ N : List (List UInt8), (N.flatMap (toldBy L)).length ≤ N.length * (L.length + 1)
 | [] => by simp
 | n :: N => by
  have h1 := told_len L n
  have h2 := tolds_len L N
  rw [List.flatMap_cons, List.length_append, List.length_cons, Nat.succ_mul]
  omega

theorem tolds_snoc (L : List Hd) (N : List (List UInt8)) (k : Nat) (h : k < N.length) : (N.take (k + 1)).flatMap (toldBy L) = (N.take k).flatMap (toldBy L) ++ toldBy L N[k] := by
 rw [List.take_succ_eq_append_getElem h, List.flatMap_append]
 simp

def cooK (L : List Hd) (n : List UInt8) (k : Nat) : List Hd := ((L.take k).filter (isN n)).map (fun h => ⟨n, h.value⟩)

theorem coo_snoc (L : List Hd) (n : List UInt8) (k : Nat) (h : k < L.length) : cooK L n (k + 1) = cooK L n k ++ (if isN n L[k] then [⟨n, L[k].value⟩] else []) := by
 unfold cooK
 rw [List.take_succ_eq_append_getElem h, List.filter_append, List.map_append]
 congr 1
 cases hb : isN n L[k] <;> simp [hb]

theorem coo_len (L : List Hd) (n : List UInt8) (k : Nat) : (cooK L n k).length ≤ k := by
 unfold cooK
 rw [List.length_map]
 have := List.length_filter_le (isN n) (L.take k)
 rw [List.length_take] at this
 omega

def SrI (w : World) (v : Value) (F : List Hd) (wr : World) : Prop := wr.ownsRow w.heap.size 38 2 v F.length (cellsH F) ∧ Below w.heap.size w wr

theorem SrI.below {w wr w' : World} {v : Value} {F : List Hd} (h : SrI w v F wr) (hb : Below wr.heap.size wr w') : SrI w v F w' := ⟨own_same h.1 hb, below26 h.2 hb⟩

theorem SrI.snoc {w wr w' : World} {v v' : Value} {F : List Hd} {X V : ByteArray} {o : Obj} (h : SrI w v F wr) (ho : w'.ownsRow w.heap.size 38 2 v' (F.length + 1) (cellsH F ++ [.string X, .string V])) (hg : (wr.alloc o).grownBy w' v.ownBlock) : SrI w v' (F ++ [⟨X.data.toList, V.data.toList⟩]) w' := by
 refine ⟨?_, (h.2.alloc h.2.size _).grown hg (by have := h.2.size; simp; omega) (fun g hg => (h.1.lt g hg).1)⟩
 rw [List.length_append, cellsH_app]
 exact ho

def NmI (w : World) (v : Value) (N : List (List UInt8)) (wr : World) : Prop := wr.ownsRow w.heap.size 9 1 v N.length (cellsT N) ∧ Below w.heap.size w wr

set_option maxHeartbeats 32000000 in
set_option maxRecDepth 100000 in
theorem rsorted5_any (v : Value) (L : List Hd) (w : World) (h : HdAt w v L) (hl : L.length ≤ 20) (hz : Szd 1000 L) :
    Calls Tryz.prog 51 #[v] w fun e w' => ∃ u, e = .returned u ∧ w'.ownsRow w.heap.size 38 2 u ((nmsN L).flatMap (toldBy L)).length (cellsH ((nmsN L).flatMap (toldBy L))) ∧ Below w.heap.size w w' := by
  obtain ⟨i0, hi, hz0, hz1, hz2⟩ := info3 infoTx6
  obtain ⟨j0, ji, jz0, jz1, jz2⟩ := info3 infoHd
  have HH := hid h
  obtain ⟨a1, c1, rfl, hc1, hm1, hv1⟩ := h.view
  have V1 := hid hv1
  have HZ := hid hz
  obtain ⟨n, hn⟩ : ∃ n, n = L.length := ⟨_, rfl⟩
  have HN := hid hn
  rw [← hn] at hl HH ⊢
  have HBk := hid (show bulkV L ≤ 140737488355328 by have := hz.bulk; have h2 : (1000 + 2) * L.length ≤ 30000 := by omega
                                                     omega)
  have HSz := hid (show Szd 140737488351232 L from hz.mono (by decide))
  clear h hv1 hz hn hc1 hm1
  go_enter Tryz.func51, Tryz.ntmps51
  go_wp2
  go_loopw [3, 4] (fun vv iv wr => ∃ (i : Nat), i ≤ n ∧ iv = .int .i64 i ∧ Hid (NmI w vv ((L.take i).map lowN) wr)) (fun _ iv _ => n - (intOf iv).toNat)
  case atStart => exact ⟨0, Nat.zero_le _, rfl, World.ownsRow_nil _ _ _ _, Below.refl _ _⟩
  case round =>
    obtain ⟨i, hil, rfl, HS⟩ := hrel
    by_cases hlt : i < n
    · have hlt' : (i : Int) < (n : Int) := by omega
      have hiL : i < L.length := by have := HN.out; omega
      obtain ⟨b1, o1, rfl, e1, e2⟩ := V1.out i hiL
      obtain ⟨X, hX⟩ : ∃ x : ByteArray, x = ⟨L[i].name.toArray⟩ := ⟨_, rfl⟩
      have hXl : X.data.toList = L[i].name := by rw [hX]
      rw [← hX] at e1
      have f1 := (HS.out.2.cell (World.block_lt_of_cell? w _ e1)).trans e1
      have hXs : X.size ≤ 140737488351232 := by rw [Lib.size_eq, hXl]; have := (HZ.out _ (List.getElem_mem hiL)).1; omega
      have HLo := hid (rlower_any X wr hXs)
      obtain ⟨Y, hY⟩ : ∃ x : ByteArray, x = ⟨(low X.data.toList).toArray⟩ := ⟨_, rfl⟩
      rw [← hY] at HLo
      have HTk := hid (show (L.take (i + 1)).map lowN = (L.take i).map lowN ++ [Y.data.toList] by
        rw [List.take_succ_eq_append_getElem hiL, List.map_append, hY, hXl]; rfl)
      have HLn := hid (show ((L.take i).map lowN).length = i by rw [List.length_map, List.length_take]; omega)
      clear hX hXl e1 e2 hXs hY hiL
      go_wp2_with fail
      refine HLo.out.mono ?_
      rintro e w1 ⟨rfl, hb1⟩
      have HO1 := hid (show w1.ownsRow w.heap.size 9 1 u3 i (cellsT ((L.take i).map lowN)) by have := own_same HS.out.1 hb1; rw [HLn.out] at this; exact this)
      have HB1 := hid (below26 HS.out.2 hb1)
      have hw1 := HB1.out.size
      clear hb1 HS f1
      go_wp2_with (at_builtin; go_must (refine wpList_append_own _ rfl _ _ 32 rfl w.heap.size 9 i0 _ 1 16 Tryz.underlying32 hi hz0 hz1 hz2 rfl (by decide) _ _ _ rfl (HO1.out.alloc _) ⟨w1.heap.size, 0, none⟩ 1 1 [.string Y] rfl rfl ?c1a ?c2a ?c3a ?c4a ?c5a ?_))
      case c1a =>
        intro q u hq
        match q, hq with
        | 0, hq => simp at hq; subst hq; simp [Addr.add]
      case c2a => intro u hu; simp at hu; subst hu; rfl
      case c3a => unfold maxLen; omega
      case c4a => omega
      case c5a => simp; omega
      intro v' w5 hown' hgrow hnil
      have HF := hid (show NmI w v' ((L.take (i + 1)).map lowN) w5 by
        refine ⟨?_, (HB1.out.alloc hw1 _).grown hgrow (by simp; omega) (fun g hg => (HO1.out.lt g hg).1)⟩
        rw [HTk.out, List.length_append, HLn.out, cellsT_app, cellsT_one, List.map_take]
        exact hown')
      clear hown' hgrow hnil HO1 HB1
      go_wp2
      go_roundw
      case rel => exact ⟨i + 1, by omega, by go_num, HF.out⟩
      case measure => simp [intOf]; omega
    · have hlt' : decide ((i : Int) < (n : Int)) = false := by rw [decide_eq_false_iff_not]; omega
      obtain ⟨NM, hNM⟩ : ∃ N, N = L.map lowN := ⟨_, rfl⟩
      have HNm := hid (show NmI w u3 NM wr by
        have h := HS.out
        rw [List.take_of_length_le (by have := HN.out; omega), ← hNM] at h
        exact h)
      have hNl : NM.length ≤ 20 := by rw [hNM, List.length_map]; have := HN.out; omega
      have HNz := hid (show ∀ x ∈ NM, x.length ≤ 1000 from fun x hx => by
        rw [hNM] at hx
        obtain ⟨h, hm, rfl⟩ := List.mem_map.1 hx
        unfold lowN low
        rw [List.length_map]
        exact (HZ.out h hm).1)
      have HSo := hid (rsorted1_any u3 NM wr (own_txt' HNm.out.1) (by omega) (fun x hx => by have := HNz.out x hx; omega))
      have HFa := hid (srtN_facts NM)
      have HRe := hid (show nmsN L = srtN NM by unfold nmsN; rw [hNM])
      obtain ⟨N, hN⟩ : ∃ N, N = srtN NM := ⟨_, rfl⟩
      rw [← hN] at HSo HFa HRe
      obtain ⟨m, hm⟩ : ∃ m, m = N.length := ⟨_, rfl⟩
      have HM := hid hm
      have hm20 : m ≤ 20 := by have := HFa.out.2.2; omega
      have HNzz := hid (show ∀ x ∈ N, x.length ≤ 1000 from fun x hx => HNz.out x ((HFa.out.2.1 x).1 hx))
      have HBr := hid HNm.out.2
      obtain ⟨la, lc, rfl, -, -, -⟩ := (own_txt' HNm.out.1).view
      rw [← hm] at HSo
      clear hNM hN hm HS hlt' hNl HNm HNz
      go_wp2_with fail
      refine HSo.out.mono ?_
      rintro e w3 ⟨nv, rfl, hown3, hb3⟩
      have HTx := hid (own_txt' (L := N) (by rw [← HM.out]; exact hown3))
      obtain ⟨na, nc, rfl, -, -, -⟩ := HTx.out.view
      have HB3 := hid (below26 HBr.out hb3)
      have HH3 := hid (HH.out.kept HB3.out)
      have V3 := hid (show ∀ j (hj : j < L.length), ∃ b off, a1 = some ⟨b, off, none⟩ ∧ w3.cell? ⟨b, off + j * 2, none⟩ = some (.string ⟨L[j].name.toArray⟩) ∧ w3.cell? ⟨b, off + j * 2 + 1, none⟩ = some (.string ⟨L[j].value.toArray⟩) from fun j hj => by
        obtain ⟨b, off, e, q1, q2⟩ := V1.out j hj
        exact ⟨b, off, e, (HB3.out.cell (World.block_lt_of_cell? w _ q1)).trans q1, (HB3.out.cell (World.block_lt_of_cell? w _ q2)).trans q2⟩)
      have hNlen : N.length = m := HM.out.symm
      rw [hNlen] at HTx ⊢
      have HNl := hid hNlen
      obtain ⟨a', c', ea', -, -, hVN⟩ := HTx.out.view
      injection ea' with ea1 ea2 ea3
      subst ea1
      have VN := hid hVN
      have HFi := hid (show (nmsN L).flatMap (toldBy L) = (N.take m).flatMap (toldBy L) by rw [HRe.out, List.take_of_length_le (by rw [HNl.out]; exact Nat.le_refl _)])
      clear hown3 hb3 hNlen ea2 ea3 hVN HSo V1 HH HTx
      go_wp2_with fail
      go_loopw [5, 6] (fun ov iv wr => ∃ (k q : Nat), k ≤ m ∧ q ≤ 1000 ∧ iv = .int .i64 k ∧ Hid (q = ((N.take k).flatMap (toldBy L)).length ∧ SrI w3 ov ((N.take k).flatMap (toldBy L)) wr)) (fun _ iv _ => m - (intOf iv).toNat)
      case atStart => exact ⟨0, 0, Nat.zero_le _, by omega, rfl, rfl, World.ownsRow_nil _ _ _ _, Below.refl _ _⟩
      case round =>
        obtain ⟨k, q, hk, hq, rfl, HR⟩ := hrel
        by_cases hkm : k < m
        · have hkm' : (k : Int) < (m : Int) := by omega
          have hkN : k < N.length := by rw [HNl.out]; exact hkm
          have HSn := hid (tolds_snoc L N k hkN)
          have HQl := hid (show ((N.take (k + 1)).flatMap (toldBy L)).length ≤ 500 by
            have h1 := tolds_len L (N.take (k + 1))
            have h2 : (N.take (k + 1)).length ≤ 20 := by rw [List.length_take]; omega
            have h3 : (N.take (k + 1)).length * (L.length + 1) ≤ 20 * 21 := Nat.mul_le_mul h2 (by have := HN.out; omega)
            omega)
          obtain ⟨gN, oN, ea, eN⟩ := VN.out k hkN
          subst ea
          obtain ⟨X, hX⟩ : ∃ x : ByteArray, x = ⟨N[k].toArray⟩ := ⟨_, rfl⟩
          have hXl : X.data.toList = N[k] := by rw [hX]
          rw [← hX] at eN
          rw [← hXl] at HSn
          have hXs : X.size ≤ 1000 := by rw [Lib.size_eq, hXl]; exact HNzz.out _ (List.getElem_mem hkN)
          have HKn := hid (fun (Z : World) (hZ : Below w3.heap.size w3 Z) => (hZ.cell (World.block_lt_of_cell? w3 _ eN)).trans eN)
          obtain ⟨D, hD⟩ : ∃ D, (N.take k).flatMap (toldBy L) = D := ⟨_, rfl⟩
          rw [hD] at HR HSn
          obtain ⟨WR, hWR⟩ : ∃ W, W = wr := ⟨_, rfl⟩
          subst hWR
          have fN := HKn.out WR HR.out.2.2
          obtain ⟨sc, hsc⟩ : ∃ b, (X.toList == [115, 101, 116, 45, 99, 111, 111, 107, 105, 101]) = b := ⟨_, rfl⟩
          have HSc := hid (show (X.data.toList = scN) ↔ sc = true by rw [← hsc, Lib.toList_data]; simp [scN])
          clear hX hXl eN hD hkN
          cases sc with
          | false =>
            have HTo := hid (show toldBy L X.data.toList = [⟨X.data.toList, getT L X.data.toList⟩] by
              unfold toldBy
              rw [if_neg (fun e => by have := HSc.out.1 e; cases this)])
            have HGt := hid (rget_any (.slice a1 n c1) L X WR (HH3.out.kept HR.out.2.2) (by omega) HSz.out (by have := HN.out; omega) HBk.out)
            obtain ⟨G, hG⟩ : ∃ x : ByteArray, x = ⟨(getT L X.data.toList).toArray⟩ := ⟨_, rfl⟩
            obtain ⟨gb, hgb⟩ : ∃ b, getB L X.data.toList = b := ⟨_, rfl⟩
            rw [← hG, hgb] at HGt
            have HGl := hid (show G.data.toList = getT L X.data.toList by rw [hG])
            clear hG hgb
            go_wp2_with fail
            refine HGt.out.mono ?_
            rintro e w4 ⟨rfl, hb4⟩
            have HS4 := hid (HR.out.2.below hb4)
            have HO4 := hid (show w4.ownsRow w3.heap.size 38 2 u5 q (cellsH D) by have := HS4.out.1; rw [← HR.out.1] at this; exact this)
            have fN4 := HKn.out w4 HS4.out.2
            have hw4 := HS4.out.2.size
            have HDq := hid HR.out.1
            clear hb4 HR fN
            go_wp2_with (at_builtin; go_must (refine wpList_append_own _ rfl _ _ 25 rfl w3.heap.size 38 j0 _ 2 32 Tryz.underlying25 ji jz0 jz1 jz2 rfl (by decide) _ _ _ rfl (HO4.out.alloc _) ⟨w4.heap.size, 0, none⟩ 1 1 [.string X, .string G] rfl rfl ?c1b ?c2b ?c3b ?c4b ?c5b ?_))
            case c1b =>
              intro q u hq
              match q, hq with
              | 0, hq => simp at hq; subst hq; simp [Addr.add]
              | 1, hq => simp at hq; subst hq; simp [Addr.add]
            case c2b => intro u hu; simp at hu; rcases hu with rfl | rfl <;> rfl
            case c3b => unfold maxLen; omega
            case c4b => omega
            case c5b => simp; omega
            intro v' w5 hown' hgrow hnil
            have HF := hid (show SrI w3 v' ((N.take (k + 1)).flatMap (toldBy L)) w5 by
              rw [HSn.out, HTo.out, ← HGl.out]
              exact HS4.out.snoc (by rw [← HDq.out]; exact hown') hgrow)
            have HFl := hid (show q + 1 = ((N.take (k + 1)).flatMap (toldBy L)).length by rw [HSn.out, HTo.out, List.length_append, ← HDq.out]; rfl)
            clear hown' hgrow hnil HO4 HS4 fN4
            go_wp2
            go_roundw
            case rel => exact ⟨k + 1, q + 1, by omega, by have := HQl.out; have := HFl.out; omega, by go_num, HFl.out, HF.out⟩
            case measure => simp [intOf]; omega
          | true =>
            have HTo := hid (show toldBy L X.data.toList = cooK L X.data.toList n by
              unfold toldBy cooK
              rw [if_pos (HSc.out.2 (by first | rfl | trivial)), List.take_of_length_le (by have := HN.out; omega)])
            go_wp2_with fail
            go_loopw [5, 9] (fun ov jv wr => ∃ (j p : Nat), j ≤ n ∧ p ≤ 1000 ∧ jv = .int .i64 j ∧ Hid (p = (D ++ cooK L X.data.toList j).length ∧ SrI w3 ov (D ++ cooK L X.data.toList j) wr)) (fun _ jv _ => n - (intOf jv).toNat)
            case atStart => exact ⟨0, q, Nat.zero_le _, hq, rfl, by rw [show cooK L X.data.toList 0 = [] from rfl, List.append_nil]; exact HR.out⟩
            case round =>
              obtain ⟨j, p, hj, hp, rfl, HJ⟩ := hrel
              by_cases hjn : j < n
              · have hjn' : (j : Int) < (n : Int) := by omega
                have hjL : j < L.length := by have := HN.out; omega
                obtain ⟨bL, oL, ea, g1, g2⟩ := V3.out j hjL
                subst ea
                obtain ⟨Y, hY⟩ : ∃ x : ByteArray, x = ⟨L[j].name.toArray⟩ := ⟨_, rfl⟩
                obtain ⟨U, hU⟩ : ∃ x : ByteArray, x = ⟨L[j].value.toArray⟩ := ⟨_, rfl⟩
                rw [← hY] at g1
                rw [← hU] at g2
                have hYs : Y.size ≤ 140737488351232 := by rw [hY, Lib.size_eq]; exact Nat.le_trans (HZ.out _ (List.getElem_mem hjL)).1 (by decide)
                have HCs := hid (coo_snoc L X.data.toList j hjL)
                have HPl := hid (show (D ++ cooK L X.data.toList (j + 1)).length ≤ 600 by
                  have h1 := coo_len L X.data.toList (j + 1)
                  have h2 := HQl.out
                  rw [HSn.out, List.length_append] at h2
                  rw [List.length_append]
                  omega)
                obtain ⟨is, his⟩ : ∃ b, isN X.data.toList L[j] = b := ⟨_, rfl⟩
                have HNd := hid (fun (Z : World) => named_any Y U X Z hYs (by omega))
                have hdc : decide (low Y.data.toList = low X.data.toList) = is := by rw [← his, isN, hY]; simp [Bool.beq_eq_decide_eq]
                rw [hdc] at HNd
                unfold hdVal at HNd
                rw [his] at HCs
                have HUl := hid (show U.data.toList = L[j].value by rw [hU])
                rw [← HUl.out] at HCs
                have HKF := hid (show ∀ Z, Below w3.heap.size w3 Z → Z.cell? ⟨bL, oL + j * 2, none⟩ = some (.string Y) ∧ Z.cell? ⟨bL, oL + j * 2 + 1, none⟩ = some (.string U) ∧ Z.cell? ⟨gN, oN + k, none⟩ = some (.string X) from fun Z hZ =>
                  ⟨(hZ.cell (World.block_lt_of_cell? w3 _ g1)).trans g1, (hZ.cell (World.block_lt_of_cell? w3 _ g2)).trans g2, HKn.out Z hZ⟩)
                have HQ0 := hid (show Below w3.heap.size w3 wr.drew from HJ.out.2.2.drew)
                clear hY hU g1 g2 hYs his hdc HUl
                go_upto_region 17 with fail
                refine wp_region_held_drew (S := (fun wx => Below w3.heap.size w3 wx)) (by kernel_rfl) HQ0.out (fun hHeld => ?_)
                refine wpAnyH_to (fuel' := 9) (listed' := #[false, false, false, false, false, false, false, false, false]) rfl rfl ?_
                refine' wpAnyH_take (i := 0) (oi := ⟨some 62, _, _, _, _, _⟩) (v := _) rfl (by kernel_rfl) (by kernel_rfl) (by kernel_rfl) (fun _ _ _ h => h) (Or.inl ⟨by kernel_rfl, ?hyra1⟩) (by assumption) ?restra1
                case hyra1 => (intro wx hSw; (try dsimp only at hSw); obtain ⟨f1, f2, f3⟩ := HKF.out _ hSw; go_simp; first | done | with_reducible rfl)
                (try simp only [Act.put, List.setIfInBounds_toArray, List.set_cons_zero, List.set_cons_succ])
                refine' wpAnyH_take (i := 1) (oi := ⟨some 63, _, _, _, _, _⟩) (v := _) rfl (by kernel_rfl) (by kernel_rfl) (by kernel_rfl) (fun _ _ _ h => h) (Or.inl ⟨by kernel_rfl, ?hyra2⟩) (by assumption) ?restra2
                case hyra2 => (intro wx hSw; (try dsimp only at hSw); obtain ⟨f1, f2, f3⟩ := HKF.out _ hSw; go_simp; first | done | with_reducible rfl)
                (try simp only [Act.put, List.setIfInBounds_toArray, List.set_cons_zero, List.set_cons_succ])
                refine' wpAnyH_take (i := 2) (oi := ⟨some 64, _, _, _, _, _⟩) (v := _) rfl (by kernel_rfl) (by kernel_rfl) (by kernel_rfl) (fun _ _ _ h => h) (Or.inl ⟨by kernel_rfl, ?hyra3⟩) (by assumption) ?restra3
                case hyra3 => (intro wx hSw; (try dsimp only at hSw); obtain ⟨f1, f2, f3⟩ := HKF.out _ hSw; go_simp; first | done | with_reducible rfl)
                (try simp only [Act.put, List.setIfInBounds_toArray, List.set_cons_zero, List.set_cons_succ])
                refine' wpAnyH_take (i := 3) (oi := ⟨some 65, _, _, _, _, _⟩) (v := _) rfl (by kernel_rfl) (by kernel_rfl) (by kernel_rfl) (fun _ _ _ h => h) (Or.inl ⟨by kernel_rfl, ?hyra4⟩) (by assumption) ?restra4
                case hyra4 => (intro wx hSw; (try dsimp only at hSw); obtain ⟨f1, f2, f3⟩ := HKF.out _ hSw; go_simp; first | done | with_reducible rfl)
                (try simp only [Act.put, List.setIfInBounds_toArray, List.set_cons_zero, List.set_cons_succ])
                refine' wpAnyH_take (i := 4) (oi := ⟨some 66, _, _, _, _, _⟩) (v := _) rfl (by kernel_rfl) (by kernel_rfl) (by kernel_rfl) (fun _ _ _ h => h) (Or.inl ⟨by kernel_rfl, ?hyra5⟩) (by assumption) ?restra5
                case hyra5 => (intro wx hSw; (try dsimp only at hSw); obtain ⟨f1, f2, f3⟩ := HKF.out _ hSw; go_simp; first | done | with_reducible rfl)
                (try simp only [Act.put, List.setIfInBounds_toArray, List.set_cons_zero, List.set_cons_succ])
                refine' wpAnyH_take (i := 5) (oi := ⟨some 67, _, _, _, _, _⟩) (v := _) rfl (by kernel_rfl) (by kernel_rfl) (by kernel_rfl) (fun _ _ _ h => h) (Or.inl ⟨by kernel_rfl, ?hyra6⟩) (by assumption) ?restra6
                case hyra6 => (intro wx hSw; (try dsimp only at hSw); obtain ⟨f1, f2, f3⟩ := HKF.out _ hSw; go_simp; first | done | with_reducible rfl)
                (try simp only [Act.put, List.setIfInBounds_toArray, List.set_cons_zero, List.set_cons_succ])
                refine' wpAnyH_take (i := 6) (oi := ⟨some 68, _, _, _, _, _⟩) (v := _) rfl (by kernel_rfl) (by kernel_rfl) (by kernel_rfl) (fun _ _ _ h => h) (Or.inl ⟨by kernel_rfl, ?hyra7⟩) (by assumption) ?restra7
                case hyra7 => (intro wx hSw; (try dsimp only at hSw); obtain ⟨f1, f2, f3⟩ := HKF.out _ hSw; go_simp; first | done | with_reducible rfl)
                (try simp only [Act.put, List.setIfInBounds_toArray, List.set_cons_zero, List.set_cons_succ])
                refine' wpAnyH_take (i := 7) (oi := ⟨some 69, _, _, _, _, _⟩) (v := _) rfl (by kernel_rfl) (by kernel_rfl) (by kernel_rfl) (fun _ _ _ h => h) (Or.inl ⟨by kernel_rfl, ?hyra8⟩) (by assumption) ?restra8
                case hyra8 => (intro wx hSw; (try dsimp only at hSw); obtain ⟨f1, f2, f3⟩ := HKF.out _ hSw; go_simp; first | done | with_reducible rfl)
                (try simp only [Act.put, List.setIfInBounds_toArray, List.set_cons_zero, List.set_cons_succ])
                refine wpAnyH_ready (rs := [8]) (by kernel_rfl) (by simp) ?_
                refine AllReadyH.cons rfl (fun K9 hK => ?_) AllReadyH.nil
                rw [if_pos (by kernel_rfl)]
                go_simp
                go_wp2_with (go_at_call 91; refine (HNd.out _).mono ?_; rintro e w6 ⟨rfl, hba⟩)
                have HS6 := hid (show SrI w3 u5 (D ++ cooK L X.data.toList j) w6 from ⟨own_same (show wr.drew.ownsRow w3.heap.size 38 2 u5 (D ++ cooK L X.data.toList j).length (cellsH (D ++ cooK L X.data.toList j)) from HJ.out.2.1) hba, HQ0.out.trans (hba.mono HJ.out.2.2.size)⟩)
                have HQ6 := hid HS6.out.2
                have HJp := hid HJ.out.1
                clear hba HJ
                refine hK.out _ _ HQ6.out (fun hHeld2 => ?_)
                clear hK K9 hHeld
                rename _ => hHeld
                refine wpAnyH_done (by kernel_rfl) ?_ _
                cases is with
                | false =>
                  have HE := hid (show cooK L X.data.toList (j + 1) = cooK L X.data.toList j by rw [HCs.out, if_neg (by decide), List.append_nil])
                  go_wp2_with fail
                  go_roundw
                  case rel => exact ⟨j + 1, p, by omega, hp, by go_num, by rw [HE.out]; exact ⟨HJp.out, HS6.out⟩⟩
                  case measure => simp [intOf]; omega
                | true =>
                  have HE := hid (show cooK L X.data.toList (j + 1) = cooK L X.data.toList j ++ [⟨X.data.toList, U.data.toList⟩] by rw [HCs.out, if_pos (by decide)])
                  have HQ0b := hid (show Below w3.heap.size w3 w6.drew from HQ6.out.drew)
                  go_upto_region 18 with fail
                  refine wp_region_held_drew (S := (fun wx => Below w3.heap.size w3 wx)) (by kernel_rfl) HQ0b.out (fun hHeld => ?_)
                  refine wpAnyH_to (fuel' := 14) (listed' := #[false, false, false, false, false, false, false, false, false, false, false, false, false, false]) rfl rfl ?_
                  refine' wpAnyH_take (i := 0) (oi := ⟨some 71, _, _, _, _, _⟩) (v := _) rfl (by kernel_rfl) (by kernel_rfl) (by kernel_rfl) (fun _ _ _ h => h) (Or.inl ⟨by kernel_rfl, ?hyrb1⟩) (by assumption) ?restrb1
                  case hyrb1 => (intro wx hSw; (try dsimp only at hSw); obtain ⟨f1, f2, f3⟩ := HKF.out _ hSw; go_simp; first | done | with_reducible rfl)
                  (try simp only [Act.put, List.setIfInBounds_toArray, List.set_cons_zero, List.set_cons_succ])
                  refine' wpAnyH_take (i := 1) (oi := ⟨some 72, _, _, _, _, _⟩) (v := _) rfl (by kernel_rfl) (by kernel_rfl) (by kernel_rfl) (fun _ _ _ h => h) (Or.inl ⟨by kernel_rfl, ?hyrb2⟩) (by assumption) ?restrb2
                  case hyrb2 => (intro wx hSw; (try dsimp only at hSw); obtain ⟨f1, f2, f3⟩ := HKF.out _ hSw; go_simp; first | done | with_reducible rfl)
                  (try simp only [Act.put, List.setIfInBounds_toArray, List.set_cons_zero, List.set_cons_succ])
                  refine' wpAnyH_take (i := 2) (oi := ⟨some 73, _, _, _, _, _⟩) (v := _) rfl (by kernel_rfl) (by kernel_rfl) (by kernel_rfl) (fun _ _ _ h => h) (Or.inl ⟨by kernel_rfl, ?hyrb3⟩) (by assumption) ?restrb3
                  case hyrb3 => (intro wx hSw; (try dsimp only at hSw); obtain ⟨f1, f2, f3⟩ := HKF.out _ hSw; go_simp; first | done | with_reducible rfl)
                  (try simp only [Act.put, List.setIfInBounds_toArray, List.set_cons_zero, List.set_cons_succ])
                  refine' wpAnyH_take (i := 3) (oi := ⟨some 74, _, _, _, _, _⟩) (v := _) rfl (by kernel_rfl) (by kernel_rfl) (by kernel_rfl) (fun _ _ _ h => h) (Or.inl ⟨by kernel_rfl, ?hyrb4⟩) (by assumption) ?restrb4
                  case hyrb4 => (intro wx hSw; (try dsimp only at hSw); obtain ⟨f1, f2, f3⟩ := HKF.out _ hSw; go_simp; first | done | with_reducible rfl)
                  (try simp only [Act.put, List.setIfInBounds_toArray, List.set_cons_zero, List.set_cons_succ])
                  refine' wpAnyH_take (i := 4) (oi := ⟨some 75, _, _, _, _, _⟩) (v := _) rfl (by kernel_rfl) (by kernel_rfl) (by kernel_rfl) (fun _ _ _ h => h) (Or.inl ⟨by kernel_rfl, ?hyrb5⟩) (by assumption) ?restrb5
                  case hyrb5 => (intro wx hSw; (try dsimp only at hSw); obtain ⟨f1, f2, f3⟩ := HKF.out _ hSw; go_simp; first | done | with_reducible rfl)
                  (try simp only [Act.put, List.setIfInBounds_toArray, List.set_cons_zero, List.set_cons_succ])
                  refine' wpAnyH_take (i := 5) (oi := ⟨some 76, _, _, _, _, _⟩) (v := _) rfl (by kernel_rfl) (by kernel_rfl) (by kernel_rfl) (fun _ _ _ h => h) (Or.inl ⟨by kernel_rfl, ?hyrb6⟩) (by assumption) ?restrb6
                  case hyrb6 => (intro wx hSw; (try dsimp only at hSw); obtain ⟨f1, f2, f3⟩ := HKF.out _ hSw; go_simp; first | done | with_reducible rfl)
                  (try simp only [Act.put, List.setIfInBounds_toArray, List.set_cons_zero, List.set_cons_succ])
                  refine' wpAnyH_take (i := 6) (oi := ⟨some 77, _, _, _, _, _⟩) (v := _) rfl (by kernel_rfl) (by kernel_rfl) (by kernel_rfl) (fun _ _ _ h => h) (Or.inl ⟨by kernel_rfl, ?hyrb7⟩) (by assumption) ?restrb7
                  case hyrb7 => (intro wx hSw; (try dsimp only at hSw); obtain ⟨f1, f2, f3⟩ := HKF.out _ hSw; go_simp; first | done | with_reducible rfl)
                  (try simp only [Act.put, List.setIfInBounds_toArray, List.set_cons_zero, List.set_cons_succ])
                  refine' wpAnyH_take (i := 7) (oi := ⟨some 78, _, _, _, _, _⟩) (v := _) rfl (by kernel_rfl) (by kernel_rfl) (by kernel_rfl) (fun _ _ _ h => h) (Or.inl ⟨by kernel_rfl, ?hyrb8⟩) (by assumption) ?restrb8
                  case hyrb8 => (intro wx hSw; (try dsimp only at hSw); obtain ⟨f1, f2, f3⟩ := HKF.out _ hSw; go_simp; first | done | with_reducible rfl)
                  (try simp only [Act.put, List.setIfInBounds_toArray, List.set_cons_zero, List.set_cons_succ])
                  refine' wpAnyH_take (i := 8) (oi := ⟨some 79, _, _, _, _, _⟩) (v := _) rfl (by kernel_rfl) (by kernel_rfl) (by kernel_rfl) (fun _ _ _ h => h) (Or.inl ⟨by kernel_rfl, ?hyrb9⟩) (by assumption) ?restrb9
                  case hyrb9 => (intro wx hSw; (try dsimp only at hSw); obtain ⟨f1, f2, f3⟩ := HKF.out _ hSw; go_simp; first | done | with_reducible rfl)
                  (try simp only [Act.put, List.setIfInBounds_toArray, List.set_cons_zero, List.set_cons_succ])
                  refine' wpAnyH_take (i := 9) (oi := ⟨some 80, _, _, _, _, _⟩) (v := _) rfl (by kernel_rfl) (by kernel_rfl) (by kernel_rfl) (fun _ _ _ h => h) (Or.inl ⟨by kernel_rfl, ?hyrb10⟩) (by assumption) ?restrb10
                  case hyrb10 => (intro wx hSw; (try dsimp only at hSw); obtain ⟨f1, f2, f3⟩ := HKF.out _ hSw; go_simp; first | done | with_reducible rfl)
                  (try simp only [Act.put, List.setIfInBounds_toArray, List.set_cons_zero, List.set_cons_succ])
                  refine' wpAnyH_take (i := 10) (oi := ⟨some 81, _, _, _, _, _⟩) (v := _) rfl (by kernel_rfl) (by kernel_rfl) (by kernel_rfl) (fun _ _ _ h => h) (Or.inl ⟨by kernel_rfl, ?hyrb11⟩) (by assumption) ?restrb11
                  case hyrb11 => (intro wx hSw; (try dsimp only at hSw); obtain ⟨f1, f2, f3⟩ := HKF.out _ hSw; go_simp; first | done | with_reducible rfl)
                  (try simp only [Act.put, List.setIfInBounds_toArray, List.set_cons_zero, List.set_cons_succ])
                  refine wpAnyH_ready (rs := [11]) (by kernel_rfl) (by simp) ?_
                  refine AllReadyH.cons rfl (fun K9 hK => ?_) AllReadyH.nil
                  rw [if_pos (by kernel_rfl)]
                  go_simp
                  have hbx := HQ0b.out.alloc HQ0b.out.size (.cells #[.string X, .string U] 38)
                  have HQ7 := hid hbx
                  have HO7 := hid (show (w6.drew.alloc (.cells #[.string X, .string U] 38)).ownsRow w3.heap.size 38 2 u5 p (cellsH (D ++ cooK L X.data.toList j)) by
                    have h := HS6.out.1
                    rw [← HJp.out] at h
                    exact (show w6.drew.ownsRow w3.heap.size 38 2 u5 p (cellsH (D ++ cooK L X.data.toList j)) from h).alloc _)
                  clear hbx
                  refine hK.out _ _ HQ7.out (fun hHeld2 => ?_)
                  clear hK K9 hHeld
                  rename _ => hHeld
                  refine wpAnyH_ready (rs := [12]) (by kernel_rfl) (by simp) ?_
                  refine AllReadyH.cons rfl (fun K9 hK => ?_) AllReadyH.nil
                  have hw6 := HQ6.out.size
                  refine step_append_own6 rfl (.tmp 71) (.tmp 82) 25 rfl w3.heap.size 38 j0 _ 2 32 Tryz.underlying25 ji jz0 jz1 jz2 rfl (by decide) _ p _ rfl HO7.out ⟨w6.heap.size, 0, none⟩ 1 1 [.string X, .string U] rfl rfl ?d1 ?d2 ?d3 ?d4 ?d5 ?_
                  case d1 =>
                    intro q u hq
                    rw [Addr.add_mid]
                    exact range_row6 (heap_alloc_new w6.drew _) q u hq
                  case d2 => intro u hu; simp at hu; rcases hu with rfl | rfl <;> rfl
                  case d3 => unfold maxLen; omega
                  case d4 => omega
                  case d5 => simp; omega
                  intro v' w8 hown' hgrow hnil
                  have HF := hid (show SrI w3 v' (D ++ cooK L X.data.toList (j + 1)) w8 by
                    rw [HE.out, ← List.append_assoc]
                    exact SrI.snoc (wr := w6.drew) (show SrI w3 u5 (D ++ cooK L X.data.toList j) w6.drew from ⟨HS6.out.1, HQ0b.out⟩) (by rw [← HJp.out]; exact hown') hgrow)
                  have HFl := hid (show p + 1 = (D ++ cooK L X.data.toList (j + 1)).length by rw [HE.out, ← List.append_assoc, List.length_append, ← HJp.out]; rfl)
                  clear hown' hgrow hnil
                  refine hK.out _ _ HF.out.2 (fun hHeld2 => ?_)
                  clear hK K9 hHeld
                  rename _ => hHeld
                  refine' wpAnyH_take (i := 13) (oi := ⟨some 5, _, _, _, _, _⟩) (v := _) rfl (by kernel_rfl) (by kernel_rfl) (by kernel_rfl) (fun _ _ _ h => h) (Or.inl ⟨by kernel_rfl, ?hyrb12⟩) (by assumption) ?restrb12
                  case hyrb12 => (intro wx hSw; (try dsimp only at hSw); obtain ⟨f1, f2, f3⟩ := HKF.out _ hSw; go_simp; first | done | with_reducible rfl)
                  (try simp only [Act.put, List.setIfInBounds_toArray, List.set_cons_zero, List.set_cons_succ])
                  refine wpAnyH_done (by kernel_rfl) ?_ _
                  go_wp2_with fail
                  go_roundw
                  case rel => exact ⟨j + 1, p + 1, by omega, by have := HPl.out; have := HFl.out; omega, by go_num, HFl.out, HF.out⟩
                  case measure => simp [intOf]; omega
              · have hjn' : decide ((j : Int) < (n : Int)) = false := by rw [decide_eq_false_iff_not]; omega
                have HF := hid (show SrI w3 u5 ((N.take (k + 1)).flatMap (toldBy L)) wr by
                  have h := HJ.out.2
                  obtain rfl : j = n := by omega
                  rw [HSn.out, HTo.out]
                  exact h)
                have HFl := hid (show p = ((N.take (k + 1)).flatMap (toldBy L)).length by
                  have h := HJ.out.1
                  obtain rfl : j = n := by omega
                  rw [HSn.out, HTo.out]
                  exact h)
                clear HJ
                go_wp2_with fail
                go_roundw
                case rel => exact ⟨k + 1, p, by omega, hp, by go_num, HFl.out, HF.out⟩
                case measure => simp [intOf]; omega
        · have hkm' : decide ((k : Int) < (m : Int)) = false := by rw [decide_eq_false_iff_not]; omega
          obtain rfl : k = m := by omega
          have HF := hid (show ∃ u, Ending.returned u5 = .returned u ∧ wr.ownsRow w.heap.size 38 2 u ((nmsN L).flatMap (toldBy L)).length (cellsH ((nmsN L).flatMap (toldBy L))) ∧ Below w.heap.size w wr by
            rw [HFi.out]
            exact ⟨_, rfl, ownsRow_lower6 HR.out.2.1 HB3.out.size, below26 HB3.out HR.out.2.2⟩)
          clear HR
          go_wp2_with fail
          go_ret
          exact HF.out

end Go.Proofs.YtgoefeaopegdoaaGreatDoor

namespace Go.Proofs.YtgoefeaopegdoaaGreatDoor
open Go.RowKit

theorem markL_len (mk : Hd) : (markL mk).length = 80 := by simp [markL]

theorem markL_at (mk : Hd) (j : Nat) (h : j < (markL mk).length) : (markL mk)[j] = mk := List.eq_of_mem_replicate (show (markL mk)[j] ∈ List.replicate 80 mk from List.getElem_mem h)

set_option maxHeartbeats 2000000 in
set_option maxRecDepth 100000 in
theorem intact_any (vf vw : Value) (L : List Hd) (nm vl : ByteArray) (w : World) (hf : HdAt w vf (L ++ markL ⟨nm.data.toList, vl.data.toList⟩)) (hw : HdAt w vw L) (hl : L.length ≤ 100000) :
  Calls Tryz.prog 56 #[vf, vw, hdVal nm vl] w fun e w' => e = .returned (.bool true) ∧ Below w.heap.size w w' := by
 obtain ⟨F, hF⟩ : ∃ F, F = L ++ markL ⟨nm.data.toList, vl.data.toList⟩ := ⟨_, rfl⟩
 rw [← hF] at hf
 have hFl : F.length = L.length + 80 := by rw [hF, List.length_append, markL_len]
 obtain ⟨a1, c1, rfl, hc1, hm1, hv1⟩ := hf.view
 obtain ⟨a2, c2, rfl, hc2, hm2, hv2⟩ := hw.view
 have htk : F.take L.length = L := by rw [hF]; simp
 have ht := hd_take hf L.length (by omega)
 rw [htk] at ht
 have HT := hid ht
 have HW := hid hw
 have V1 := hid hv1
 have HAt := hid (show ∀ j (hj : j < F.length), L.length ≤ j → F[j] = ⟨nm.data.toList, vl.data.toList⟩ by
  intro j hj hjl
  have : F[j] = (L ++ markL ⟨nm.data.toList, vl.data.toList⟩)[j]'(by rw [← hF]; exact hj) := by congr 1
  rw [this, List.getElem_append_right hjl, markL_at])
 clear hf hw hv1 hv2 ht htk hF
 obtain ⟨p, hp⟩ : ∃ p, p = F.length := ⟨_, rfl⟩
 have hlen : ((p : Int) == (L.length : Int) + 80) = true := by rw [beq_iff_eq]; omega
 have hle : (L.length : Int) ≤ (c1 : Int) := by omega
 have hps : p ≤ 1000000 := by omega
 have HPl := hid (show p = L.length + 80 by omega)
 rw [← hp]
 have HP := hid hp
 rw [← hp] at hc1
 clear hp hFl
 have hbx : Below w.heap.size w (w.alloc (.cells #[.string nm, .string vl] 38)) := belowA (Below.refl _ _) _
 have HBx := hid hbx
 have hsm := sameH_any _ _ L L _ (HT.out.kept hbx) (HW.out.kept hbx) (by omega) (by omega)
 rw [show decide (L = L) = true by simp] at hsm
 have HSame := hid hsm
 clear hsm
 clear hbx
 unfold hdVal
 go_enter Tryz.func56, Tryz.ntmps56
 go_wp2_with fail
 refine HSame.out.mono ?_
 rintro e w1 ⟨rfl, hb1⟩
 have hbw1 := belowT HBx.out hb1
 have g0 : w1.cell? ⟨w.heap.size, 0, none⟩ = some (.string nm) := (hb1.cell (p := ⟨w.heap.size, 0, none⟩) (by simp)).trans (by simp [go_sem])
 have g1 : w1.cell? ⟨w.heap.size, 1, none⟩ = some (.string vl) := (hb1.cell (p := ⟨w.heap.size, 1, none⟩) (by simp)).trans (by simp [go_sem])
 have hlt1 : w.heap.size < w1.heap.size := World.block_lt_of_cell? w1 _ g0
 have HB1 := hid hbw1
 have HG0 := hid g0
 have HG1 := hid g1
 clear hb1 hbw1 g0 g1
 go_wp2
 rotate_left
 ·exfalso
  have := HPl.out
  omega
 go_loopw [7] (fun i wr => ∃ k : Nat, L.length ≤ k ∧ k ≤ p ∧ i = .int .i64 k ∧ Below w1.heap.size w1 wr) (fun i _ => p - (intOf i).toNat)
 case atStart => exact ⟨L.length, Nat.le_refl _, by have := HPl.out; omega, rfl, Below.refl _ _⟩
 case round =>
  obtain ⟨k, hkl, hkp, rfl, hb⟩ := hrel
  by_cases hlt : k < p
  ·have hlt' : (k : Int) < (p : Int) := by omega
   obtain ⟨b1, o1, rfl, e1, e2⟩ := V1.out k (by have := HP.out; omega)
   have hbw := HB1.out.trans (hb.mono HB1.out.size)
   have hat := HAt.out k (by have := HP.out; omega) hkl
   have f1 : wr.cell? ⟨b1, o1 + k * 2, none⟩ = some (.string nm) := by
    rw [hbw.cell (World.block_lt_of_cell? w _ e1), e1, hat, ← xself nm]
   have f2 : wr.cell? ⟨b1, o1 + k * 2 + 1, none⟩ = some (.string vl) := by
    rw [hbw.cell (World.block_lt_of_cell? w _ e2), e2, hat, ← xself vl]
   have g0 : wr.cell? ⟨w.heap.size, 0, none⟩ = some (.string nm) := (hb.cell hlt1).trans HG0.out
   have g1 : wr.cell? ⟨w.heap.size, 1, none⟩ = some (.string vl) := (hb.cell hlt1).trans HG1.out
   clear e1 e2 hat
   go_wp2
   go_quiet (fail)
   go_wp2
   go_roundw
   case rel => exact ⟨k + 1, by omega, by omega, by go_num, Go.below_drewN hb _⟩
   case measure => simp [intOf]; omega
  ·go_wp2
   go_ret
   exact ⟨rfl, HB1.out.trans (hb.mono HB1.out.size)⟩

end Go.Proofs.YtgoefeaopegdoaaGreatDoor
