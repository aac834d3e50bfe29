/-
  Walks and plain facts that this claim leans on, put together out of 8 texts: Bkek, Bkeg, Bker, Bkeq, Bkea, Bkees, Bkeen, Bkei.
-/
import Derived.Test.YtgoefeaopegdoaaGreatDoorProg
import Derived.Test.YtgoefeaopegdoaaGreatDoorQx1
import Derived.Test.YtgoefeaopegdoaaGreatDoorQx2
import Derived.Test.YtgoefeaopegdoaaGreatDoorQx3
import Derived.Test.YtgoefeaopegdoaaGreatDoorQx4
import Derived.Test.YtgoefeaopegdoaaGreatDoorQx5
import Derived.Test.YtgoefeaopegdoaaGreatDoorQx6
import Derived.Test.YtgoefeaopegdoaaGreatDoorQx7
import Derived.Test.YtgoefeaopegdoaaGreatDoorQx8
import Derived.Test.YtgoefeaopegdoaaGreatDoorQx9
import Derived.Test.YtgoefeaopegdoaaGreatDoorQx10
import Derived.Test.YtgoefeaopegdoaaGreatDoorQx11
import Derived.Test.YtgoefeaopegdoaaGreatDoorQx12
import Derived.Test.YtgoefeaopegdoaaGreatDoorQx13
import Derived.Test.YtgoefeaopegdoaaGreatDoorQx14
import Derived.Test.YtgoefeaopegdoaaGreatDoorQx15
import Derived.Test.YtgoefeaopegdoaaGreatDoorQx16
import Derived.Test.YtgoefeaopegdoaaGreatDoorQx17
import Derived.Test.YtgoefeaopegdoaaGreatDoorQx18
import Derived.Test.YtgoefeaopegdoaaGreatDoorQx19
import Derived.Test.YtgoefeaopegdoaaGreatDoorQx20
import Derived.Test.YtgoefeaopegdoaaGreatDoorQx21
import Derived.Test.YtgoefeaopegdoaaGreatDoorQx22
import Derived.Test.YtgoefeaopegdoaaGreatDoorQx23
import Derived.Test.YtgoefeaopegdoaaGreatDoorQx24
import Derived.Test.YtgoefeaopegdoaaGreatDoorQx25
import Derived.Test.YtgoefeaopegdoaaGreatDoorQx26
import Derived.Test.YtgoefeaopegdoaaGreatDoorQx27
import Derived.Test.YtgoefeaopegdoaaGreatDoorQx28
import Derived.Test.YtgoefeaopegdoaaGreatDoorQx29
import Derived.Test.YtgoefeaopegdoaaGreatDoorQx30
import Derived.Test.YtgoefeaopegdoaaGreatDoorQj1
import Derived.Test.YtgoefeaopegdoaaGreatDoorQj2
import Derived.Deep.RegionLaw
import Derived.Deep.RegionHeld
import Derived.Deep.QuietTactic
import Derived.BigQuiet
import Derived.Laws.Runes
import Derived.WalkKit
import Derived.WalkSpells
import Derived.WalkLawsBesides
import Derived.Laws.CopyOwn
import Derived.Laws.ResultCell
import Derived.Deep.MidRow
import Derived.Lib.LaidTab
import Derived.Lib.SmallJoins
import Derived.Laws.BitsAll
import Derived.Lib.Strings
import Derived.Lib.UnsafeStr
import Derived.Laws.IdiomStrings
import Derived.Laws.AppendOwn
import Derived.Lib.BufferRead
import Derived.Lib.RuneBytes
import Derived.Laws.RangeAny
import Derived.Laws.OwnMore
import Derived.Below
import Derived.WalkSmall
import Derived.Lib.BufferMore
import Derived.Lib.FrozenHead2
import Derived.Lib.OthersKept
import Derived.Lib.Builder
import Derived.BigRegion
set_option linter.unusedSimpArgs false
set_option linter.unusedVariables false

namespace Go.Proofs.YtgoefeaopegdoaaGreatDoor
open Go.RowKit

def mk0e (_i _j : Nat) : ByteArray := ⟨#[109, 97, 114, 107]⟩

def mk1e (i j : Nat) : ByteArray := ⟨#[UInt8.ofNat (97 + i % 26), UInt8.ofNat (97 + j % 26)]⟩

theorem ence_low (n : Nat) (h : n < 128) : Utf8.encode (n : Int) = ⟨#[UInt8.ofNat n]⟩ := by
 have h2 : ∀ m : Fin 128, Utf8.encode (m.val : Int) = ⟨#[UInt8.ofNat m.val]⟩ := by decide +kernel
 exact h2 ⟨n, h⟩

theorem results_e15 {fn : Func} {p : Tmp} (h : fn.results = #[.cell p 38]) (tmps : Array Value) (w : World) (b : Nat) (v o : ByteArray) (hp : tmps.getD p undef = .pointer (some ⟨b, 0, none⟩)) (hc : w.rangeAt b 0 [.string v, .string o]) : (results fn tmps).run Tryz.prog w = .ok (.agg #[.string v, .string o]) w := by
 rw [Array.getD_eq_getD_getElem?] at hp
 simp only [results, h]
 simp [Sem.run_bind, Result.andThen, hp, asAddr, run_loadVar_mid w b 0 38 [.string v, .string o] _ hc Tryz.underlying38 rfl (by kernel_rfl)]

theorem range_e15 {w : World} {b : Nat} {x y : Value} (h : w.heap[b]? = some (.cells #[x, y] 38 (0, 0))) : w.rangeAt b 0 [x, y] := fun j u hu => by
 rw [Nat.zero_add, Lib.cell_of_heap h]
 match j, hu with
 | 0, hu => simpa using hu
 | 1, hu => simpa using hu
 | j + 2, hu => simp at hu

set_option maxHeartbeats 2000000 in
set_option maxRecDepth 100000 in
theorem marke_any (i j : Nat) (hi : i ≤ 201) (hj : j ≤ 9223372036854775807) (w : World) :
  Calls Tryz.prog 27 #[.int .i64 (i : Int), .int .i64 (j : Int)] w fun e w' => e = .returned (.agg #[.string (mk0e i j), .string (mk1e i j)]) ∧ Below w.heap.size w w' := by
 obtain ⟨a, ha⟩ : ∃ a, a = i % 26 := ⟨_, rfl⟩
 obtain ⟨b, hb⟩ : ∃ a, a = j % 26 := ⟨_, rfl⟩
 obtain ⟨I, hI⟩ : ∃ I : Int, I = (i : Int) := ⟨_, rfl⟩
 obtain ⟨J, hJ⟩ : ∃ I : Int, I = (j : Int) := ⟨_, rfl⟩
 obtain ⟨A, hA⟩ : ∃ A : ByteArray, A = ⟨#[UInt8.ofNat (97 + a)]⟩ := ⟨_, rfl⟩
 obtain ⟨C, hC⟩ : ∃ A : ByteArray, A = ⟨#[UInt8.ofNat (97 + b)]⟩ := ⟨_, rfl⟩
 have HE := hid (show A ++ C = mk1e i j by
  unfold mk1e
  rw [← ha, ← hb, hA, hC, ← Lib.mk_data (_ ++ _)]
  congr 2)
 have ha26 : a < 26 := by omega
 have hb26 : b < 26 := by omega
 have r1 : I.tmod 26 = (a : Int) := by rw [hI, ha]; exact Int.ofNat_tmod i 26
 have r2 : J.tmod 26 = (b : Int) := by rw [hJ, hb]; exact Int.ofNat_tmod j 26
 have e1 : Utf8.encode (97 + (a : Int)) = A := by rw [hA]; exact ence_low (97 + a) (by omega)
 have e2 : Utf8.encode (97 + (b : Int)) = C := by rw [hC]; exact ence_low (97 + b) (by omega)
 have s1 : A.size = 1 := by rw [hA]; rfl
 have s2 : C.size = 1 := by rw [hC]; rfl
 have hI0 : 0 ≤ I ∧ I ≤ 201 := by omega
 have hJ0 : 0 ≤ J ∧ J ≤ 9223372036854775807 := by omega
 rw [← hI, ← hJ]
 clear hI hJ hi hj ha hb hA hC
 go_enter Tryz.func27, Tryz.ntmps27
 go_wp2_with fail
 rw [← HE.out]
 exact bodyPost_ret (results_e15 rfl _ _ w.heap.size _ (A ++ C) rfl (range_e15 (heap_alloc_new w _))) rfl ⟨rfl, (Below.refl _ w).alloc (Nat.le_refl _) _⟩

end Go.Proofs.YtgoefeaopegdoaaGreatDoor

namespace Go.Proofs.YtgoefeaopegdoaaGreatDoor
open Go.RowKit

def RowMe (w : World) (B : Nat) (x : Value) (i t m : Nat) : Prop :=
 x = .slice none 0 0 ∨ ∃ g o n c cur, x = .slice (some ⟨g, o, none⟩) n c ∧ B ≤ g ∧ w.heap[g]? = some (Obj.cells cur 38 (0, 0)) ∧ n ≤ c ∧ c ≤ maxLen ∧ o + c * 2 ≤ cur.size ∧
  ∀ j, j < c → (i < t ∨ (i = t ∧ j < m)) → cur[o + j * 2]? = some (.string (mk0e i j)) ∧ cur[o + j * 2 + 1]? = some (.string (mk1e i j))

def Ave (w : World) (B p : Nat) (h : Int) (A : Value) (xs : List Value) (t m : Nat) : Prop :=
 (∃ Y, w.heap[p]? = some (Obj.cells #[A, Y, .int .i64 h, .bool false] 44 (0, 0))) ∧ SlV w B 25 A xs ∧ (∀ (i : Nat) (x : Value), xs[i]? = some x → RowMe w B x i t m) ∧ xs.Pairwise AptV

theorem RowMe.same {w w' : World} {B : Nat} {x : Value} {i t m : Nat} (h : RowMe w B x i t m) (hk : ∀ g, x.ownBlock = some g → w'.heap[g]? = w.heap[g]?) : RowMe w' B x i t m := by
 rcases h with h | ⟨g, o, n, c, cur, rfl, h1, h2, h3⟩
 ·exact .inl h
 ·exact .inr ⟨g, o, n, c, cur, rfl, h1, (hk g rfl).trans h2, h3⟩

theorem RowMe.lt {w : World} {B : Nat} {x : Value} {i t m : Nat} (h : RowMe w B x i t m) : ∀ g, x.ownBlock = some g → g < w.heap.size ∧ ∃ cur, w.heap[g]? = some (Obj.cells cur 38 (0, 0)) := by
 intro g' hg
 rcases h with rfl | ⟨g, o, n, c, cur, rfl, h1, h2, h3⟩
 ·simp [Value.ownBlock] at hg
 ·simp [Value.ownBlock] at hg
  subst hg
  exact ⟨(Array.getElem?_eq_some_iff.1 h2).1, cur, h2⟩

theorem Ave.below {w w' : World} {B p : Nat} {h : Int} {A : Value} {xs : List Value} {t m : Nat} (ha : Ave w B p h A xs t m) (hb : Below w.heap.size w w') : Ave w' B p h A xs t m := by
 obtain ⟨⟨Y, hp⟩, hA, hr, hpw⟩ := ha
 exact ⟨⟨Y, (hb.block p (Array.getElem?_eq_some_iff.1 hp).1).trans hp⟩, hA.same fun k hk => hb.block k (hA.lt k hk).2, fun i x hx => (hr i x hx).same fun g hg => hb.block g ((hr i x hx).lt g hg).1, hpw⟩

theorem Bke.av {w : World} {B p : Nat} {h : Int} {A Y : Value} {xs ys : List Value} (hb : Bke w B p h A Y xs ys) : Ave w B p h A xs 0 0 := by
 obtain ⟨h1, h2, h3, h4, h5, h6, h7, h8⟩ := hb
 refine ⟨⟨Y, h3⟩, h4, fun i x hx => ?_, h8⟩
 have hi := (List.getElem?_eq_some_iff.1 hx).1
 obtain ⟨n, L, _, hX, _⟩ := h7 i x (ys[i]'(by omega)) hx (by simp)
 rcases hX.2 with ⟨e, _⟩ | ⟨g, o, c, cur, e, hB, hg, hn, hm, hs, _⟩
 ·exact .inl e
 ·exact .inr ⟨g, o, _, c, cur, e, hB, hg, hn, hm, by omega, fun j _ hor => by omega⟩

theorem Ave.next {w : World} {B p : Nat} {h : Int} {A : Value} {xs : List Value} {t m : Nat} (ha : Ave w B p h A xs t m) (hm : ∀ g o n c, xs[t]? = some (.slice (some ⟨g, o, none⟩) n c) → c ≤ m) : Ave w B p h A xs (t + 1) 0 := by
 obtain ⟨hp, hA, hr, hpw⟩ := ha
 refine ⟨hp, hA, fun i x hx => ?_, hpw⟩
 rcases hr i x hx with h | ⟨g, o, n, c, cur, rfl, h1, h2, h3, h4, h5, h6⟩
 ·exact .inl h
 ·refine .inr ⟨g, o, n, c, cur, rfl, h1, h2, h3, h4, h5, fun j hj hor => h6 j hj ?_⟩
  by_cases hit : i = t
  ·subst hit
   have := hm g o n c hx
   exact .inr ⟨rfl, by omega⟩
  ·left; omega

theorem Ave.mark {w : World} {B p G O N C : Nat} {h : Int} {A : Value} {xs : List Value} {t m : Nat} (ha : Ave w B p h A xs t m) (ht : xs[t]? = some (.slice (some ⟨G, O, none⟩) N C)) (hm : m < C) :
  Ave ((w.setCell ⟨G, O + m * 2, none⟩ (.string (mk0e t m))).setCell ⟨G, O + m * 2 + 1, none⟩ (.string (mk1e t m))) B p h A xs t (m + 1) := by
 obtain ⟨⟨Y, hp⟩, hA, hr, hpw⟩ := ha
 have hoth : ∀ k, k ≠ G → ((w.setCell ⟨G, O + m * 2, none⟩ (.string (mk0e t m))).setCell ⟨G, O + m * 2 + 1, none⟩ (.string (mk1e t m))).heap[k]? = w.heap[k]? := fun k hk => by
  rw [heap_setCell_other _ ⟨G, O + m * 2 + 1, none⟩ k _ hk, heap_setCell_other _ ⟨G, O + m * 2, none⟩ k _ hk]
 rcases hr t _ ht with e | ⟨g, o, n, c, cur, e, h1, h2, h3, h4, h5, h6⟩
 ·cases e
 injection e with e1 e2 e3
 injection e1 with e1
 injection e1 with e1 e4
 subst e1 e2 e3 e4
 have k1 := Lib.heap_setCell_same h2 (i := O + m * 2) (.string (mk0e t m))
 have k2 := Lib.heap_setCell_same k1 (i := O + m * 2 + 1) (.string (mk1e t m))
 refine ⟨⟨Y, (hoth p (kind_nf hp h2 (by decide))).trans hp⟩, hA.same fun k hk => hoth k (fun e => hA.other h2 (by decide) (by rw [hk]; exact congrArg some e)), fun i x hx => ?_, hpw⟩
 by_cases hit : i = t
 ·subst hit
  rw [ht] at hx
  obtain rfl := Option.some.inj hx
  refine .inr ⟨G, O, N, C, _, rfl, h1, k2, h3, h4, by simpa using h5, fun j hj hor => ?_⟩
  by_cases hjm : j = m
  ·subst hjm
   have s0 : O + j * 2 < cur.size := by omega
   have s1 : O + j * 2 + 1 < cur.size := by omega
   refine ⟨?_, ?_⟩
   ·rw [Array.getElem?_setIfInBounds_ne (by omega)]; simp [s0]
   ·simp [s1]
  ·have := h6 j hj (.inr ⟨rfl, by omega⟩)
   refine ⟨?_, ?_⟩
   ·rw [Array.getElem?_setIfInBounds_ne (by omega), Array.getElem?_setIfInBounds_ne (by omega)]; exact this.1
   ·rw [Array.getElem?_setIfInBounds_ne (by omega), Array.getElem?_setIfInBounds_ne (by omega)]; exact this.2
 ·have hne : ∀ k, x.ownBlock = some k → k ≠ G := fun k hk e => by
   subst e
   have hil := (List.getElem?_eq_some_iff.1 hx)
   have htl := (List.getElem?_eq_some_iff.1 ht)
   obtain ⟨hi1, hi2⟩ := hil
   obtain ⟨ht1, ht2⟩ := htl
   rcases Nat.lt_or_gt_of_ne hit with hl | hl
   ·have := (List.pairwise_iff_getElem.1 hpw) i t hi1 ht1 hl
    rw [hi2, ht2] at this
    rcases this with h' | h'
    ·rw [hk] at h'; cases h'
    ·exact h' (by rw [hk]; rfl)
   ·have := (List.pairwise_iff_getElem.1 hpw) t i ht1 hi1 hl
    rw [hi2, ht2] at this
    rcases this with h' | h'
    ·cases h'
    ·exact h' (by rw [hk]; rfl)
  have hx' := (hr i x hx).same (w' := ((w.setCell ⟨G, O + m * 2, none⟩ (.string (mk0e t m))).setCell ⟨G, O + m * 2 + 1, none⟩ (.string (mk1e t m)))) fun g hg => hoth g (hne g hg)
  rcases hx' with h' | ⟨g, o, n, c, cur', e', h1', h2', h3', h4', h5', h6'⟩
  ·exact .inl h'
  ·exact .inr ⟨g, o, n, c, cur', e', h1', h2', h3', h4', h5', fun j hj hor => h6' j hj (by omega)⟩

theorem RowMe.three {w : World} {B G O N C i t m : Nat} (h : RowMe w B (.slice (some ⟨G, O, none⟩) N C) i t m) (j : Nat) (hj : j < C) : ∃ a0 a1, w.cell? ⟨G, O + j * 2, none⟩ = some a0 ∧ w.cell? ⟨G, O + j * 2 + 1, none⟩ = some a1 ∧ w.frozen? ⟨G, O + j * 2, none⟩ = false ∧ w.frozen? ⟨G, O + j * 2 + 1, none⟩ = false ∧ ((i < t ∨ (i = t ∧ j < m)) → a0 = .string (mk0e i j) ∧ a1 = .string (mk1e i j)) := by
 rcases h with e | ⟨g, o, n, c, cur, e, h1, h2, h3, h4, h5, h6⟩
 ·cases e
 injection e with e1 e2 e3
 injection e1 with e1
 injection e1 with e1 e4
 subst e1 e2 e3 e4
 have s0 : O + j * 2 < cur.size := by omega
 have s1 : O + j * 2 + 1 < cur.size := by omega
 refine ⟨cur[O + j * 2], cur[O + j * 2 + 1], ?_, ?_, Lib.frozen_of_heap h2 _, Lib.frozen_of_heap h2 _, fun hor => ?_⟩
 ·rw [Lib.cell_of_heap h2]; simp [s0]
 ·rw [Lib.cell_of_heap h2]; simp [s1]
 ·obtain ⟨a1, a2⟩ := h6 j hj hor
  rw [Array.getElem?_eq_getElem s0] at a1
  rw [Array.getElem?_eq_getElem s1] at a2
  exact ⟨Option.some.inj a1, Option.some.inj a2⟩

theorem slice_fulle (g o n c : Nat) (w : World) (hn : n ≤ c) : (Instr.sliceAt 25 (.slice (some ⟨g, o, none⟩) n c) none (some (.int .i64 (c : Int))) none).run Tryz.prog w = .ok (.slice (some ⟨g, o, none⟩) c c) w := by
 have und : Tryz.prog.underlying 25 = some (.slice (Tryz.prog.elem 25)) := by kernel_rfl
 have sz : (sizeOf (Tryz.prog.elem 25)).run Tryz.prog w = .ok 2 w := by kernel_rfl
 rw [run_sliceAt_slice (h := und), run_slice_h (ht := und) (h0 := by omega) (h2 := by omega), sz]
 simp only [Result.andThen, sliced, Int.toNat_natCast, Nat.zero_mul, Option.map_some, Nat.sub_zero, Addr.add_lit, Nat.add_zero, ite_self]

end Go.Proofs.YtgoefeaopegdoaaGreatDoor

namespace Go.Proofs.YtgoefeaopegdoaaGreatDoor
open Go.RowKit

noncomputable def arege : Code := (Tryz.f26.body.bind (regionOf 18)).getD .skip

set_option maxHeartbeats 4000000 in
set_option maxRecDepth 100000 in
theorem ateste (G O C i m : Nat) (M0 M1 : ByteArray) (wr : World) (K : Act → World → Prop) (t0 t2 t3 t4 t5 t6 t7 t11 t12 t13 t14 t15 t16 t17 t18 t19 t20 t21 t22 t23 t24 t25 t26 t27 t28 t29 t30 t31 t32 t33 t34 t35 t36 t37 t38 t39 t40 t41 t42 t43 t44 t45 t46 t47 t48 t49 t50 t51 t52 t53 t54 t55 t56 t57 t58 t59 t60 t61 t62 t63 t64 t65 t66 t67 t68 t69 t70 t71 t72 t73 t74 t75 t76 t77 t78 t79 t80 t81 t82 t83 t84 t85 t86 t87 t88 t89 t90 t91 t92 t93 t94 t95 t96 t97 t98 t99 t100 : Value) (hmI : (m : Int) < (C : Int)) (hC63 : C ≤ 9223372036854775807)
  (d0 : wr.cell? ⟨G, O + m * 2, none⟩ = some (.string M0)) (d1 : wr.cell? ⟨G, O + m * 2 + 1, none⟩ = some (.string M1))
  (HMK : Hid (∀ X, Calls Tryz.prog 27 #[.int .i64 (i : Int), .int .i64 (m : Int)] X fun e w' => e = .returned (.agg #[.string M0, .string M1]) ∧ Below X.heap.size X w'))
  (HK : Hid (∀ (u83 u84 u85 u86 u87 u88 u89 u90 : Value) (w2 : World), Below wr.heap.size wr w2 → K ⟨#[t0, .func (.func 27) #[] #[], t2, t3, t4, t5, t6, t7, .int .i64 (i : Int), .slice (some ⟨G, O, none⟩) C C, .int .i64 (m : Int), t11, t12, t13, t14, t15, t16, t17, t18, t19, t20, t21, t22, t23, t24, t25, t26, t27, t28, t29, t30, t31, t32, t33, t34, t35, t36, t37, t38, t39, t40, t41, t42, t43, t44, t45, t46, t47, t48, t49, t50, t51, t52, t53, t54, t55, t56, t57, t58, t59, t60, t61, t62, t63, t64, t65, t66, t67, t68, t69, t70, t71, t72, t73, t74, t75, t76, t77, t78, t79, t80, t81, t82, u83, u84, u85, u86, u87, u88, u89, u90, .bool false, t92, t93, t94, t95, t96, t97, t98, t99, t100], []⟩ w2)) :
  Code.wp Tryz.prog arege (Exit.then K fun _ _ _ => False) ⟨#[t0, .func (.func 27) #[] #[], t2, t3, t4, t5, t6, t7, .int .i64 (i : Int), .slice (some ⟨G, O, none⟩) C C, .int .i64 (m : Int), t11, t12, t13, t14, t15, t16, t17, t18, t19, t20, t21, t22, t23, t24, t25, t26, t27, t28, t29, t30, t31, t32, t33, t34, t35, t36, t37, t38, t39, t40, t41, t42, t43, t44, t45, t46, t47, t48, t49, t50, t51, t52, t53, t54, t55, t56, t57, t58, t59, t60, t61, t62, t63, t64, t65, t66, t67, t68, t69, t70, t71, t72, t73, t74, t75, t76, t77, t78, t79, t80, t81, t82, t83, t84, t85, t86, t87, t88, t89, t90, t91, t92, t93, t94, t95, t96, t97, t98, t99, t100], []⟩ wr := by
 have HK1 := hid (fun (X Y : World) (hb : Below X.heap.size X Y) (h0 : Below wr.heap.size wr X) => (show (fun wx : World => Below wr.heap.size wr wx ∧ wx.cell? ⟨G, O + m * 2, none⟩ = some (.string M0) ∧ wx.cell? ⟨G, O + m * 2 + 1, none⟩ = some (.string M1)) Y from let h := h0.trans (hb.mono h0.size); ⟨h, kept_cell d0 h, kept_cell d1 h⟩))
 have HK0 := hid (show (fun wx : World => Below wr.heap.size wr wx ∧ wx.cell? ⟨G, O + m * 2, none⟩ = some (.string M0) ∧ wx.cell? ⟨G, O + m * 2 + 1, none⟩ = some (.string M1)) wr.drew from let h := (Below.refl _ wr).drew; ⟨h, kept_cell d0 h, kept_cell d1 h⟩)
 conv => arg 2; whnf
 go_region_held (fun wx : World => Below wr.heap.size wr wx ∧ wx.cell? ⟨G, O + m * 2, none⟩ = some (.string M0) ∧ wx.cell? ⟨G, O + m * 2 + 1, none⟩ = some (.string M1))
  (first | exact HK0.out | exact HK1.out _ _ (by assumption) (by (try dsimp only at *); go_split_ands; assumption) | (go_split_ands; exact ⟨by assumption, by assumption, by assumption⟩))
  (first | (go_at_call 27; refine (HMK.out _).mono ?_; rintro e wa ⟨rfl, hba⟩))
 all_goals
  (try dsimp only at *)
  go_split_ands
  exact HK.out _ _ _ _ _ _ _ _ _ (by assumption)

end Go.Proofs.YtgoefeaopegdoaaGreatDoor

namespace Go.Proofs.YtgoefeaopegdoaaGreatDoor
open Go.RowKit

noncomputable def able : Code := ((Tryz.f26.body.map loopsOf).getD []).getD 2 .skip

set_option maxHeartbeats 4000000 in
set_option maxRecDepth 100000 in
theorem aloope (B p : Nat) (h : Int) (aA : Option Addr) (cA k : Nat) (xs : List Value) (w W : World) (K : Act → World → Prop) (t2 t3 t4 t5 t6 t7 t9 t10 t11 t12 t13 t14 t15 t16 t17 t18 t19 t20 t21 t22 t23 t24 t25 t26 t27 t28 t29 t30 t31 t32 t33 t34 t35 t36 t37 t38 t39 t40 t41 t42 t43 t44 t45 t46 t47 t48 t49 t50 t51 t52 t53 t54 t55 t56 t57 t58 t59 t60 t61 t62 t63 t64 t65 t66 t67 t68 t69 t70 t71 t72 t73 t74 t75 t76 t77 t78 t79 t80 t81 t82 t83 t84 t85 t86 t87 t88 t89 t90 t91 t92 t93 t94 t95 t96 t97 t98 t99 t100 : Value) (hn : k ≤ 201) (hcA : k ≤ cA) (hBw : B ≤ w.heap.size) (HNE : Hid (k = xs.length)) (HR : Hid (Ave W B p h (.slice aA k cA) xs k 0 ∧ Bt 38 p B w W))
  (HK : Hid (∀ (u2 u3 u4 u5 u6 u7 u8 u9 u10 u11 u12 u13 u14 u15 u16 u17 u18 u19 u20 u21 u22 u23 u24 u25 u26 u27 u28 u29 u30 u31 u32 u33 u34 u35 u36 u37 u38 u39 u40 u41 u42 u43 u44 u45 u46 u47 u48 u49 u50 u51 u52 u53 u54 u55 u56 u57 u58 u59 u60 u61 u62 u63 u64 u65 u66 u67 u68 u69 u70 u71 u72 u73 u74 u75 u76 u77 u78 u79 u80 u81 u82 u83 u84 u85 u86 u87 u88 u89 u90 u91 u92 u93 u94 u95 u96 u97 u98 u99 u100 : Value) (w2 : World), Ave w2 B p h (.slice aA k cA) xs k 0 → Bt 38 p B w w2 → K ⟨#[.pointer (some ⟨p, 0, none⟩), .func (.func 27) #[] #[], u2, u3, u4, u5, u6, u7, u8, u9, u10, u11, u12, u13, u14, u15, u16, u17, u18, u19, u20, u21, u22, u23, u24, u25, u26, u27, u28, u29, u30, u31, u32, u33, u34, u35, u36, u37, u38, u39, u40, u41, u42, u43, u44, u45, u46, u47, u48, u49, u50, u51, u52, u53, u54, u55, u56, u57, u58, u59, u60, u61, u62, u63, u64, u65, u66, u67, u68, u69, u70, u71, u72, u73, u74, u75, u76, u77, u78, u79, u80, u81, u82, u83, u84, u85, u86, u87, u88, u89, u90, u91, u92, u93, u94, u95, u96, u97, u98, u99, u100], []⟩ w2)) :
  Code.wp Tryz.prog (.loop able) (exit4b K) ⟨#[.pointer (some ⟨p, 0, none⟩), .func (.func 27) #[] #[], t2, t3, t4, t5, t6, t7, .int .i64 0, t9, t10, t11, t12, t13, t14, t15, t16, t17, t18, t19, t20, t21, t22, t23, t24, t25, t26, t27, t28, t29, t30, t31, t32, t33, t34, t35, t36, t37, t38, t39, t40, t41, t42, t43, t44, t45, t46, t47, t48, t49, t50, t51, t52, t53, t54, t55, t56, t57, t58, t59, t60, t61, t62, t63, t64, t65, t66, t67, t68, t69, t70, t71, t72, t73, t74, t75, t76, t77, t78, t79, t80, t81, t82, t83, t84, t85, t86, t87, t88, t89, t90, t91, t92, t93, t94, t95, t96, t97, t98, t99, t100], []⟩ W := by
 conv => arg 2; whnf
 conv => arg 2; arg 1; whnf
 conv => arg 4; dsimp only
 go_loopw [8] (fun v8 wq => ∃ i : Nat, i ≤ k ∧ v8 = .int .i64 i ∧ Hid (Ave wq B p h (.slice aA k cA) xs k 0 ∧ Bt 38 p B w wq)) (fun v8 _ => k - (intOf v8).toNat)
 case atStart => exact ⟨0, Nat.zero_le _, rfl, HR.out⟩
 case round =>
  clear HR
  obtain ⟨i, hi, rfl, HR⟩ := hrel
  have HP7 := hid HR.out.1.1
  obtain ⟨Y3, hp7⟩ := HP7.out
  have c0 := cell_of_heapE hp7 0 _ rfl
  by_cases hlt : i < k
  ·clear hp7 HP7
   have hin : (i : Int) < (k : Int) := by omega
   have hkx : i < xs.length := by have := HNE.out; omega
   obtain ⟨gA, oA, cA', eA, _, qA⟩ := HR.out.1.2.1.cell i hkx
   injection eA with eA1 eA2 eA3
   clear eA2 eA3
   subst eA1
   have HXK := hid (show xs[i]? = some xs[i] by simp [hkx])
   have hrow := HR.out.1.2.2.1 i xs[i] HXK.out
   generalize xs[i] = X at qA hrow HXK
   clear hkx
   rcases hrow with rfl | ⟨G, O, N, C, cur, rfl, hBG, _, hNC, hCM, _, _⟩
   ·have hcm : (0 : Int) ≤ 9223372036854775807 := by decide
    go_wp2_with fail
    go_quiet (fail)
    go_wp2_with fail
    go_loopw [10] (fun v wq => v = .int .i64 0 ∧ Hid (Ave wq B p h (.slice (some ⟨gA, oA, none⟩) k cA) xs k 0 ∧ Bt 38 p B w wq)) (fun _ _ => 0)
    case atStart => exact ⟨rfl, HR.out.1.below (below_drewN (Below.refl _ wr) _), HR.out.2.step (Nat.le_trans hBw HR.out.2.1.size) (below_drewN (Below.refl _ wr) _)⟩
    case round =>
     obtain ⟨rfl, HR2⟩ := hrel
     go_wp2_with fail
     go_roundw
     case rel =>
      first
       | exact ⟨i + 1, by omega, by go_num, HR2.out⟩
       | ((repeat apply Exists.intro); refine ⟨?_, rfl⟩; exact ⟨i + 1, by omega, by go_num, HR2.out⟩)
       | ((repeat apply Exists.intro); exact ⟨⟨i + 1, by omega, by go_num, HR2.out⟩, rfl⟩)
     case measure => simp [intOf]; omega
   ·have hsl : ∀ wx, (Instr.sliceAt 25 (.slice (some ⟨G, O, none⟩) N C) none (some (.int .i64 (C : Int))) none).run Tryz.prog wx = .ok (.slice (some ⟨G, O, none⟩) C C) wx := fun wx => slice_fulle G O N C wx hNC
    have HCM := hid hCM
    have hC63 : C ≤ 9223372036854775807 := by unfold maxLen at hCM; exact hCM
    clear hCM
    go_wp2_with fail
    go_quiet (fail)
    go_wp2_with fail
    clear qA c0 hsl
    go_loopw [10] (fun v7 wq => ∃ m : Nat, m ≤ C ∧ v7 = .int .i64 m ∧ Hid (Ave wq B p h (.slice (some ⟨gA, oA, none⟩) k cA) xs k 0 ∧ Bt 38 p B w wq)) (fun v7 _ => C - (intOf v7).toNat)
    case atStart => exact ⟨0, Nat.zero_le _, rfl, HR.out.1.below (below_drewN (Below.refl _ wr) _), HR.out.2.step (Nat.le_trans hBw HR.out.2.1.size) (below_drewN (Below.refl _ wr) _)⟩
    case round =>
     clear HR
     obtain ⟨m, hm, rfl, HR⟩ := hrel
     by_cases hmlt : m < C
     ·have hmI : (m : Int) < (C : Int) := by omega
      obtain ⟨x0, x1, d0, d1, _, _, hval⟩ := (HR.out.1.2.2.1 i _ HXK.out).three m hmlt
      obtain ⟨rfl, rfl⟩ := hval (.inl hlt)
      have HMK := hid (marke_any i m (by omega) (by omega))
      generalize mk0e i m = M0 at d0 HMK
      generalize mk1e i m = M1 at d1 HMK
      clear hval
      go_wp2_with fail
      refine wp_cut (ateste G O C i m M0 M1 wr _ _ _ _ _ _ _ _ _ _ _ _ _ _ _ _ _ _ _ _ _ _ _ _ _ _ _ _ _ _ _ _ _ _ _ _ _ _ _ _ _ _ _ _ _ _ _ _ _ _ _ _ _ _ _ _ _ _ _ _ _ _ _ _ _ _ _ _ _ _ _ _ _ _ _ _ _ _ _ _ _ _ _ _ _ _ _ _ _ _ _ _ _ _ _ _ _ _ hmI hC63 d0 d1 HMK ?_)
      intro v83 v84 v85 v86 v87 v88 v89 v90 w8 hb8
      all_goals
       have HR9 := hid (show Ave w8 B p h (.slice (some ⟨gA, oA, none⟩) k cA) xs k 0 ∧ Bt 38 p B w w8 from ⟨HR.out.1.below hb8, HR.out.2.step (Nat.le_trans hBw HR.out.2.1.size) hb8⟩)
       clear HR d0 d1 hb8
       go_wp2_with fail
       go_roundw
       case rel =>
        first
         | exact ⟨m + 1, by omega, by go_num, HR9.out⟩
         | ((repeat apply Exists.intro); refine ⟨?_, rfl⟩; exact ⟨m + 1, by omega, by go_num, HR9.out⟩)
         | ((repeat apply Exists.intro); exact ⟨⟨m + 1, by omega, by go_num, HR9.out⟩, rfl⟩)

       case measure => simp [intOf]; omega
     ·obtain rfl : m = C := by omega
      have hmI : ¬ ((m : Int) < (m : Int)) := by omega
      clear hm hmlt
      go_wp2_with fail
      go_roundw
      case rel =>
       first
        | exact ⟨i + 1, by omega, by go_num, HR.out⟩
        | ((repeat apply Exists.intro); refine ⟨?_, rfl⟩; exact ⟨i + 1, by omega, by go_num, HR.out⟩)
        | ((repeat apply Exists.intro); exact ⟨⟨i + 1, by omega, by go_num, HR.out⟩, rfl⟩)

      case measure => simp [intOf]; omega
  ·obtain rfl : i = k := by omega
   have hng : ¬ ((i : Int) < (i : Int)) := by omega
   clear hp7 HP7 hi hlt
   go_wp2_with fail
   exact HK.out _ _ _ _ _ _ _ _ _ _ _ _ _ _ _ _ _ _ _ _ _ _ _ _ _ _ _ _ _ _ _ _ _ _ _ _ _ _ _ _ _ _ _ _ _ _ _ _ _ _ _ _ _ _ _ _ _ _ _ _ _ _ _ _ _ _ _ _ _ _ _ _ _ _ _ _ _ _ _ _ _ _ _ _ _ _ _ _ _ _ _ _ _ _ _ _ _ _ _ _ HR.out.1 HR.out.2

end Go.Proofs.YtgoefeaopegdoaaGreatDoor

namespace Go.Proofs.YtgoefeaopegdoaaGreatDoor
open Go.RowKit

set_option maxHeartbeats 4000000 in
set_option maxRecDepth 100000 in
theorem aparte (B p : Nat) (h : Int) (A Y : Value) (xs ys : List Value) (w : World) (hbk : Bke w B p h A Y xs ys) (hn : xs.length ≤ 201) (hBw : B ≤ w.heap.size) :
  Calls Tryz.prog 26 #[.pointer (some ⟨p, 0, none⟩), .func (.func 27) #[] #[]] w fun e w' => e = .returned (.bool true) ∧ Bt 38 p B w w' := by
 have HBP := hid hbk.1
 have HST := hid (stayse B p h A Y xs ys w hbk hn)
 obtain ⟨aA, cA, rfl, hcA⟩ := hbk.2.2.2.1.form
 obtain ⟨n, hne⟩ : ∃ n, n = xs.length := ⟨_, rfl⟩
 have HNE := hid hne
 rw [← hne] at hn hcA HST
 clear hbk hne
 go_enter Tryz.func26, Tryz.ntmps26
 go_wp2_with fail
 refine HST.out.mono ?_
 rintro e w1 ⟨rfl, hbk1, hb1⟩
 have HAP := hid hbk1.av
 have HB1 := hid hb1
 clear hbk1 hb1 HST
 go_wp2_with fail
 go_loopw [5] (fun v5 wr => ∃ k : Nat, k ≤ n ∧ v5 = .int .i64 k ∧ Hid (Ave wr B p h (.slice aA n cA) xs k 0 ∧ Bt 38 p B w wr)) (fun v5 _ => n - (intOf v5).toNat)
 case atStart => exact ⟨0, Nat.zero_le _, rfl, HAP.out, HB1.out⟩
 case round =>
  clear HAP HB1
  obtain ⟨k, hk, rfl, HR⟩ := hrel
  obtain ⟨Y2, hp7⟩ := HR.out.1.1
  have c0 := cell_of_heapE hp7 0 _ rfl
  clear hp7
  by_cases hlt : k < n
  ·have hin : (k : Int) < (n : Int) := by omega
   have hkx : k < xs.length := by have := HNE.out; omega
   obtain ⟨gA, oA, cA', eA, _, qA⟩ := HR.out.1.2.1.cell k hkx
   injection eA with eA1 _ _
   subst eA1
   have HXK := hid (show xs[k]? = some xs[k] by simp [hkx])
   have hrow := HR.out.1.2.2.1 k xs[k] HXK.out
   generalize xs[k] = X at qA hrow HXK
   clear hkx
   rcases hrow with rfl | ⟨G, O, N, C, cur, rfl, hBG, _, hNC, hCM, _, _⟩
   ·have hcm : (0 : Int) ≤ 9223372036854775807 := by decide
    go_wp2_with fail
    go_quiet (fail)
    go_wp2_with fail
    go_loopw [7] (fun v wq => v = .int .i64 0 ∧ Hid (Ave wq B p h (.slice (some ⟨gA, oA, none⟩) n cA) xs k 0 ∧ Bt 38 p B w wq)) (fun _ _ => 0)
    case atStart => exact ⟨rfl, HR.out.1.below (below_drewN (Below.refl _ wr) _), HR.out.2.step (Nat.le_trans hBw HR.out.2.1.size) (below_drewN (Below.refl _ wr) _)⟩
    case round =>
     obtain ⟨rfl, HR2⟩ := hrel
     go_wp2_with fail
     go_roundw
     case rel =>
      first
       | exact ⟨k + 1, by omega, by go_num, HR2.out.1.next (fun g o n c hx => by rw [HXK.out] at hx; cases hx), HR2.out.2⟩
       | ((repeat apply Exists.intro); refine ⟨?_, rfl⟩; exact ⟨k + 1, by omega, by go_num, HR2.out.1.next (fun g o n c hx => by rw [HXK.out] at hx; cases hx), HR2.out.2⟩)
       | ((repeat apply Exists.intro); exact ⟨⟨k + 1, by omega, by go_num, HR2.out.1.next (fun g o n c hx => by rw [HXK.out] at hx; cases hx), HR2.out.2⟩, rfl⟩)
     case measure => simp [intOf]; omega
   ·have hsl : ∀ wx, (Instr.sliceAt 25 (.slice (some ⟨G, O, none⟩) N C) none (some (.int .i64 (C : Int))) none).run Tryz.prog wx = .ok (.slice (some ⟨G, O, none⟩) C C) wx := fun wx => slice_fulle G O N C wx hNC
    have HCM := hid hCM
    have hC63 : C ≤ 9223372036854775807 := by unfold maxLen at hCM; exact hCM
    clear hCM
    go_wp2_with fail
    go_quiet (fail)
    go_wp2_with fail
    clear qA c0 hsl
    go_loopw [7] (fun v7 wq => ∃ m : Nat, m ≤ C ∧ v7 = .int .i64 m ∧ Hid (Ave wq B p h (.slice (some ⟨gA, oA, none⟩) n cA) xs k m ∧ Bt 38 p B w wq)) (fun v7 _ => C - (intOf v7).toNat)
    case atStart => exact ⟨0, Nat.zero_le _, rfl, HR.out.1.below (below_drewN (Below.refl _ wr) _), HR.out.2.step (Nat.le_trans hBw HR.out.2.1.size) (below_drewN (Below.refl _ wr) _)⟩
    case round =>
     clear HR
     obtain ⟨m, hm, rfl, HR⟩ := hrel
     by_cases hmlt : m < C
     ·have hmI : (m : Int) < (C : Int) := by omega
      obtain ⟨M0, hM0⟩ : ∃ M, M = mk0e k m := ⟨_, rfl⟩
      obtain ⟨M1, hM1⟩ : ∃ M, M = mk1e k m := ⟨_, rfl⟩
      have HME0 := hid hM0
      have HME1 := hid hM1
      have HMK := hid (show ∀ X, Calls Tryz.prog 27 #[.int .i64 (k : Int), .int .i64 (m : Int)] X fun e w' => e = .returned (.agg #[.string M0, .string M1]) ∧ Below X.heap.size X w' from fun X => by rw [hM0, hM1]; exact marke_any k m (by omega) (by omega) X)
      clear hM0 hM1
      go_wp2_with fail
      refine (HMK.out _).mono ?_
      rintro e w8 ⟨rfl, hb8⟩
      have HA8 := hid (HR.out.1.below hb8)
      have HB8 := hid (HR.out.2.step (Nat.le_trans hBw HR.out.2.1.size) hb8)
      obtain ⟨x0, x1, d0, d1, f0, f1, _⟩ := (HA8.out.2.2.1 k _ HXK.out).three m hmlt
      have HG8 := hid (show ∃ cur, w8.heap[G]? = some (Obj.cells cur 38 (0, 0)) from ((HA8.out.2.2.1 k _ HXK.out).lt G rfl).2)
      clear hb8 HR
      go_wp2_with fail
      go_roundw
      case rel =>
       have e4 := HA8.out.mark HXK.out hmlt
       rw [← HME0.out, ← HME1.out] at e4
       obtain ⟨cur8, hG8⟩ := HG8.out
       first
        | exact ⟨m + 1, by omega, by go_num, e4, ((HB8.out.put hG8 hBG _ _).put (Lib.heap_setCell_same hG8 _) hBG _ _)⟩
        | ((repeat apply Exists.intro); refine ⟨?_, rfl⟩; exact ⟨m + 1, by omega, by go_num, e4, ((HB8.out.put hG8 hBG _ _).put (Lib.heap_setCell_same hG8 _) hBG _ _)⟩)
        | ((repeat apply Exists.intro); exact ⟨⟨m + 1, by omega, by go_num, e4, ((HB8.out.put hG8 hBG _ _).put (Lib.heap_setCell_same hG8 _) hBG _ _)⟩, rfl⟩)

      case measure => simp [intOf]; omega
     ·obtain rfl : m = C := by omega
      have hmI : ¬ ((m : Int) < (m : Int)) := by omega
      have HR9 := hid (show Ave wr B p h (.slice (some ⟨gA, oA, none⟩) n cA) xs (k + 1) 0 ∧ Bt 38 p B w wr from ⟨HR.out.1.next (fun g o n c hx => by rw [HXK.out] at hx; injection hx with hx; injection hx with _ _ e3; omega), HR.out.2⟩)
      clear HR hm hmlt
      go_wp2_with fail
      go_roundw
      case rel =>
       first
        | exact ⟨k + 1, by omega, by go_num, HR9.out⟩
        | ((repeat apply Exists.intro); refine ⟨?_, rfl⟩; exact ⟨k + 1, by omega, by go_num, HR9.out⟩)
        | ((repeat apply Exists.intro); exact ⟨⟨k + 1, by omega, by go_num, HR9.out⟩, rfl⟩)

      case measure => simp [intOf]; omega
  ·obtain rfl : k = n := by omega
   have hng : ¬ ((k : Int) < (k : Int)) := by omega
   clear hk hlt
   go_wp2_with fail
   clear c0
   refine wp_cut4b (aloope B p h aA cA k xs w _ _ _ _ _ _ _ _ _ _ _ _ _ _ _ _ _ _ _ _ _ _ _ _ _ _ _ _ _ _ _ _ _ _ _ _ _ _ _ _ _ _ _ _ _ _ _ _ _ _ _ _ _ _ _ _ _ _ _ _ _ _ _ _ _ _ _ _ _ _ _ _ _ _ _ _ _ _ _ _ _ _ _ _ _ _ _ _ _ _ _ _ _ _ _ _ _ _ _ _ hn hcA hBw HNE HR ?_)
   intro u2 u3 u4 u5 u6 u7 u8 u9 u10 u11 u12 u13 u14 u15 u16 u17 u18 u19 u20 u21 u22 u23 u24 u25 u26 u27 u28 u29 u30 u31 u32 u33 u34 u35 u36 u37 u38 u39 u40 u41 u42 u43 u44 u45 u46 u47 u48 u49 u50 u51 u52 u53 u54 u55 u56 u57 u58 u59 u60 u61 u62 u63 u64 u65 u66 u67 u68 u69 u70 u71 u72 u73 u74 u75 u76 u77 u78 u79 u80 u81 u82 u83 u84 u85 u86 u87 u88 u89 u90 u91 u92 u93 u94 u95 u96 u97 u98 u99 u100 w8 hav hbw
   obtain ⟨Y3, hp7⟩ := hav.1
   have c0 := cell_of_heapE hp7 0 _ rfl
   have f0 := Lib.frozen_of_heap hp7 0
   have f1 := Lib.frozen_of_heap hp7 1
   have f2 := Lib.frozen_of_heap hp7 2
   have c1 := cell_of_heapE hp7 1 _ rfl
   have c2 := cell_of_heapE hp7 2 _ rfl
   have HBW := hid hbw
   clear hp7 hav hbw
   go_wp2_with fail
   go_ret
   exact ⟨rfl, ((HBW.out.set HBP.out 0 _).set HBP.out 1 _).set HBP.out 2 _⟩

end Go.Proofs.YtgoefeaopegdoaaGreatDoor

namespace Go.Proofs.YtgoefeaopegdoaaGreatDoor
open Go.RowKit

set_option maxHeartbeats 4000000 in
set_option maxRecDepth 100000 in
theorem keepes (B p : Nat) (h : Int) (A Y : Value) (xs ys : List Value) (g o cap ln : Nat) (L : List ByteArray) (w : World) (hbk : Bke w B p h A Y xs ys) (hX : KpL 2 38 w B (Value.slice (some ⟨g, o, none⟩) ln cap) ln L) (hL : ln ≤ 1000) (hap : ∀ a ∈ xs, AptV a (Value.slice (some ⟨g, o, none⟩) ln cap)) (hn : xs.length ≤ 200) (hBw : B ≤ w.heap.size) :
  Calls Tryz.prog 25 #[.pointer (some ⟨p, 0, none⟩), Value.slice (some ⟨g, o, none⟩) ln cap] w fun e w' => e = .returned (.tuple #[]) ∧ KPe w' B p (xs ++ [Value.slice (some ⟨g, o, none⟩) ln cap]) ∧ Bt 25 p B w w' := by
 obtain ⟨i0, hi, hz0, hz1, hz2⟩ := info_parts infoLse
 obtain ⟨j0, ji, jz0, jz1, jz2⟩ := info_parts infoEe
 have HBK := hid hbk
 have HBP := hid hbk.1
 have hlt := hbk.lt
 have c0 : w.cell? ⟨p, 0, none⟩ = some A := cell_of_heapE hbk.2.2.1 0 _ rfl
 have HA := hid hbk.2.2.2.1
 have HX := hid hX
 have HLL := hid hL
 have HAP := hid hap
 have hXc : cap ≤ maxLen ∧ ln ≤ cap := by
  obtain ⟨_, c', e, h1, h2⟩ := hX.slice
  injection e with _ _ e3
  subst e3
  exact ⟨h2, h1⟩
 have hXl : L.length = ln * 2 := hX.1
 clear hX hL hap
 clear hbk
 go_enter Tryz.func25, Tryz.ntmps25
 go_wp2_with (at_builtin; refine wpList_append_slw _ rfl _ _ 42 rfl B 25 i0 (.slice none 0 0) Tryz.underlying42 hi hz0 hz1 hz2 rfl A xs rfl (HA.out.alloc0 _) ⟨w.heap.size, 0, none⟩ 1 (Value.slice (some ⟨g, o, none⟩) ln cap) rfl (by simp [Addr.add]) rfl (by omega) (by simp; omega) ?_)
 intro AA w2 hAA hgrow hwh
 obtain ⟨a1, k1, hAe, hk1⟩ := hAA.form
 subst hAe
 obtain ⟨N, hN⟩ : ∃ N, N = (xs ++ [Value.slice (some ⟨g, o, none⟩) ln cap]).length := ⟨_, rfl⟩
 have HN := hid hN
 rw [← hN] at hAA hwh hk1 ⊢
 obtain ⟨q1, q2, q3, q4, q5, q6, q7⟩ := add1e HBK.out hBw hAA hgrow (hwh.imp id fun ⟨k, e, hk⟩ => ⟨k, e, by first | omega | (simp at hk; omega)⟩)
 have d0 : w2.cell? ⟨p, 0, none⟩ = some A := cell_of_heapE q1 0 _ rfl
 have f0 : w2.frozen? ⟨p, 0, none⟩ = false := Lib.frozen_of_heap q1 0
 clear hAA hgrow hwh c0 q1 hN
 go_wp2_with fail
 obtain ⟨w3, hw3⟩ : ∃ w3, w3 = w2.setCell ⟨p, 0, none⟩ (.slice a1 N k1) := ⟨_, rfl⟩
 rw [← hw3] at q2 q3 q4 q6 q7 ⊢
 clear hw3 d0 f0
 have c1 : w3.cell? ⟨p, 1, none⟩ = some Y := cell_of_heapE q2 1 _ rfl
 have HQ2 := hid q2
 have HQ3 := hid q3
 have HQ4 := hid q4
 have HQ5 := hid q5
 have HQ6 := hid q6
 have HQ7 := hid q7
 have hBw3 : B ≤ w3.heap.size := Nat.le_trans hBw q7.1.size
 have hlt3 : p < w3.heap.size := (Array.getElem?_eq_some_iff.1 q2).1
 have HYL := hid (show ys.length = xs.length from HBK.out.2.1)
 have hyn : ys.length ≤ 200 := by have := HYL.out; omega
 have HX3 := hid (HQ6.out _ _ _ HX.out)
 have hxc3 : ∀ j u, (cS L)[j]? = some u → w3.cell? ((⟨g, o, none⟩ : Addr).add j) = some u := by
  intro j u hu
  rcases HX3.out.2 with ⟨e, _⟩ | ⟨g', o', c', cur, e, _, hg, _, _, _, h4⟩
  ·cases e
  ·injection e with e1 _ _
   injection e1 with e1
   injection e1 with e4 e5
   subst e4 e5
   obtain ⟨hj, rfl⟩ := List.getElem?_eq_some_iff.1 hu
   rw [cS_len] at hj
   rw [Addr.add_lit, Lib.cell_of_heap hg, h4 j hj]
   simp [cS]
 have hln : ln ≤ 1000 := HLL.out
 have HCL := hid (show (cS L).length = ln * 2 by rw [cS_len]; exact hXl)
 clear hXl
 clear q2 q3 q4 q5 q6 q7
 go_region_law (first | (refine step_append_own0 rfl (.const (.slice none 0 0)) (.tmp 19) 25 rfl B 38 j0 _ 2 32 Tryz.underlying25 ji jz0 jz1 jz2 rfl (by decide) (.slice none 0 0) 0 [] rfl (World.ownsRow_nil _ _ _ _) ⟨g, o, none⟩ ln cap (cS L) rfl (by exact HCL.out) (by exact hxc3) (by exact cS_one L) (by unfold maxLen; omega) (by omega) (by simp; omega) ?_; intro y w4 hy4 hgrow4 hnil4; obtain ⟨yo, yn, yc, rfl⟩ := ownsRow_slice hy4; have hy4' : KpL 2 38 w4 B (.slice yo yn yc) ln L := own_kp (by simpa using hy4); have hg4 : w3.grownBy w4 none := ⟨hgrow4.os, hgrow4.tape, hgrow4.output, hgrow4.size, hgrow4.block⟩; have hs4 := hgrow4.size; have hY4 := SlV.same HQ4.out (fun k hk => hgrow4.block k (HQ4.out.lt k hk).2 (by simp [Value.ownBlock])); have hp4 := (hgrow4.block p hlt3 (by simp [Value.ownBlock])).trans HQ2.out; have e4 := cell_of_heapE hp4 1 Y rfl; have e4b : (w4.alloc (.cells #[.slice yo yn yc] 25)).cell? ⟨p, 1, none⟩ = some Y := cell_of_heapE ((Lib.alloc_old w4 _ p (by simp at hs4; omega)).trans hp4) 1 Y rfl) | (refine step_append_slw rfl (.tmp 18) (.tmp 21) 42 rfl B 25 i0 (.slice none 0 0) Tryz.underlying42 hi hz0 hz1 hz2 rfl Y ys rfl (by exact hY4.alloc0 _) ⟨w4.heap.size, 0, none⟩ 1 (.slice yo yn yc) rfl (by simp [Addr.add]) rfl (by omega) (by simp at hs4 ⊢; omega) ?_; intro YY w5 hY5 hgrow5 hwh5; obtain ⟨a2, k2, hYe, hk2⟩ := hY5.form; rw [show (ys ++ [Value.slice yo yn yc]).length = ys.length + 1 by simp] at hYe; subst hYe; obtain ⟨r1, r2, r3, r4, r5, r6, r7, r8⟩ := add2e HBP.out HQ2.out HQ3.out HQ4.out HQ5.out hBw3 hg4 hy4' hY5 hgrow5 (hwh5.imp id fun ⟨k, e, hk⟩ => ⟨k, e, by first | omega | (simp at hk; omega)⟩); have e1 := cell_of_heapE r1 1 Y rfl; have f1 := Lib.frozen_of_heap r1 1))
 all_goals
  have HBK6 := hid (add3e HBK.out HX.out HLL.out HAP.out HQ6.out r6 r7 r2 r3 r4 r5)
  have HB6 := hid (HQ7.out.trans r8)
  obtain ⟨w6, hw6⟩ : ∃ w6, w6 = w5.setCell ⟨p, 1, none⟩ (.slice a2 (ys.length + 1) k2) := ⟨_, rfl⟩
  rw [← hw6] at HBK6 HB6 ⊢
  have c2 : w6.cell? ⟨p, 2, none⟩ = some (.int .i64 h) := cell_of_heapE HBK6.out.2.2.1 2 _ rfl
  have f2 : w6.frozen? ⟨p, 2, none⟩ = false := Lib.frozen_of_heap HBK6.out.2.2.1 2
  clear hw6 r1 r2 r3 r4 r5 r6 r7 r8 e1 f1 hY5 hgrow5 hwh5 hk2 hgrow4 hg4 hy4 hy4' hnil4 hs4 hY4 hp4 e4 e4b c1 hxc3 HQ2 HQ3 HQ4 HQ5 HQ6 HQ7 HX3
  go_wp2_with fail
  obtain ⟨H, hH⟩ : ∃ H, wrap64 (wrap64 (h + (cap : Int)) + 1) = H := ⟨_, rfl⟩
  rw [hH]
  clear hH
  have HBK7 := hid (HBK6.out.turn (heap_setCell_same w6 p 2 _ _ (.int .i64 H) HBK6.out.2.2.1) fun k _ hne => heap_setCell_other w6 ⟨p, 2, none⟩ k (.int .i64 H) hne)
  have HB7 := hid (HB6.out.set HBP.out 2 (.int .i64 H))
  obtain ⟨w7, hw7⟩ : ∃ w7, w7 = w6.setCell ⟨p, 2, none⟩ (.int .i64 H) := ⟨_, rfl⟩
  rw [← hw7] at HBK7 HB7 ⊢
  clear hw7 c2 f2 HBK6 HB6
  have HKP := hid (show KPe w7 B p (xs ++ [Value.slice (some ⟨g, o, none⟩) ln cap]) from ⟨H, _, _, _, _, 0, ⟨by simp, rfl⟩, HBK7.out⟩)
  clear HBK7
  refine wp_cut0 (kloope B p (xs ++ [Value.slice (some ⟨g, o, none⟩) ln cap]) w w7 _ _ _ _ _ _ _ _ _ _ _ _ _ _ _ _ _ _ _ _ _ _ _ _ _ _ _ _ _ _ _ _ _ _ _ _ _ _ _ _ _ _ _ _ _ _ _ _ _ _ _ _ _ _ _ _ _ _ _ _ _ _ _ _ _ _ _ _ _ _ _ _ _ _ _ _ _ _ _ _ _ _ _ _ _ _ _ _ _ _ _ _ _ _ _ _ _ _ _ _ _ _ _ _ _ _ _ _ _ _ _ _ (by simp; omega) HKP HBP HB7 ?_)
  intro u36 u37 u38 u39 u40 u41 u42 u43 u44 u45 u46 u47 u48 u49 u50 u51 u52 u53 u54 u55 u56 u57 u58 u59 u60 u61 u62 u63 u64 u65 u66 u67 u68 u69 u70 u71 u72 u73 u74 u75 u76 u77 u78 u79 u80 u81 u82 u83 u84 u85 u86 u87 u88 u89 u90 u91 u92 u93 u94 u95 u96 u97 u98 u99 u100 u101 u102 u103 u104 u105 u106 u107 u108 u109 u110 u111 w8 hkp hbw
  have HKP8 := hid hkp
  have HBW8 := hid hbw
  clear hkp hbw
  go_wp2_with fail
  go_end0
  exact ⟨rfl, HKP8.out, HBW8.out⟩

end Go.Proofs.YtgoefeaopegdoaaGreatDoor

namespace Go.Proofs.YtgoefeaopegdoaaGreatDoor
open Go.RowKit

set_option maxHeartbeats 4000000 in
set_option maxRecDepth 100000 in
theorem keepen (B p : Nat) (h : Int) (A Y : Value) (xs ys : List Value) (w : World) (hbk : Bke w B p h A Y xs ys) (hn : xs.length ≤ 200) (hBw : B ≤ w.heap.size) :
  Calls Tryz.prog 25 #[.pointer (some ⟨p, 0, none⟩), Value.slice none 0 0] w fun e w' => e = .returned (.tuple #[]) ∧ KPe w' B p (xs ++ [Value.slice none 0 0]) ∧ Bt 25 p B w w' := by
 obtain ⟨i0, hi, hz0, hz1, hz2⟩ := info_parts infoLse
 obtain ⟨j0, ji, jz0, jz1, jz2⟩ := info_parts infoEe
 have HBK := hid hbk
 have HBP := hid hbk.1
 have hlt := hbk.lt
 have c0 : w.cell? ⟨p, 0, none⟩ = some A := cell_of_heapE hbk.2.2.1 0 _ rfl
 have HA := hid hbk.2.2.2.1
 clear hbk
 go_enter Tryz.func25, Tryz.ntmps25
 go_wp2_with (at_builtin; refine wpList_append_slw _ rfl _ _ 42 rfl B 25 i0 (.slice none 0 0) Tryz.underlying42 hi hz0 hz1 hz2 rfl A xs rfl (HA.out.alloc0 _) ⟨w.heap.size, 0, none⟩ 1 (Value.slice none 0 0) rfl (by simp [Addr.add]) rfl (by omega) (by simp; omega) ?_)
 intro AA w2 hAA hgrow hwh
 obtain ⟨a1, k1, hAe, hk1⟩ := hAA.form
 subst hAe
 obtain ⟨N, hN⟩ : ∃ N, N = (xs ++ [Value.slice none 0 0]).length := ⟨_, rfl⟩
 have HN := hid hN
 rw [← hN] at hAA hwh hk1 ⊢
 obtain ⟨q1, q2, q3, q4, q5, q6, q7⟩ := add1e HBK.out hBw hAA hgrow (hwh.imp id fun ⟨k, e, hk⟩ => ⟨k, e, by first | omega | (simp at hk; omega)⟩)
 have d0 : w2.cell? ⟨p, 0, none⟩ = some A := cell_of_heapE q1 0 _ rfl
 have f0 : w2.frozen? ⟨p, 0, none⟩ = false := Lib.frozen_of_heap q1 0
 clear hAA hgrow hwh c0 q1 hN
 go_wp2_with fail
 obtain ⟨w3, hw3⟩ : ∃ w3, w3 = w2.setCell ⟨p, 0, none⟩ (.slice a1 N k1) := ⟨_, rfl⟩
 rw [← hw3] at q2 q3 q4 q6 q7 ⊢
 clear hw3 d0 f0
 have c1 : w3.cell? ⟨p, 1, none⟩ = some Y := cell_of_heapE q2 1 _ rfl
 have HQ2 := hid q2
 have HQ3 := hid q3
 have HQ4 := hid q4
 have HQ5 := hid q5
 have HQ6 := hid q6
 have HQ7 := hid q7
 have hBw3 : B ≤ w3.heap.size := Nat.le_trans hBw q7.1.size
 have hlt3 : p < w3.heap.size := (Array.getElem?_eq_some_iff.1 q2).1
 have HYL := hid (show ys.length = xs.length from HBK.out.2.1)
 have hyn : ys.length ≤ 200 := by have := HYL.out; omega
 clear q2 q3 q4 q5 q6 q7
 go_region_law (first | (refine step_append_slw rfl (.tmp 18) (.tmp 21) 42 rfl B 25 i0 (.slice none 0 0) Tryz.underlying42 hi hz0 hz1 hz2 rfl Y ys rfl (by exact HQ4.out.alloc0 _) ⟨w3.heap.size, 0, none⟩ 1 (.slice none 0 0) rfl (by simp [Addr.add]) rfl (by omega) (by simp; omega) ?_; intro YY w5 hY5 hgrow5 hwh5; obtain ⟨a2, k2, hYe, hk2⟩ := hY5.form; rw [show (ys ++ [Value.slice none 0 0]).length = ys.length + 1 by simp] at hYe; subst hYe; obtain ⟨r1, r2, r3, r4, r5, r6, r7, r8⟩ := add2e (w3 := w3) (w4 := w3) HBP.out HQ2.out HQ3.out HQ4.out HQ5.out hBw3 (World.grownBy.refl w3 none) (KpL.nil 2 38 w3 B) hY5 ⟨hgrow5.os, hgrow5.tape, hgrow5.output, hgrow5.size, hgrow5.block⟩ (hwh5.imp id fun ⟨k, e, hk⟩ => ⟨k, e, by first | omega | (simp at hk; omega)⟩); have e1 := cell_of_heapE r1 1 Y rfl; have f1 := Lib.frozen_of_heap r1 1))
 all_goals
  have HBK6 := hid (add3e (n := 0) (L := []) HBK.out (KpL.nil 2 38 w B) (by decide) (fun a _ => by unfold AptV; cases a.ownBlock with | none => exact .inl rfl | some k => exact .inr (by simp [Value.ownBlock])) HQ6.out r6 r7 r2 r3 r4 r5)
  have HB6 := hid (HQ7.out.trans r8)
  obtain ⟨w6, hw6⟩ : ∃ w6, w6 = w5.setCell ⟨p, 1, none⟩ (.slice a2 (ys.length + 1) k2) := ⟨_, rfl⟩
  rw [← hw6] at HBK6 HB6 ⊢
  have c2 : w6.cell? ⟨p, 2, none⟩ = some (.int .i64 h) := cell_of_heapE HBK6.out.2.2.1 2 _ rfl
  have f2 : w6.frozen? ⟨p, 2, none⟩ = false := Lib.frozen_of_heap HBK6.out.2.2.1 2
  clear hw6 r1 r2 r3 r4 r5 r6 r7 r8 e1 f1 hY5 hgrow5 hwh5 hk2 c1 HQ2 HQ3 HQ4 HQ5 HQ6 HQ7
  go_wp2_with fail
  obtain ⟨H, hH⟩ : ∃ H, wrap64 (wrap64 h + 1) = H := ⟨_, rfl⟩
  rw [hH]
  clear hH
  have HBK7 := hid (HBK6.out.turn (heap_setCell_same w6 p 2 _ _ (.int .i64 H) HBK6.out.2.2.1) fun k _ hne => heap_setCell_other w6 ⟨p, 2, none⟩ k (.int .i64 H) hne)
  have HB7 := hid (HB6.out.set HBP.out 2 (.int .i64 H))
  obtain ⟨w7, hw7⟩ : ∃ w7, w7 = w6.setCell ⟨p, 2, none⟩ (.int .i64 H) := ⟨_, rfl⟩
  rw [← hw7] at HBK7 HB7 ⊢
  clear hw7 c2 f2 HBK6 HB6
  have HKP := hid (show KPe w7 B p (xs ++ [Value.slice none 0 0]) from ⟨H, _, _, _, _, 0, ⟨by simp, rfl⟩, HBK7.out⟩)
  clear HBK7
  refine wp_cut0 (kloope B p (xs ++ [Value.slice none 0 0]) w w7 _ _ _ _ _ _ _ _ _ _ _ _ _ _ _ _ _ _ _ _ _ _ _ _ _ _ _ _ _ _ _ _ _ _ _ _ _ _ _ _ _ _ _ _ _ _ _ _ _ _ _ _ _ _ _ _ _ _ _ _ _ _ _ _ _ _ _ _ _ _ _ _ _ _ _ _ _ _ _ _ _ _ _ _ _ _ _ _ _ _ _ _ _ _ _ _ _ _ _ _ _ _ _ _ _ _ _ _ _ _ _ _ (by simp; omega) HKP HBP HB7 ?_)
  intro u36 u37 u38 u39 u40 u41 u42 u43 u44 u45 u46 u47 u48 u49 u50 u51 u52 u53 u54 u55 u56 u57 u58 u59 u60 u61 u62 u63 u64 u65 u66 u67 u68 u69 u70 u71 u72 u73 u74 u75 u76 u77 u78 u79 u80 u81 u82 u83 u84 u85 u86 u87 u88 u89 u90 u91 u92 u93 u94 u95 u96 u97 u98 u99 u100 u101 u102 u103 u104 u105 u106 u107 u108 u109 u110 u111 w8 hkp hbw
  have HKP8 := hid hkp
  have HBW8 := hid hbw
  clear hkp hbw
  go_wp2_with fail
  go_end0
  exact ⟨rfl, HKP8.out, HBW8.out⟩

end Go.Proofs.YtgoefeaopegdoaaGreatDoor

namespace Go.Proofs.YtgoefeaopegdoaaGreatDoor
open Go.RowKit

def KBe (w : World) (B p n : Nat) (S : Nat → Prop) : Prop := ∃ (h : Int) (A Y : Value) (xs ys : List Value), xs.length ≤ n ∧ (∀ a ∈ xs, ∀ g, a.ownBlock = some g → S g) ∧ Bke w B p h A Y xs ys

theorem KBe.below {w w' : World} {B p n : Nat} {S : Nat → Prop} (h : KBe w B p n S) (hb : Below w.heap.size w w') : KBe w' B p n S := by
 obtain ⟨h1, A, Y, xs, ys, hl, hs, hbk⟩ := h
 exact ⟨h1, A, Y, xs, ys, hl, hs, hbk.below hb⟩

theorem KBe.more {w : World} {B p n m : Nat} {S S' : Nat → Prop} (h : KBe w B p n S) (hm : n ≤ m) (hs : ∀ g, S g → S' g) : KBe w B p m S' := by
 obtain ⟨h1, A, Y, xs, ys, hl, hS, hbk⟩ := h
 exact ⟨h1, A, Y, xs, ys, by omega, fun a ha g hg => hs g (hS a ha g hg), hbk⟩

theorem KBe.apart {w w' : World} {B p n : Nat} {S : Nat → Prop} (h : KBe w B p n S) (hk : ∀ k cur U fz, w.heap[k]? = some (Obj.cells cur U fz) → (U = 38 ∨ U = 25 ∨ k = p) → w'.heap[k]? = w.heap[k]?) : KBe w' B p n S := by
 obtain ⟨h1, A, Y, xs, ys, hl, hS, hbk⟩ := h
 exact ⟨h1, A, Y, xs, ys, hl, hS, hbk.apart hk⟩

theorem keepe (B p n m : Nat) (S : Nat → Prop) (v : Value) (X : List ByteArray) (w : World) (hkb : KBe w B p n S) (hv : KpL 2 38 w B v m X) (hf : ∀ g, v.ownBlock = some g → ¬ S g) (hm : m ≤ 1000) (hn : n ≤ 200) (hBw : B ≤ w.heap.size) :
  Calls Tryz.prog 25 #[.pointer (some ⟨p, 0, none⟩), v] w fun e w' => e = .returned (.tuple #[]) ∧ KBe w' B p (n + 1) (fun g => S g ∨ v.ownBlock = some g) ∧ Bt 25 p B w w' := by
 obtain ⟨h, A, Y, xs, ys, hl, hS, hbk⟩ := hkb
 have hup : ∀ {w' : World}, KPe w' B p (xs ++ [v]) → KBe w' B p (n + 1) (fun g => S g ∨ v.ownBlock = some g) := by
  rintro w' ⟨h1, A', Y', zs, ys', k, ⟨hk, rfl⟩, hb⟩
  refine ⟨h1, A', Y', _, ys', by simp; omega, fun a ha g hg => ?_, hb⟩
  rcases List.mem_append.1 (List.mem_of_mem_drop ha) with ha | ha
  ·exact .inl (hS a ha g hg)
  ·rw [List.mem_singleton.1 ha] at hg
   exact .inr hg
 rcases hv.2 with ⟨rfl, hz⟩ | ⟨g, o, cap, cur, rfl, hg, _⟩
 ·refine (keepen B p h A Y xs ys w hbk (by omega) hBw).mono ?_
  rintro e w' ⟨rfl, hkp, hb'⟩
  exact ⟨rfl, hup hkp, hb'⟩
 ·refine (keepes B p h A Y xs ys g o cap m X w hbk hv hm (fun a ha => ?_) (by omega) hBw).mono ?_
  ·by_cases hna : a.ownBlock = none
   ·exact .inl hna
   ·right
    intro e
    exact hf g rfl (hS a ha g e)
  ·rintro e w' ⟨rfl, hkp, hb'⟩
   exact ⟨rfl, hup hkp, hb'⟩

theorem booke (w : World) (S : Nat → Prop) : KBe (w.alloc (.cells #[.slice none 0 0, .slice none 0 0, .int .i64 0, .bool false] 44)) w.heap.size w.heap.size 0 S :=
 ⟨0, .slice none 0 0, .slice none 0 0, [], [], Nat.le_refl _, fun a ha => by simp at ha, Nat.le_refl _, rfl, by (show (w.heap.push _)[w.heap.size]? = _; exact Array.getElem?_push_size), .inl ⟨rfl, rfl⟩, .inl ⟨rfl, rfl⟩, .inl rfl, fun i x y hx _ => by simp at hx, List.Pairwise.nil⟩

end Go.Proofs.YtgoefeaopegdoaaGreatDoor
