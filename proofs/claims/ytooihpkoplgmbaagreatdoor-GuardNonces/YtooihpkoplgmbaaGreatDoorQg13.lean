/- Walks and plain facts. -/
import Derived.Test.YtooihpkoplgmbaaGreatDoorQg12
set_option linter.unusedSimpArgs false
set_option linter.unusedVariables false
set_option maxHeartbeats 16000000
set_option maxRecDepth 100000

namespace Go.Proofs.YtooihpkoplgmbaaGreatDoor
open Go.RowKit
theorem bp_fwd {P : Program} {fn : Func} {R : Ending -> World -> Prop} {c : Code} (n : Nat) : ∀ e a w, bodyPost P fn R e a w -> exitFwd P c (bodyPost P fn R) n e a w := by
 intro e a w h
 cases e with
 | goto l => exact h.elim
 | normal => rw [exitFwd_normal]; exact h
 | exit i => rw [exitFwd_exit]; exact h
 | ret => rw [exitFwd_ret]; exact h
 | panic ch => rw [exitFwd_panic]; exact h
 | outgrown => cases n <;> exact h
theorem skip_le (l : List UInt8) : (skip47 l).length <= l.length := (List.dropWhile_suffix _).length_le
theorem hasP_len {l p : List UInt8} (h : Lib.hasPrefix l p = true) : p.length <= l.length := by
 have : p.isPrefixOf l = true := h
 rw [List.isPrefixOf_iff_prefix] at this
 exact this.length_le
theorem seg_start (r0 c X Y Z S : Code) (hc : Tryz.f190.body = some (.seq r0 (.scope c))) (hfq : findLabel c 2 = some (.seq .skip X)) (hfp : findLabel c 1 = some (.seq .skip Y)) (hfa : findLabel c 3 = some (.seq .skip Z)) (hf : findLabel c 0 = some (.seq .skip S)) (n : Nat) (t0 t1 t2 t3 t5 t7 t10 t11 t12 t13 t14 t15 t16 t17 t18 t19 t20 t21 t22 t23 t24 t25 t26 t27 t28 t29 t30 t31 t32 t33 t34 t35 t36 t37 t38 t39 t40 t41 t42 t43 t44 t45 t46 t47 t48 t49 t50 t51 t52 t53 t54 t55 t56 t57 t58 t59 t60 t61 t62 t63 t64 t65 t66 t67 t68 t69 t70 t71 t72 t73 t74 t75 t76 t77 t78 t79 t80 t81 t82 t83 t84 t85 t86 t87 t88 t89 t90 t91 t92 t93 t94 t95 t96 t97 t98 t99 t100 t101 t102 t103 t104 t105 t106 t107 t108 t109 t110 t111 t112 t113 t114 t115 t116 t117 t118 t119 t120 t121 t122 t123 t124 t125 t126 t127 t128 t129 t130 t131 t132 t133 t134 t135 t136 t137 t138 t139 t140 t141 t142 t143 t144 t145 t146 t147 t148 t149 t150 t151 t152 t153 t154 t155 t156 t157 t158 t159 t160 t161 t162 t163 t164 t165 t166 t167 t168 t169 t170 t171 t172 t173 t174 t175 t176 t177 t178 t179 t180 t181 t182 t183 t184 t185 t186 t187 t188 t189 t190 t191 t192 t193 t194 t195 t196 t197 t198 t199 t200 : Value) (w0 w : World) (rb ub : Nat) (u : Adr) (R : ByteArray)
  (hg0 : Gd w0) (h0 : Below w0.heap.size w0 w) (hr : AdrIn w rb Adr.zero (.slice none 0 0)) (hu : AdrIn w ub u (.slice none 0 0)) (hrb : w0.heap.size <= rb) (hrub : rb < ub) (hR : R.size <= 100000) :
  S.wp Tryz.prog (exitFwd Tryz.prog c (bodyPost Tryz.prog Tryz.f190 (ReadPost (startV u R.data.toList) w0)) (n + 1)) { tmps := #[t0, t1, t2, t3, .pointer (some ⟨rb, 0, none⟩), t5, .slice none 0 0, t7, .pointer (some ⟨ub, 0, none⟩), .string R, t10, t11, t12, t13, t14, t15, t16, t17, t18, t19, t20, t21, t22, t23, t24, t25, t26, t27, t28, t29, t30, t31, t32, t33, t34, t35, t36, t37, t38, t39, t40, t41, t42, t43, t44, t45, t46, t47, t48, t49, t50, t51, t52, t53, t54, t55, t56, t57, t58, t59, t60, t61, t62, t63, t64, t65, t66, t67, t68, t69, t70, t71, t72, t73, t74, t75, t76, t77, t78, t79, t80, t81, t82, t83, t84, t85, t86, t87, t88, t89, t90, t91, t92, t93, t94, t95, t96, t97, t98, t99, t100, t101, t102, t103, t104, t105, t106, t107, t108, t109, t110, t111, t112, t113, t114, t115, t116, t117, t118, t119, t120, t121, t122, t123, t124, t125, t126, t127, t128, t129, t130, t131, t132, t133, t134, t135, t136, t137, t138, t139, t140, t141, t142, t143, t144, t145, t146, t147, t148, t149, t150, t151, t152, t153, t154, t155, t156, t157, t158, t159, t160, t161, t162, t163, t164, t165, t166, t167, t168, t169, t170, t171, t172, t173, t174, t175, t176, t177, t178, t179, t180, t181, t182, t183, t184, t185, t186, t187, t188, t189, t190, t191, t192, t193, t194, t195, t196, t197, t198, t199, t200], defers := [] } w := by
 have HU := hid hu
 have HR := hid hr
 have H0 := hid h0
 have HG := hid hg0
 clear hu hr h0 hg0
 have HSQ := hid (@seg_query r0 c X hc hfq)
 have HSP := hid (@seg_path r0 c X Y hc hfq hfp)
 have HSA := hid (@seg_auth r0 c X Y Z hc hfq hfp hfa)
 have HFQ := hid hfq
 have HFP := hid hfp
 have HFA := hid hfa
 clear hfq hfp hfa
 have hc2 := hc
 clear hc
 generalize hQ : exitFwd Tryz.prog c (bodyPost Tryz.prog Tryz.f190 (ReadPost (startV u R.data.toList) w0)) (n + 1) = Q
 have HJ : Hid (∀ (l : Nat) (C : Code) a w, findLabel c l = some (.seq .skip C) -> C.wp Tryz.prog (bodyPost Tryz.prog Tryz.f190 (ReadPost (startV u R.data.toList) w0)) a w -> Q (.goto l) a w) := fun l C a w hl hw => by
  rw [<- hQ]
  exact exitFwd_goto _ hl (wp_skip_seq (wp_mono hw (bp_fwd n)))
 clear hQ
 unfold Tryz.f190 at hc2
 cases hc2
 simp only [findLabel] at hf
 simp at hf
 subst hf
 have hc0 := HU.out.cell 0 _ rfl
 obtain ⟨A, hA⟩ : ∃ A : ByteArray, A = ⟨(slashedV u.scheme R.data.toList).toArray⟩ := ⟨_, rfl⟩
 have hAl : A.data.toList = slashedV u.scheme R.data.toList := by rw [hA]
 have hAs : A.size <= 100000 := by rw [hA]; exact size_le (by rw [slashed_len]; exact Nat.le_refl _) hR
 have HSl : Hid (∀ w : World, Gd w -> Calls Tryz.prog 223 #[.string R, .string ⟨u.scheme.toArray⟩] w fun e w' => e = .returned (.string A) /\ Below w.heap.size w w') := fun w hg => by
  have := slashed_any R ⟨u.scheme.toArray⟩ w hg (by omega)
  rw [show (⟨u.scheme.toArray⟩ : ByteArray).data.toList = u.scheme from rfl, <- hA] at this
  exact this
 have HSpec : Hid (∀ w : World, Calls Tryz.prog 136 #[.string ⟨u.scheme.toArray⟩] w fun e w' => e = .returned (.bool (specV u.scheme)) /\ w = w') := fun w => special_any ⟨u.scheme.toArray⟩ w
 have HAl := hid hAl
 clear hA hAl
 go_wp2_with fail
 refine (HSl.out w (HG.out.kept H0.out)).mono ?_
 rintro e w1 ⟨rfl, hb1⟩
 have hu1 := HU.out.kept hb1
 have hc1 := hu1.cell 0 _ rfl
 have HU1 := hid hu1
 have HR1 := hid (HR.out.kept hb1)
 have HB1 := hid (below2 H0.out hb1)
 clear hu1 hb1 hc0
 go_wp2_with fail
 refine (HSpec.out w1).mono ?_
 rintro e w' ⟨rfl, rfl⟩
 by_cases hsp : specV u.scheme = true
 ·rw [hsp]
  have hAl2 := HAl.out
  rw [slashedV, if_pos hsp] at hAl2
  obtain ⟨T, hT⟩ : ∃ T : ByteArray, T = ⟨(skip47 A.data.toList).toArray⟩ := ⟨_, rfl⟩
  have hTs : T.size <= 100000 := by rw [hT]; exact size_le (skip_le _) hAs
  have HN := hid (show startV u R.data.toList = withAuth u T.data.toList by rw [startV, if_pos hsp, hT, hAl2])
  have HTr : Hid (∀ w : World, Calls Tryz.prog 224 #[.string A, .string ⟨#[47]⟩] w fun e w' => e = .returned (.string T) /\ w = w') := fun w => by
   have := Tryz.strings_TrimLeft_one A 47 (by decide) w
   rw [show Lib.trimLeftB A.data.toList 47 = skip47 A.data.toList from rfl, <- hT] at this
   exact this.mono fun e w' ⟨h, h'⟩ => ⟨h, h'.symm⟩
  clear hsp hAl2 hT
  go_wp2_with (go_at_call 224; refine (HTr.out _).mono ?_; rintro e w' ⟨rfl, rfl⟩)
  go_step3
  refine HJ.out _ _ _ _ HFA.out ?_
  rw [HN.out]
  apply HSA.out
  ·exact HG.out
  ·exact HB1.out
  ·exact HR1.out
  ·exact HU1.out
  ·exact hrb
  ·exact hrub
  ·exact hTs
 ·have hsp' : specV u.scheme = false := by simpa using hsp
  rw [hsp']
  have hAl2 := HAl.out
  rw [slashedV, hsp'] at hAl2
  have hAl3 : A.data.toList = R.data.toList := hAl2
  by_cases h2 : Lib.hasPrefix A.data.toList [47, 47] = true
  ·have hA2 : 2 <= A.size := by rw [Lib.size_eq]; exact hasP_len h2
   have hA2' : (2 : Int) <= (A.size : Int) := by omega
   obtain ⟨T, hT⟩ : ∃ T : ByteArray, T = A.extract 2 A.size := ⟨_, rfl⟩
   have hTs : T.size <= 100000 := by rw [hT]; simp <;> omega
   have HN := hid (show startV u R.data.toList = withAuth u T.data.toList by rw [startV, hsp', if_neg (by decide), <- hAl3, if_pos h2, hT, extract_drop])
   have HT := hid hT
   clear hsp hAl2 hAl3 hT
   go_wp2_with (go_at_call 195; refine (hasPrefix_any _ _ _).mono ?_; rintro e w' ⟨rfl, rfl⟩; rw [show (⟨#[47, 47]⟩ : ByteArray).data.toList = [47, 47] from rfl, h2])
   go_step3
   refine HJ.out _ _ _ _ HFA.out ?_
   rw [HN.out, <- HT.out]
   apply HSA.out
   ·exact HG.out
   ·exact HB1.out
   ·exact HR1.out
   ·exact HU1.out
   ·exact hrb
   ·exact hrub
   ·exact hTs
  ·have h2' : Lib.hasPrefix A.data.toList [47, 47] = false := by simpa using h2
   by_cases h1 : Lib.hasPrefix A.data.toList [47] = true
   ·have HN := hid (show startV u R.data.toList = .ok (withPath u [] A.data.toList) by rw [startV, hsp', if_neg (by decide), <- hAl3, if_neg h2, if_pos h1])
    clear hsp hAl2 hAl3 h2
    go_wp2_with (go_at_call 195; refine (hasPrefix_any _ _ _).mono ?_; rintro e w' ⟨rfl, rfl⟩; first | rw [show (⟨#[47, 47]⟩ : ByteArray).data.toList = [47, 47] from rfl, h2'] | rw [show (⟨#[47]⟩ : ByteArray).data.toList = [47] from rfl, h1])
    go_step3
    refine HJ.out _ _ _ _ HFP.out ?_
    rw [HN.out]
    apply HSP.out
    ·exact HG.out
    ·exact HB1.out
    ·exact HR1.out
    ·exact HU1.out
    ·exact hrb
    ·omega
    ·omega
    ·exact .inl ⟨rfl, rfl⟩
    ·simp
    ·exact hAs
   ·have h1' : Lib.hasPrefix A.data.toList [47] = false := by simpa using h1
    have hal := ahead_le [63] A.data.toList
    obtain ⟨P, hP⟩ : ∃ A' : ByteArray, A' = ⟨(aheadV [63] A.data.toList).1.toArray⟩ := ⟨_, rfl⟩
    obtain ⟨T, hT⟩ : ∃ A' : ByteArray, A' = ⟨(aheadV [63] A.data.toList).2.toArray⟩ := ⟨_, rfl⟩
    have hPs : P.size <= 100000 := by rw [hP]; exact size_le hal.1 hAs
    have hTs : T.size <= 100000 := by rw [hT]; exact size_le hal.2 hAs
    obtain ⟨D, hD⟩ : ∃ D : ByteArray, D = ⟨(pct 1 P.data.toList).toArray⟩ := ⟨_, rfl⟩
    have HCut : Hid (∀ w : World, Calls Tryz.prog 225 #[.string A, .string ⟨#[63]⟩] w fun e w' => e = .returned (.tuple #[.string P, .string T]) /\ Below w.heap.size w w') := fun w => by
     have := cutAhead1_any A w (by omega)
     rw [<- hP, <- hT] at this
     exact this
    have HPc : Hid (∀ w : World, Calls Tryz.prog 226 #[.string P, .int .i64 1] w fun e w' => e = .returned (.string D) /\ Below w.heap.size w w') := fun w => by
     have := percent_any P 1 w (by omega)
     rw [<- hD] at this
     exact this
    have HN := hid (show startV u R.data.toList = .ok (withQuery { u with opq := true, path := [D.data.toList] } T.data.toList) by rw [startV, hsp', if_neg (by decide), <- hAl3, if_neg h2, if_neg h1, hD, hP, hT])
    clear hsp hAl2 hAl3 h2 h1 hal hP hT hD
    go_wp2_with (go_at_call 195; refine (hasPrefix_any _ _ _).mono ?_; rintro e w' ⟨rfl, rfl⟩; first | rw [show (⟨#[47, 47]⟩ : ByteArray).data.toList = [47, 47] from rfl, h2'] | rw [show (⟨#[47]⟩ : ByteArray).data.toList = [47] from rfl, h1'])
    refine (HCut.out w1).mono ?_
    rintro e w2 ⟨rfl, hb2⟩
    have HU2 := hid (HU1.out.kept hb2)
    have HR2 := hid (HR1.out.kept hb2)
    have HB2 := hid (below2 HB1.out hb2)
    clear hb2
    go_wp2_with fail
    refine (HPc.out w2).mono ?_
    rintro e w3 ⟨rfl, hb3⟩
    have HU3 := hid (HU2.out.kept hb3)
    have HR3 := hid (HR2.out.kept hb3)
    have HB3 := hid (below2 HB2.out hb3)
    clear hb3
    have hb4 : Below w3.heap.size w3 (w3.alloc (.cells #[.string D] 9)) := (Below.refl _ w3).alloc (Nat.le_refl _) _
    have h4 := HU3.out.kept hb4
    have hc6 := h4.cell 6 _ rfl
    have hf6 := h4.frozen 6
    have hc7 := h4.cell 7 _ rfl
    have hf7 := h4.frozen 7
    have HU4 := hid h4
    have HR4 := hid (HR3.out.kept hb4)
    have HB4 := hid (below2 HB3.out hb4)
    have HO4 := hid (show (w3.alloc (.cells #[.string D] 9)).ownsRow w0.heap.size 9 1 (.slice (some ⟨w3.heap.size, 0, none⟩) 1 1) 1 (cellsS [D.data.toList]) from
     ⟨rfl, .inr ⟨w3.heap.size, 1, #[.string D], rfl, HB3.out.size, heap_alloc_new w3 _, Nat.le_refl _, by unfold maxLen; decide, rfl, rfl⟩⟩)
    clear h4 hb4
    go_wp2
    go_step3
    refine HJ.out _ _ _ _ HFQ.out ?_
    rw [HN.out]
    apply HSQ.out
    ·exact HG.out
    ·exact (HB4.out.setCell (p := ⟨ub, 6, none⟩) (show w0.heap.size <= ub by omega) _).setCell (p := ⟨ub, 7, none⟩) (show w0.heap.size <= ub by omega) _
    ·exact (HR4.out.set_other (by omega) 6 _).set_other (by omega) 7 _
    ·exact (HU4.out.set (v := { u with opq := true }) 6 _ rfl).set (v := { u with opq := true, path := [D.data.toList] }) (qv := .slice (some ⟨w3.heap.size, 0, none⟩) 1 1) 7 _ rfl
    ·exact hrb
    ·omega
    ·omega
    ·exact own_set (own_set HO4.out HU4.out 6 _) (HU4.out.set (v := { u with opq := true }) (qv := .slice none 0 0) 6 _ rfl) 7 _
    ·exact hTs
theorem begin_long (s : ByteArray) (w : World) (hs : 4096 < s.size) :
  Calls Tryz.prog 222 #[.string s] w fun e w' => e = .returned (.tuple #[adrVal Adr.zero (.slice none 0 0), .string ⟨#[]⟩, .int .i64 3]) /\ Below w.heap.size w w' := by
 have hs' : (4096 : Int) < (s.size : Int) := by omega
 have h0 : AdrIn (w.alloc (.cells (adrCells Adr.zero (.slice none 0 0)).toArray 31)) w.heap.size Adr.zero (.slice none 0 0) := heap_alloc_new w _
 have hb0 : Below w.heap.size w (w.alloc (.cells (adrCells Adr.zero (.slice none 0 0)).toArray 31)) := (Below.refl _ w).alloc (Nat.le_refl _) _
 have H0 := hid h0
 have HB0 := hid hb0
 clear h0 hb0
 go_enter Tryz.func222, Tryz.ntmps222
 go_wp2_with (refine wpList_store_mid rfl 31 (.tmp 2) (.tmp 13) rfl w.heap.size 0 (adrCells Adr.zero (.slice none 0 0)).toArray rfl rfl H0.out.there (sizeUa _ _) (all_oneCell_toArray (adrCells_one _ _ ⟨_, _, _, rfl⟩)) ?_)
 exact bodyPost_ret (results_u3 rfl _ _ w.heap.size Adr.zero (.slice none 0 0) rfl (range_row H0.out.store)) rfl ⟨rfl, below_setCells (Nat.le_refl _) _ _ _ HB0.out⟩
theorem begin_le (s : List UInt8) : (beginU s).2.length <= s.length := by
 have h1 := clean_le s
 have h2 := part_le 35 (cleanV s)
 have h3 : (cutS (part 35 (cleanV s)).1).2.length <= (part 35 (cleanV s)).1.length := by
  cases hb : ((part 58 (part 35 (cleanV s)).1).2.2 && schOk (part 58 (part 35 (cleanV s)).1).1)
  ·rw [cutS_none hb]; exact Nat.le_refl _
  ·rw [cutS_some hb]; exact (part_le 58 _).2
 have : (beginU s).2 = (cutS (part 35 (cleanV s)).1).2 := rfl
 rw [this]
 omega
theorem readV_long {s : List UInt8} {b : Option Adr} (h : 4096 < s.length) : readV s b = .error 3 := by unfold readV; rw [if_pos h]
theorem readV_bare {s : List UInt8} (h : ¬ 4096 < s.length) (h2 : (beginU s).1.scheme = []) : readV s none = .error 12 := by unfold readV; rw [if_neg h]; simp only; rw [if_pos h2]
theorem readV_full {s : List UInt8} (h : ¬ 4096 < s.length) (h2 : (beginU s).1.scheme ≠ []) : readV s none = startV (beginU s).1 (beginU s).2 := by unfold readV; rw [if_neg h]; simp only; rw [if_neg h2]
theorem read_parts : ∃ r0 c X Y Z S, Tryz.f190.body = some (.seq r0 (.scope c)) /\ findLabel c 2 = some (.seq .skip X) /\ findLabel c 1 = some (.seq .skip Y) /\ findLabel c 3 = some (.seq .skip Z) /\ findLabel c 0 = some (.seq .skip S) := ⟨_, _, _, _, _, _, rfl, rfl, rfl, rfl, rfl⟩
theorem read_nil (s : ByteArray) (w : World) (hg : Gd w) (hs : s.size <= 100000) :
  Calls Tryz.prog 190 #[.string s, .pointer none] w (ReadPost (readV s.data.toList none) w) := by
 have HG := hid hg
 clear hg
 have h0 : AdrIn (w.alloc (.cells (adrCells Adr.zero (.slice none 0 0)).toArray 31)) w.heap.size Adr.zero (.slice none 0 0) := heap_alloc_new w _
 have hb0 : Below w.heap.size w (w.alloc (.cells (adrCells Adr.zero (.slice none 0 0)).toArray 31)) := (Below.refl _ w).alloc (Nat.le_refl _) _
 have hz0 : (w.alloc (.cells (adrCells Adr.zero (.slice none 0 0)).toArray 31)).heap.size = w.heap.size + 1 := by simp
 have H0 := hid h0
 have HB0 := hid hb0
 have HZ0 := hid hz0
 clear h0 hb0 hz0
 obtain ⟨r0, c, X, Y, Z, S, hc, hfq, hfp, hfa, hfs⟩ := read_parts
 have HSt := hid (@seg_start r0 c X Y Z S hc hfq hfp hfa hfs 1)
 obtain ⟨Q, hQ⟩ : ∃ Q, Q = exitFwd Tryz.prog c (bodyPost Tryz.prog Tryz.f190 (ReadPost (readV s.data.toList none) w)) 3 := ⟨_, rfl⟩
 have HSc : Hid (∀ a w', c.wp Tryz.prog Q a w' -> (Code.scope c).wp Tryz.prog (bodyPost Tryz.prog Tryz.f190 (ReadPost (readV s.data.toList none) w)) a w') := fun a w' h => wp_scope_fwd 3 (by rw [<- hQ]; exact h)
 have HRet : Hid (∀ a w', bodyPost Tryz.prog Tryz.f190 (ReadPost (readV s.data.toList none) w) .ret a w' -> Q .ret a w') := fun a w' h => by rw [hQ, exitFwd_ret]; exact h
 have HJ0 : Hid (∀ a w', S.wp Tryz.prog (exitFwd Tryz.prog c (bodyPost Tryz.prog Tryz.f190 (ReadPost (readV s.data.toList none) w)) 2) a w' -> Q (.goto 0) a w') := fun a w' h => by rw [hQ]; exact exitFwd_goto _ hfs (wp_skip_seq h)
 clear hQ hfq hfp hfa hfs
 refine calls_of_wp Tryz.func190 hc ?_
 simp only [Tryz.ntmps190, List.size_toArray, List.length_cons, List.length_nil, Nat.reduceAdd, Nat.reduceSub, Array.replicate_succ, Array.replicate_zero, List.push_toArray, List.append_toArray, List.nil_append, List.cons_append]
 generalize hBP : bodyPost Tryz.prog Tryz.f190 (ReadPost (readV s.data.toList none) w) = BP at HSc HRet HJ0 ⊢
 have HBP := hid hBP
 clear hBP
 unfold Tryz.f190 at hc
 cases hc
 by_cases hlong : 4096 < s.size
 ·have HN := hid (readV_long (s := s.data.toList) (b := none) (by simpa using hlong))
  have HBeg := hid (fun w => begin_long s w hlong)
  clear hlong HSt HJ0
  go_wp2
  refine HSc.out _ _ ?_
  go_wp2_with fail
  refine (HBeg.out _).mono ?_
  rintro e w1 ⟨rfl, hb1⟩
  have HR1 := hid (H0.out.kept hb1)
  have HB1 := hid (HB0.out.trans (hb1.mono HB0.out.size))
  have hsz1 : w.heap.size + 1 <= w1.heap.size := by have := hb1.size; rw [World.size_alloc] at this; exact this
  have hth : (w1.alloc (.cells #[.string ⟨#[]⟩, .string ⟨#[]⟩, .string ⟨#[]⟩, .string ⟨#[]⟩, .bool false, .int .i64 0, .bool false, .slice none 0 0, .string ⟨#[]⟩, .string ⟨#[]⟩, .bool false, .bool false] 31)).there w1.heap.size 0 (adrCells Adr.zero (.slice none 0 0)).toArray.size := there_row (heap_alloc_new w1 _) (by decide)
  have hb2 : Below w.heap.size w ((w1.alloc (.cells #[.string ⟨#[]⟩, .string ⟨#[]⟩, .string ⟨#[]⟩, .string ⟨#[]⟩, .bool false, .int .i64 0, .bool false, .slice none 0 0, .string ⟨#[]⟩, .string ⟨#[]⟩, .bool false, .bool false] 31)).setCells w1.heap.size 0 (adrCells Adr.zero (.slice none 0 0))) := below_setCells (by omega) _ _ _ (below2 HB1.out ((Below.refl _ w1).alloc (Nat.le_refl _) _))
  have hr2 : AdrIn ((w1.alloc (.cells #[.string ⟨#[]⟩, .string ⟨#[]⟩, .string ⟨#[]⟩, .string ⟨#[]⟩, .bool false, .int .i64 0, .bool false, .slice none 0 0, .string ⟨#[]⟩, .string ⟨#[]⟩, .bool false, .bool false] 31)).setCells w1.heap.size 0 (adrCells Adr.zero (.slice none 0 0))) w.heap.size Adr.zero (.slice none 0 0) := by
   unfold AdrIn
   rw [setCells_other (by omega)]
   exact HR1.out.kept ((Below.refl _ w1).alloc (Nat.le_refl _) _)
  have hth2 : ((w1.alloc (.cells #[.string ⟨#[]⟩, .string ⟨#[]⟩, .string ⟨#[]⟩, .string ⟨#[]⟩, .bool false, .int .i64 0, .bool false, .slice none 0 0, .string ⟨#[]⟩, .string ⟨#[]⟩, .bool false, .bool false] 31)).setCells w1.heap.size 0 (adrCells Adr.zero (.slice none 0 0))).there w.heap.size 0 (adrCells Adr.zero (.slice none 0 0)).toArray.size := hr2.there
  have HR2 := hid hr2
  have HB2 := hid hb2
  clear hb1 hb2 hr2
  dsimp only
  go_wp2_with (first | refine wpList_store_mid rfl 31 (.tmp 8) (.tmp 14) rfl w1.heap.size 0 (adrCells Adr.zero (.slice none 0 0)).toArray ?h1 ?h2 ?h3 ?h4 ?h5 ?h6 | refine wpList_store_mid rfl 31 (.tmp 4) (.tmp 20) rfl w.heap.size 0 (adrCells Adr.zero (.slice none 0 0)).toArray ?k1 ?k2 ?k3 ?k4 ?k5 ?k6)
  case h1 => rfl
  case h2 => rfl
  case h4 => exact sizeUa _ _
  case h5 => exact all_oneCell_toArray (adrCells_one _ _ ⟨_, _, _, rfl⟩)
  case h3 => exact hth
  case k1 => rfl
  case k2 => rfl
  case k4 => exact sizeUa _ _
  case k5 => exact all_oneCell_toArray (adrCells_one _ _ ⟨_, _, _, rfl⟩)
  case k3 => exact hth2
  refine HRet.out _ _ ?_
  rw [<- HBP.out]
  refine bodyPost_ret (results_u2 rfl _ _ w.heap.size Adr.zero (.slice none 0 0) rfl (range_row HR2.out.store)) rfl ⟨.slice none 0 0, ?_, ?_, below_setCells (Nat.le_refl _) _ _ _ HB2.out⟩
  ·rw [HN.out]; rfl
  ·rw [HN.out]; exact own_nil _ _ _
 ·obtain ⟨U, Rl, hbu⟩ : ∃ U R, beginU s.data.toList = (U, R) := ⟨_, _, rfl⟩
  obtain ⟨R, hRd⟩ : ∃ R : ByteArray, R = ⟨Rl.toArray⟩ := ⟨_, rfl⟩
  have hRl : R.data.toList = Rl := by rw [hRd]
  have hRs : R.size <= 100000 := by
   have := begin_le s.data.toList
   rw [hbu] at this
   rw [Lib.size_eq, hRl]
   simp at this
   omega
  have HBeg : Hid (∀ w : World, Gd w -> Calls Tryz.prog 222 #[.string s] w fun e w' => e = .returned (.tuple #[adrVal U (.slice none 0 0), .string R, .int .i64 0]) /\ Below w.heap.size w w') := fun w hg => by
   have := begin_any s w hg (by omega)
   rw [hbu] at this
   rw [hRd]
   exact this
  have hnl : ¬ 4096 < s.data.toList.length := by simpa using hlong
  have HV : Hid ((U.scheme = [] -> readV s.data.toList none = .error 12) /\ (U.scheme ≠ [] -> readV s.data.toList none = startV U R.data.toList)) := ⟨fun h => readV_bare hnl (by rw [hbu]; exact h), fun h => by rw [readV_full hnl (by rw [hbu]; exact h), hbu, hRl]⟩
  clear hbu hRd hRl hlong hnl
  go_wp2
  refine HSc.out _ _ ?_
  go_wp2_with fail
  refine (HBeg.out _ (HG.out.kept HB0.out)).mono ?_
  rintro e w1 ⟨rfl, hb1⟩
  have HR1 := hid (H0.out.kept hb1)
  have HB1 := hid (HB0.out.trans (hb1.mono HB0.out.size))
  have hsz1 := hb1.size
  rw [HZ0.out] at hsz1
  have hN1 : AdrIn (w1.alloc (.cells #[.string ⟨#[]⟩, .string ⟨#[]⟩, .string ⟨#[]⟩, .string ⟨#[]⟩, .bool false, .int .i64 0, .bool false, .slice none 0 0, .string ⟨#[]⟩, .string ⟨#[]⟩, .bool false, .bool false] 31)) w1.heap.size Adr.zero (.slice none 0 0) := heap_alloc_new w1 _
  have hb12 : Below w1.heap.size w1 (w1.alloc (.cells #[.string ⟨#[]⟩, .string ⟨#[]⟩, .string ⟨#[]⟩, .string ⟨#[]⟩, .bool false, .int .i64 0, .bool false, .slice none 0 0, .string ⟨#[]⟩, .string ⟨#[]⟩, .bool false, .bool false] 31)) := (Below.refl _ w1).alloc (Nat.le_refl _) _
  have HN1 := hid hN1
  have HB12 := hid hb12
  clear hb1 hN1 hb12
  dsimp only
  have hth : (w1.alloc (.cells #[.string ⟨#[]⟩, .string ⟨#[]⟩, .string ⟨#[]⟩, .string ⟨#[]⟩, .bool false, .int .i64 0, .bool false, .slice none 0 0, .string ⟨#[]⟩, .string ⟨#[]⟩, .bool false, .bool false] 31)).there w1.heap.size 0 (adrCells U (.slice none 0 0)).toArray.size := HN1.out.there
  go_wp2_with (refine wpList_store_mid rfl 31 (.tmp 8) (.tmp 14) rfl w1.heap.size 0 (adrCells U (.slice none 0 0)).toArray ?p1 ?p2 ?p3 ?p4 ?p5 ?p6)
  case p1 => rfl
  case p2 => rfl
  case p4 => exact sizeUa _ _
  case p5 => exact all_oneCell_toArray (adrCells_one _ _ ⟨_, _, _, rfl⟩)
  case p3 => exact hth
  clear hth
  have hu2 : AdrIn ((w1.alloc (.cells #[.string ⟨#[]⟩, .string ⟨#[]⟩, .string ⟨#[]⟩, .string ⟨#[]⟩, .bool false, .int .i64 0, .bool false, .slice none 0 0, .string ⟨#[]⟩, .string ⟨#[]⟩, .bool false, .bool false] 31)).setCells w1.heap.size 0 (adrCells U (.slice none 0 0))) w1.heap.size U (.slice none 0 0) := HN1.out.store
  have hr2 : AdrIn ((w1.alloc (.cells #[.string ⟨#[]⟩, .string ⟨#[]⟩, .string ⟨#[]⟩, .string ⟨#[]⟩, .bool false, .int .i64 0, .bool false, .slice none 0 0, .string ⟨#[]⟩, .string ⟨#[]⟩, .bool false, .bool false] 31)).setCells w1.heap.size 0 (adrCells U (.slice none 0 0))) w.heap.size Adr.zero (.slice none 0 0) := by
   unfold AdrIn
   rw [setCells_other (by omega)]
   exact HR1.out.kept HB12.out
  have hb2 : Below w.heap.size w ((w1.alloc (.cells #[.string ⟨#[]⟩, .string ⟨#[]⟩, .string ⟨#[]⟩, .string ⟨#[]⟩, .bool false, .int .i64 0, .bool false, .slice none 0 0, .string ⟨#[]⟩, .string ⟨#[]⟩, .bool false, .bool false] 31)).setCells w1.heap.size 0 (adrCells U (.slice none 0 0))) := below_setCells (by omega) _ _ _ (below2 HB1.out HB12.out)
  generalize ((w1.alloc (.cells #[.string ⟨#[]⟩, .string ⟨#[]⟩, .string ⟨#[]⟩, .string ⟨#[]⟩, .bool false, .int .i64 0, .bool false, .slice none 0 0, .string ⟨#[]⟩, .string ⟨#[]⟩, .bool false, .bool false] 31)).setCells w1.heap.size 0 (adrCells U (.slice none 0 0))) = w2 at hu2 hr2 hb2 ⊢
  obtain ⟨SC, hSC⟩ : ∃ SC : ByteArray, SC = ⟨U.scheme.toArray⟩ := ⟨_, rfl⟩
  have hc0 : w2.cell? ⟨w1.heap.size, 0, none⟩ = some (.string SC) := by rw [hSC]; exact hu2.cell 0 _ rfl
  have HU2 := hid hu2
  have HR2 := hid hr2
  have HB2 := hid hb2
  clear hu2 hr2 hb2 HN1 HB12
  by_cases hsc : U.scheme = []
  ·have he := empty_yes SC (by rw [hSC]; exact hsc)
   have HN := hid (HV.out.1 hsc)
   clear hsc hSC
   have hth2 : w2.drew.there w.heap.size 0 (adrCells Adr.zero (.slice none 0 0)).toArray.size := HR2.out.there
   have HR3 := hid (show AdrIn w2.drew w.heap.size Adr.zero (.slice none 0 0) from HR2.out)
   have HB3 := hid HB2.out.drew
   go_region
   go_wp2_with (refine wpList_store_mid rfl 31 (.tmp 4) (.tmp 56) rfl w.heap.size 0 (adrCells Adr.zero (.slice none 0 0)).toArray ?q1 ?q2 ?q3 ?q4 ?q5 ?q6)
   case q1 => rfl
   case q2 => rfl
   case q4 => exact sizeUa _ _
   case q5 => exact all_oneCell_toArray (adrCells_one _ _ ⟨_, _, _, rfl⟩)
   case q3 => exact hth2
   refine HRet.out _ _ ?_
   rw [<- HBP.out]
   refine bodyPost_ret (results_u2 rfl _ _ w.heap.size Adr.zero (.slice none 0 0) rfl (range_row HR3.out.store)) rfl ⟨.slice none 0 0, ?_, ?_, below_setCells (Nat.le_refl _) _ _ _ HB3.out⟩
   ·rw [HN.out]; rfl
   ·rw [HN.out]; exact own_nil _ _ _
  ·have he := empty_no SC (by rw [hSC]; exact hsc)
   have HN := hid (HV.out.2 hsc)
   clear hsc hSC
   have HU3 := hid (show AdrIn w2.drew w1.heap.size U (.slice none 0 0) from HU2.out)
   have HR3 := hid (show AdrIn w2.drew w.heap.size Adr.zero (.slice none 0 0) from HR2.out)
   have HB3 := hid HB2.out.drew
   go_region
   go_wp2
   go_step3
   refine HJ0.out _ _ ?_
   rw [<- HBP.out, HN.out]
   apply HSt.out
   ·exact HG.out
   ·exact HB3.out
   ·exact HR3.out
   ·exact HU3.out
   ·exact Nat.le_refl _
   ·omega
   ·exact hRs
theorem uparse_any (s : ByteArray) (w : World) (hg : Gd w) (hs : s.size <= 100000) :
  Calls Tryz.prog 168 #[.string s] w (ReadPost (readV s.data.toList none) w) := by
 have HG := hid hg
 clear hg
 have h0 : AdrIn (w.alloc (.cells (adrCells Adr.zero (.slice none 0 0)).toArray 31)) w.heap.size Adr.zero (.slice none 0 0) := heap_alloc_new w _
 have hb0 : Below w.heap.size w (w.alloc (.cells (adrCells Adr.zero (.slice none 0 0)).toArray 31)) := (Below.refl _ w).alloc (Nat.le_refl _) _
 have H0 := hid h0
 have HB0 := hid hb0
 clear h0 hb0
 generalize hr : readV s.data.toList none = r
 have HRd := hid (fun (w : World) (hg : Gd w) => read_nil s w hg hs)
 rw [hr] at HRd
 go_enter Tryz.func168, Tryz.ntmps168
 go_wp2_with fail
 refine (HRd.out _ (HG.out.kept HB0.out)).mono ?_
 rintro e w1 ⟨pv, rfl, hown, hb1⟩
 have h1 := H0.out.kept hb1
 have HB1 := hid (HB0.out.trans (hb1.mono HB0.out.size))
 have HO1 := hid (ownsRow_lower hown HB0.out.size)
 have hsl := own_sl hown
 have hth : w1.there w.heap.size 0 (adrCells (adrOf r) pv).toArray.size := h1.there
 have H1 := hid h1
 clear h1 hb1 hown
 go_wp2_with (refine wpList_store_mid rfl 31 (.tmp 2) (.tmp 6) rfl w.heap.size 0 (adrCells (adrOf r) pv).toArray ?h1 ?h2 ?h3 ?h4 ?h5 ?h6)
 case h1 => rfl
 case h2 => rfl
 case h4 => exact sizeUa _ _
 case h5 => exact all_oneCell_toArray (adrCells_one _ _ hsl)
 case h3 => exact hth
 exact bodyPost_ret (results_u2 rfl _ _ w.heap.size (adrOf r) pv rfl (range_row H1.out.store)) rfl ⟨pv, rfl, own_cells HO1.out H1.out _ _, below_setCells (Nat.le_refl _) _ _ _ HB1.out⟩
theorem itoaP_any (p : Int) (w : World) (hg : Gd w) (h0 : 0 <= p) (h1 : p <= 65535) :
  Calls Tryz.prog 140 #[.int .i64 p] w fun e w' => e = .returned (.string ⟨(portT p).toArray⟩) /\ Below w.heap.size w w' := by
 refine (Tryz.strconv_Itoa p (by omega) (by omega) w hg.2.1).mono ?_
 rintro e w' ⟨rfl, k, os, rfl⟩
 exact ⟨by rw [portT_itoa p h0 h1], Lib.below_grow _ _ (Nat.le_refl _) _ _⟩
theorem deciN_le : ∀ (f n : Nat) (acc : List UInt8), (deciN f n acc).length <= f + acc.length
 | 0, n, acc => by rw [deciN]; omega
 | f + 1, n, acc => by
  rw [deciN]
  split
  ·simp; omega
  ·have := deciN_le f (n / 10) (UInt8.ofNat (48 + n % 10) :: acc)
   rw [List.length_cons] at this
   omega
theorem portT_le (p : Int) : (⟨(portT p).toArray⟩ : ByteArray).size <= 100 := by
 rw [Lib.size_eq]
 have := deciN_le 6 p.toNat []
 simp at this
 show (portT p).length <= 100
 unfold portT
 omega
theorem authorityText_any (u : Adr) (pv : Value) (w : World) (hg : Gd w) (hp : u.port = -1 ∨ (0 <= u.port /\ u.port <= 65535)) (hl : u.user.length <= 1000000 /\ u.pass.length <= 1000000 /\ u.host.length <= 1000000) (hsl : IsSl pv) :
  Calls Tryz.prog 138 #[adrVal u pv] w fun e w' => e = .returned (.string ⟨(authT u).toArray⟩) /\ Below w.heap.size w w' := by
 have HG := hid hg
 clear hg
 obtain ⟨sc, us, ps, ho, hh, po, op, pa, qu, fr, hq, hf⟩ := u
 obtain ⟨a0, n0, c0, rfl⟩ := hsl
 obtain ⟨l1, l2, l3⟩ := hl
 simp only at hp l1 l2 l3
 obtain ⟨US, rfl⟩ : ∃ X : ByteArray, us = X.data.toList := ⟨⟨us.toArray⟩, rfl⟩
 obtain ⟨PS, rfl⟩ : ∃ X : ByteArray, ps = X.data.toList := ⟨⟨ps.toArray⟩, rfl⟩
 obtain ⟨HO, rfl⟩ : ∃ X : ByteArray, ho = X.data.toList := ⟨⟨ho.toArray⟩, rfl⟩
 have s1 : US.size <= 1000000 := by rw [Lib.size_eq]; exact l1
 have s2 : PS.size <= 1000000 := by rw [Lib.size_eq]; exact l2
 have s3 : HO.size <= 1000000 := by rw [Lib.size_eq]; exact l3
 clear l1 l2 l3
 have hbx : Below w.heap.size w (w.alloc (.cells (adrCells ⟨sc, US.data.toList, PS.data.toList, HO.data.toList, hh, po, op, pa, qu, fr, hq, hf⟩ (.slice a0 n0 c0)).toArray 31)) := (Below.refl _ w).alloc (Nat.le_refl _) _
 have HBx := hid hbx
 clear hbx
 unfold adrVal adrCells
 cases hh with
 | false =>
  go_enter Tryz.func138, Tryz.ntmps138
  go_wp2
  go_ret
  exact ⟨rfl, HBx.out⟩
 | true =>
  by_cases h1 : US.data.toList = []
  ·have q1 : (ByteArray.mk US.data).toList.isEmpty = true := empty_yes US h1
   by_cases h2 : PS.data.toList = []
   ·have q2 : (ByteArray.mk PS.data).toList.isEmpty = true := empty_yes PS h2
    have H1 := hid h1
    have H2 := hid h2
    clear h1 h2
    rcases hp with rfl | ⟨hp0, hp1⟩
    ·go_enter Tryz.func138, Tryz.ntmps138
     go_wp2
     go_ret
     refine ⟨ret_str' ?_, HBx.out⟩
     refine ba_ext ?_
     simp [authT, H1.out, H2.out]
    ·have hpn : (po == -1) = false := by rw [beq_eq_false_iff_ne]; omega
     have hpn' : (po != -1) = true := by simp; omega
     have HPn := hid (show po ≠ -1 by omega)
     obtain ⟨PT, hPT⟩ : ∃ X : ByteArray, X = ⟨(portT po).toArray⟩ := ⟨_, rfl⟩
     have hPs : PT.size <= 100 := by rw [hPT]; exact portT_le po
     have HIt : Hid (∀ (w : World), Gd w -> Calls Tryz.prog 140 #[.int .i64 po] w fun e w' => e = .returned (.string PT) /\ Below w.heap.size w w') := fun w hg => by rw [hPT]; exact itoaP_any po w hg hp0 hp1
     have HPT := hid (show PT.data.toList = portT po by rw [hPT])
     clear hp0 hp1 hPT
     go_enter Tryz.func138, Tryz.ntmps138
     go_wp2_with fail
     refine (HIt.out _ (HG.out.kept ((Below.refl _ w).alloc (Nat.le_refl _) _))).mono ?_
     rintro e w2 ⟨rfl, hb2⟩
     have hb1 := (Below.refl w.heap.size w).alloc (Nat.le_refl _) (.cells (adrCells ⟨sc, US.data.toList, PS.data.toList, HO.data.toList, true, po, op, pa, qu, fr, hq, hf⟩ (.slice a0 n0 c0)).toArray 31)
     have HB2 := hid (show Below w.heap.size w w2 from hb1.trans (hb2.mono hb1.size))
     clear hb1
     clear hb2
     go_wp2
     go_ret
     refine ⟨ret_str' ?_, HB2.out⟩
     refine ba_ext ?_
     simp [authT, H1.out, H2.out, HPn.out, HPT.out]
   ·have q2 : (ByteArray.mk PS.data).toList.isEmpty = false := empty_no PS h2
    have H1 := hid h1
    have H2 := hid h2
    clear h1 h2
    rcases hp with rfl | ⟨hp0, hp1⟩
    ·go_enter Tryz.func138, Tryz.ntmps138
     go_wp2
     go_ret
     refine ⟨ret_str' ?_, HBx.out⟩
     refine ba_ext ?_
     simp [authT, H1.out, H2.out]
    ·have hpn : (po == -1) = false := by rw [beq_eq_false_iff_ne]; omega
     have hpn' : (po != -1) = true := by simp; omega
     have HPn := hid (show po ≠ -1 by omega)
     obtain ⟨PT, hPT⟩ : ∃ X : ByteArray, X = ⟨(portT po).toArray⟩ := ⟨_, rfl⟩
     have hPs : PT.size <= 100 := by rw [hPT]; exact portT_le po
     have HIt : Hid (∀ (w : World), Gd w -> Calls Tryz.prog 140 #[.int .i64 po] w fun e w' => e = .returned (.string PT) /\ Below w.heap.size w w') := fun w hg => by rw [hPT]; exact itoaP_any po w hg hp0 hp1
     have HPT := hid (show PT.data.toList = portT po by rw [hPT])
     clear hp0 hp1 hPT
     go_enter Tryz.func138, Tryz.ntmps138
     go_wp2_with fail
     refine (HIt.out _ (HG.out.kept ((Below.refl _ w).alloc (Nat.le_refl _) _))).mono ?_
     rintro e w2 ⟨rfl, hb2⟩
     have hb1 := (Below.refl w.heap.size w).alloc (Nat.le_refl _) (.cells (adrCells ⟨sc, US.data.toList, PS.data.toList, HO.data.toList, true, po, op, pa, qu, fr, hq, hf⟩ (.slice a0 n0 c0)).toArray 31)
     have HB2 := hid (show Below w.heap.size w w2 from hb1.trans (hb2.mono hb1.size))
     clear hb1
     clear hb2
     go_wp2
     go_ret
     refine ⟨ret_str' ?_, HB2.out⟩
     refine ba_ext ?_
     simp [authT, H1.out, H2.out, HPn.out, HPT.out]
  ·have q1 : (ByteArray.mk US.data).toList.isEmpty = false := empty_no US h1
   by_cases h2 : PS.data.toList = []
   ·have q2 : (ByteArray.mk PS.data).toList.isEmpty = true := empty_yes PS h2
    have H1 := hid h1
    have H2 := hid h2
    clear h1 h2
    rcases hp with rfl | ⟨hp0, hp1⟩
    ·go_enter Tryz.func138, Tryz.ntmps138
     go_wp2
     go_ret
     refine ⟨ret_str' ?_, HBx.out⟩
     refine ba_ext ?_
     simp [authT, H1.out, H2.out]
    ·have hpn : (po == -1) = false := by rw [beq_eq_false_iff_ne]; omega
     have hpn' : (po != -1) = true := by simp; omega
     have HPn := hid (show po ≠ -1 by omega)
     obtain ⟨PT, hPT⟩ : ∃ X : ByteArray, X = ⟨(portT po).toArray⟩ := ⟨_, rfl⟩
     have hPs : PT.size <= 100 := by rw [hPT]; exact portT_le po
     have HIt : Hid (∀ (w : World), Gd w -> Calls Tryz.prog 140 #[.int .i64 po] w fun e w' => e = .returned (.string PT) /\ Below w.heap.size w w') := fun w hg => by rw [hPT]; exact itoaP_any po w hg hp0 hp1
     have HPT := hid (show PT.data.toList = portT po by rw [hPT])
     clear hp0 hp1 hPT
     go_enter Tryz.func138, Tryz.ntmps138
     go_wp2_with fail
     refine (HIt.out _ (HG.out.kept ((Below.refl _ w).alloc (Nat.le_refl _) _))).mono ?_
     rintro e w2 ⟨rfl, hb2⟩
     have hb1 := (Below.refl w.heap.size w).alloc (Nat.le_refl _) (.cells (adrCells ⟨sc, US.data.toList, PS.data.toList, HO.data.toList, true, po, op, pa, qu, fr, hq, hf⟩ (.slice a0 n0 c0)).toArray 31)
     have HB2 := hid (show Below w.heap.size w w2 from hb1.trans (hb2.mono hb1.size))
     clear hb1
     clear hb2
     go_wp2
     go_ret
     refine ⟨ret_str' ?_, HB2.out⟩
     refine ba_ext ?_
     simp [authT, H1.out, H2.out, HPn.out, HPT.out]
   ·have q2 : (ByteArray.mk PS.data).toList.isEmpty = false := empty_no PS h2
    have H1 := hid h1
    have H2 := hid h2
    clear h1 h2
    rcases hp with rfl | ⟨hp0, hp1⟩
    ·go_enter Tryz.func138, Tryz.ntmps138
     go_wp2
     go_ret
     refine ⟨ret_str' ?_, HBx.out⟩
     refine ba_ext ?_
     simp [authT, H1.out, H2.out]
    ·have hpn : (po == -1) = false := by rw [beq_eq_false_iff_ne]; omega
     have hpn' : (po != -1) = true := by simp; omega
     have HPn := hid (show po ≠ -1 by omega)
     obtain ⟨PT, hPT⟩ : ∃ X : ByteArray, X = ⟨(portT po).toArray⟩ := ⟨_, rfl⟩
     have hPs : PT.size <= 100 := by rw [hPT]; exact portT_le po
     have HIt : Hid (∀ (w : World), Gd w -> Calls Tryz.prog 140 #[.int .i64 po] w fun e w' => e = .returned (.string PT) /\ Below w.heap.size w w') := fun w hg => by rw [hPT]; exact itoaP_any po w hg hp0 hp1
     have HPT := hid (show PT.data.toList = portT po by rw [hPT])
     clear hp0 hp1 hPT
     go_enter Tryz.func138, Tryz.ntmps138
     go_wp2_with fail
     refine (HIt.out _ (HG.out.kept ((Below.refl _ w).alloc (Nat.le_refl _) _))).mono ?_
     rintro e w2 ⟨rfl, hb2⟩
     have hb1 := (Below.refl w.heap.size w).alloc (Nat.le_refl _) (.cells (adrCells ⟨sc, US.data.toList, PS.data.toList, HO.data.toList, true, po, op, pa, qu, fr, hq, hf⟩ (.slice a0 n0 c0)).toArray 31)
     have HB2 := hid (show Below w.heap.size w w2 from hb1.trans (hb2.mono hb1.size))
     clear hb1
     clear hb2
     go_wp2
     go_ret
     refine ⟨ret_str' ?_, HB2.out⟩
     refine ba_ext ?_
     simp [authT, H1.out, H2.out, HPn.out, HPT.out]
theorem writeString_k (B b : Nat) (bs : List Value) (s : ByteArray) (w : World) (h : Lib.IsBuilderF 165 5 B b bs w) (hlen : bs.length + s.size <= 140737488355328) (hBw : B <= w.heap.size) :
  Calls Tryz.prog 128 #[.pointer (some ⟨b, 0, none⟩), .string s] w fun e w' => e = .returned (.tuple #[.int .i64 s.size, .nilIface]) /\ (Lib.BuilderAtF 165 5 B b (.pointer (some ⟨b, 0, none⟩)) (bs ++ Lib.strCells s) w' /\ Below B w w') := by
 obtain ⟨i0, hi, hz0, hz1, hz2⟩ := info_parts infoByte
 go_enter Tryz.func128, Tryz.ntmps128
 go_wp2_with (go_at_call 162; refine (copyCheck_k B b bs _ h).mono ?_)
 rintro e w1 ⟨rfl, h1, hb1, hk1⟩
 obtain ⟨hB, v, hbk, hown, hne⟩ := h1
 have c0 : w1.cell? ⟨b, 0, none⟩ = some (.pointer (some ⟨b, 0, none⟩)) := by rw [Lib.cell_of_heap hbk]; rfl
 have c1 : w1.cell? ⟨b, 1, none⟩ = some v := by rw [Lib.cell_of_heap hbk]; rfl
 go_wp2_with (at_builtin; refine Lib.wpList_append_own_stringF _ rfl _ _ 116 9 rfl B 5 i0 Tryz.underlying116 Tryz.underlying9 hi hz0 hz1 hz2 _ _ _ rfl hown s rfl ?c3 ?c4 ?c5 ?_)
 case c3 => unfold maxLen; omega
 case c4 => omega
 case c5 => have := hb1.size; omega
 intro v' w2 hown' hgrow _
 have hlt : b < w1.heap.size := by
  rcases Nat.lt_or_ge b w1.heap.size with h' | h'
  ·exact h'
  ·simp [Array.getElem?_eq_none h'] at hbk
 have hb2 : w2.heap[b]? = some (.cells #[.pointer (some ⟨b, 0, none⟩), v] 165 (0, 0)) := by
  rw [hgrow.block b hlt (fun e => hne e.symm)]
  exact hbk
 have d0 : w2.cell? ⟨b, 0, none⟩ = some (.pointer (some ⟨b, 0, none⟩)) := by rw [Lib.cell_of_heap hb2]; rfl
 have d1 : w2.cell? ⟨b, 1, none⟩ = some v := by rw [Lib.cell_of_heap hb2]; rfl
 have f1 : w2.frozen? ⟨b, 1, none⟩ = false := Lib.frozen_of_heap hb2 1
 obtain ⟨ao, n', cap, rfl⟩ : ∃ ao n' cap, v' = .slice ao n' cap := by
  rcases hown'.2 with ⟨hv, _⟩ | ⟨g, cap, cur, fz, hv, _⟩
  ·exact ⟨_, _, _, hv⟩
  ·exact ⟨_, _, _, hv⟩
 go_wp2
 go_ret2
 refine ⟨rfl, ?_, ?_⟩
 ·exact Lib.BuilderAtF.put (T := 165) (e := 5) hB hb2 (bs' := bs ++ Lib.strCells s) (by simpa [Lib.strCells_length] using hown') (by decide)
 ·exact (hb1.grown hgrow (by have := hb1.size; omega) (fun k hk => (hown.lt k hk).1)).setCell (p := ⟨b, 1, none⟩) hB _
theorem join_flat (L : List (List UInt8)) : Lib.join L [] = L.flatten := by
 unfold Lib.join
 induction L with
 | nil => rfl
 | cons x r ih =>
  cases r with
  | nil => simp [List.intercalate]
  | cons y r => simp [List.intercalate] at ih ⊢; exact ih
theorem joinP_any (v : Value) (L : List (List UInt8)) (w : World) (h : PathAt w v L) (hl : L.length <= 1000000) (hf : L.flatten.length <= 1000000) :
  Calls Tryz.prog 83 #[v, .string ⟨#[]⟩] w fun e w' => e = .returned (.string ⟨L.flatten.toArray⟩) /\ Below w.heap.size w w' := by
 rcases h with ⟨rfl, rfl⟩ | ⟨b, cap, rfl, h2, h3, h4, h5⟩
 ·refine (Tryz.strings_Join_none none 0 ⟨#[]⟩ w).mono ?_
  rintro e w' ⟨rfl, rfl⟩
  exact ⟨rfl, Below.refl _ _⟩
 ·have e1 : (L.map fun x => (⟨x.toArray⟩ : ByteArray)).map (·.data.toList) = L := by
   rw [List.map_map]
   exact List.map_id L
  have hj := Tryz.strings_Join b 0 cap (L.map fun x => (⟨x.toArray⟩ : ByteArray)) ⟨#[]⟩ w ?_ h2 (by simp; omega) (by simp; omega) ?_
  ·rw [e1, show (⟨#[]⟩ : ByteArray).data.toList = [] from rfl, join_flat, List.length_map] at hj
   exact hj
  ·intro j x hx
   rw [List.getElem?_map] at hx
   obtain ⟨y, hy, rfl⟩ := Option.map_eq_some_iff.1 hx
   obtain ⟨hj, e⟩ := List.getElem?_eq_some_iff.1 hy
   rw [Nat.zero_add, h5 j hj, e]
  ·rw [e1, show (⟨#[]⟩ : ByteArray).data.toList = [] from rfl, join_flat]; omega
end Go.Proofs.YtooihpkoplgmbaaGreatDoor
