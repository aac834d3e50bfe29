/-
  Plain facts: what is made of a body is one word and one item; a body holds against it, whatever is no stronger beside it.
-/
import Derived.Test.YtbdlicomkpnalaaGreatDoorZk
import Derived.Test.YtbdlicomkpnalaaGreatDoorZOi
import Derived.Test.YtbdlicomkpnalaaGreatDoorZt
set_option linter.unusedSimpArgs false
set_option linter.unusedVariables false
namespace Go.Proofs.YtbdlicomkpnalaaGreatDoor
open Go.RowKit

def Bt (b : Int) : Prop := b = 256 ∨ b = 384 ∨ b = 512

theorem blI_bl9 (c : UInt8) (h : blankI (c.toNat : Int) = false) : bl9 c = false := by
  unfold blankI at h
  unfold bl9 p9
  simp only [Bool.or_eq_false_iff, beq_eq_false_iff_ne] at h ⊢
  omega

theorem d64_plain : ∀ k, k < 64 → d64 k ≠ 63 ∧ d64 k ≠ 45 := by decide +kernel
theorem e64_plain (r : List UInt8) : ∀ d ∈ e64 r, d ≠ 63 := by
  intro d hd
  rw [e64_split] at hd
  rcases List.mem_append.1 hd with h | h
  · obtain ⟨k, hk, rfl⟩ := eD_mem r d h
    exact (d64_plain k hk).1
  · rcases padE_forms r with e | e | e <;> rw [e] at h <;> simp at h <;> (try rcases h with rfl | rfl) <;> (try subst h) <;> decide

theorem mk_shape (b : Int) (r : List UInt8) : mkV b r = ([115, 104, 97] ++ Lib.itoa b) ++ 45 :: e64 r := by
  unfold mkV
  simp
theorem mk_name (b : Int) (h : Bt b) : (∀ d ∈ [115, 104, 97] ++ Lib.itoa b, bl9 d = false ∧ d ≠ 63 ∧ d ≠ 45) ∧ bitsV ([115, 104, 97] ++ Lib.itoa b) = b := by
  rcases h with rfl | rfl | rfl <;> exact ⟨by decide +kernel, by decide +kernel⟩

theorem mk_plain (b : Int) (r : List UInt8) (h : Bt b) : ∀ d ∈ mkV b r, bl9 d = false ∧ d ≠ 63 := by
  intro d hd
  rw [mk_shape] at hd
  rcases List.mem_append.1 hd with hd | hd
  · have := (mk_name b h).1 d hd
    exact ⟨this.1, this.2.1⟩
  · rcases List.mem_cons.1 hd with rfl | hd
    · exact ⟨by decide, by decide⟩
    · exact ⟨blI_bl9 d (e64_noBlank r d hd), e64_plain r d hd⟩
theorem mk_ne (b : Int) (r : List UInt8) : mkV b r ≠ [] := by
  rw [mk_shape]; simp

theorem mk_item_of (b : Int) (r : List UInt8) (h : Bt b) (y o : List UInt8) (q : Bool) (hp : part 63 y = (mkV b r, o, q)) : itemV y = some ⟨b, e64 r, o⟩ := by
  have h2 : part 45 (mkV b r) = ([115, 104, 97] ++ Lib.itoa b, e64 r, true) := by
    rw [mk_shape]
    exact part_some 45 _ _ (fun h' => ((mk_name b h).1 45 h').2.2 rfl)
  have hb := (mk_name b h).2
  have hb0 : bitsV ([115, 104, 97] ++ Lib.itoa b) ≠ 0 := by rw [hb]; rcases h with rfl | rfl | rfl <;> decide
  unfold itemV okV9 nameV9 wantV9 optV9
  rw [hp]
  dsimp only
  rw [h2]
  dsimp only
  rw [if_pos (by simpa using hb0), hb]

theorem mk_item (b : Int) (r : List UInt8) (h : Bt b) : itemV (mkV b r) = some ⟨b, e64 r, []⟩ :=
  mk_item_of b r h _ _ _ (part_none 63 _ (fun h' => (mk_plain b r h 63 h').2 rfl))
theorem mk_item_opt (b : Int) (r : List UInt8) (h : Bt b) : itemV (mkV b r ++ [63, 120]) = some ⟨b, e64 r, [120]⟩ :=
  mk_item_of b r h _ _ _ (part_some 63 _ [120] (fun h' => (mk_plain b r h 63 h').2 rfl))

theorem words_one (x : List UInt8) (h : ∀ d ∈ x, bl9 d = false) (hne : x ≠ []) : words9 x = [x] := by
  have := wds_skip x [] [] h
  rw [List.append_nil, List.nil_append] at this
  unfold words9
  rw [this, wdsF, if_neg hne]
theorem words_more (x y : List UInt8) (c : UInt8) (h : ∀ d ∈ x, bl9 d = false) (hne : x ≠ []) (hc : bl9 c = true) : words9 (x ++ c :: y) = x :: words9 y := by
  have := wds_skip x (c :: y) [] h
  rw [List.nil_append] at this
  unfold words9
  rw [this, wdsF, if_pos hc, if_neg hne]

theorem most_ge : ∀ (L : List It) (m : Int) (x : It), x ∈ L → x.bits ≤ mostV L m
  | [], _, _, h => by simp at h
  | y :: L, m, x, h => by
    rw [mostV]
    rcases List.mem_cons.1 h with rfl | h
    · exact Int.le_trans (Int.le_max_right m x.bits) (by
        have : ∀ (L : List It) (m : Int), m ≤ mostV L m := fun L => by
          induction L with
          | nil => exact fun m => Int.le_refl _
          | cons z L ih => exact fun m => Int.le_trans (Int.le_max_left m z.bits) (ih _)
        exact this L _)
    · exact most_ge L _ x h
theorem most_le : ∀ (L : List It) (m b : Int), m ≤ b → (∀ x ∈ L, x.bits ≤ b) → mostV L m ≤ b
  | [], _, _, h, _ => h
  | y :: L, m, b, h, hx => by
    rw [mostV]
    exact most_le L _ b (Int.max_le.2 ⟨h, hx y (by simp)⟩) (fun x h' => hx x (by simp [h']))

/-- A body holds where the item made of it is among the items, and none is stronger. -/
theorem holds_of (b : Int) (r body o : List UInt8) (L : List It) (h : Bt b) (hs : sumV sqr cbr b body = some r) (hm : (⟨b, e64 r, o⟩ : It) ∈ L) (hle : ∀ x ∈ L, x.bits ≤ b) : holdsL sqr cbr (strong L) body = true := by
  have hM : mostV L (-9223372036854775808) = b := by
    have h1 := most_ge L (-9223372036854775808) _ hm
    have h2 := most_le L (-9223372036854775808) b (by rcases h with rfl | rfl | rfl <;> decide) hle
    dsimp only at h1
    omega
  have hin : (⟨b, e64 r, o⟩ : It) ∈ strong L := by
    refine List.mem_filter.2 ⟨hm, ?_⟩
    rw [hM]
    simp
  have hall : ∀ x ∈ strong L, x.bits = b := fun x hx => by
    have := (List.mem_filter.1 hx).2
    rw [hM] at this
    simpa using this
  cases hS : strong L with
  | nil => rfl
  | cons x S =>
    have hx := hall x (by rw [hS]; simp)
    show (match sumV sqr cbr x.bits body with | none => false | some r => (x :: S).any (wantsV r)) = true
    rw [hx, hs]
    refine List.any_eq_true.2 ⟨⟨b, e64 r, o⟩, by rw [← hS]; exact hin, ?_⟩
    unfold wantsV
    rw [b64_back]
    simp

theorem md5_none : itemV [109, 100, 53, 45, 120] = none := by kernel_rfl
theorem sha1_none : itemV [115, 104, 97, 49, 45, 121] = none := by kernel_rfl

theorem hold_1 (b : Int) (r body : List UInt8) (h : Bt b) (hs : sumV sqr cbr b body = some r) : holdsV sqr cbr (mkV b r) body = true := by
  unfold holdsV parse9
  rw [words_one _ (fun d hd => (mk_plain b r h d hd).1) (mk_ne b r)]
  refine holds_of b r body [] _ h hs ?_ ?_
  · simp [mk_item b r h]
  · intro x hx
    simp [mk_item b r h] at hx
    rw [hx]
    exact Int.le_refl _

theorem hold_2 (b : Int) (r body : List UInt8) (h : Bt b) (hs : sumV sqr cbr b body = some r) : holdsV sqr cbr (mkV b r ++ [63, 120]) body = true := by
  unfold holdsV parse9
  rw [words_one _ (fun d hd => by
    rcases List.mem_append.1 hd with hd | hd
    · exact (mk_plain b r h d hd).1
    · simp at hd; rcases hd with rfl | rfl <;> decide) (by simp)]
  refine holds_of b r body [120] _ h hs ?_ ?_
  · simp [mk_item_opt b r h]
  · intro x hx
    simp [mk_item_opt b r h] at hx
    rw [hx]
    exact Int.le_refl _

theorem hold_3 (b : Int) (r body : List UInt8) (h : Bt b) (hs : sumV sqr cbr b body = some r) : holdsV sqr cbr ([109, 100, 53, 45, 120] ++ 32 :: (mkV b r ++ 32 :: [115, 104, 97, 49, 45, 121])) body = true := by
  unfold holdsV parse9
  rw [words_more [109, 100, 53, 45, 120] _ 32 (by decide) (by decide) (by decide), words_more _ _ 32 (fun d hd => (mk_plain b r h d hd).1) (mk_ne b r) (by decide), words_one _ (by decide) (by decide)]
  refine holds_of b r body [] _ h hs ?_ ?_
  · simp [mk_item b r h, md5_none, sha1_none]
  · intro x hx
    simp [mk_item b r h, md5_none, sha1_none] at hx
    rw [hx]
    exact Int.le_refl _

theorem hold_4 (b : Int) (r ro body : List UInt8) (h : Bt b) (hs : sumV sqr cbr b body = some r) : holdsV sqr cbr (mkV 256 ro ++ 32 :: mkV b r) body = true := by
  unfold holdsV parse9
  rw [words_more _ _ 32 (fun d hd => (mk_plain 256 ro (.inl rfl) d hd).1) (mk_ne 256 ro) (by decide), words_one _ (fun d hd => (mk_plain b r h d hd).1) (mk_ne b r)]
  refine holds_of b r body [] _ h hs ?_ ?_
  · simp [mk_item b r h, mk_item 256 ro (.inl rfl)]
  · intro x hx
    simp [mk_item b r h, mk_item 256 ro (.inl rfl)] at hx
    rcases hx with rfl | rfl
    · show (256 : Int) ≤ b
      rcases h with rfl | rfl | rfl <;> decide
    · exact Int.le_refl _

theorem hold_5 (b : Int) (r ro body : List UInt8) (h : Bt b) (hs : sumV sqr cbr b body = some r) : holdsV sqr cbr (mkV b r ++ 9 :: mkV 256 ro) body = true := by
  unfold holdsV parse9
  rw [words_more _ _ 9 (fun d hd => (mk_plain b r h d hd).1) (mk_ne b r) (by decide), words_one _ (fun d hd => (mk_plain 256 ro (.inl rfl) d hd).1) (mk_ne 256 ro)]
  refine holds_of b r body [] _ h hs ?_ ?_
  · simp [mk_item b r h, mk_item 256 ro (.inl rfl)]
  · intro x hx
    simp [mk_item b r h, mk_item 256 ro (.inl rfl)] at hx
    rcases hx with rfl | rfl
    · exact Int.le_refl _
    · show (256 : Int) ≤ b
      rcases h with rfl | rfl | rfl <;> decide

end Go.Proofs.YtbdlicomkpnalaaGreatDoor
