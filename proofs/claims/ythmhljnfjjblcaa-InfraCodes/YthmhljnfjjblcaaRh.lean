/-
  The walk of the document's own answer of chapter 1: ostiaryref1's Unpercent.
-/
import Derived.Test.YthmhljnfjjblcaaRg
import Derived.Test.YthmhljnfjjblcaaWc
import Derived.Test.YthmhljnfjjblcaaPs
import Derived.Deep.RegionLaw
set_option linter.unusedSimpArgs false
set_option linter.unusedVariables false
namespace Go.Proofs.Ythmhljnfjjblcaa
open Go.RowKit

theorem hexI_yes (c : Int) (h : is16I c = true) : hexI c = val16I c := by simp [hexI, h]
theorem hexI_no (c : Int) (h : is16I c = false) : hexI c = -1 := by simp [hexI, h]

/-- An append to a row of the call's own, in a region that draws its order. -/
theorem step_append_own {P : Program} {ops : Array Oper} {o : Oper} {a : Act} {w : World} {K : Act → World → Prop} {Q : Exit → Act → World → Prop} {E : Prop} (hgd : o.guard = none) (s x : Operand) (t : TypeId)
    (ho : o.op = .call { callee := .builtin .append, args := #[s, x], argTypes := #[t, t] })
    (base : Nat) (e : TypeId) (i : TypeInfo) (z : Value) (size bytes : Nat) (ht : P.underlying t = some (.slice e)) (hi : P.info? e = some i) (hz : i.zero = some z)
    (hsize : i.size = size) (hby : i.bytes = bytes) (hzs : z.cells.size = size) (hsz : 0 < size)
    (v : Value) (n : Nat) (xs : List Value) (hs : a.eval s = v) (hown : w.ownsRow base e size v n xs)
    (ad : Addr) (m c : Nat) (news : List Value) (hx : a.eval x = .slice (some ad) m c) (hl : news.length = m * size) (hnews : ∀ j u, news[j]? = some u → w.cell? (ad.add j) = some u) (h1 : ∀ u ∈ news, u.oneCell' = true)
    (h63 : n + m ≤ maxLen) (hbytes : (n + m) * bytes ≤ 140737488355328) (hbase : base ≤ w.heap.size)
    (h : ∀ v' w', w'.ownsRow base e size v' (n + m) (xs ++ news) → w.grownBy w' v.ownBlock → (v' = .slice none 0 0 ↔ v = .slice none 0 0 ∧ m = 0) → K (a.put o.dst v') w') :
    if Region.wanted o (yielded ops a.tmps) = true then Oper.wp P o a w K Q else E := by
  rw [if_pos (by simp [Region.wanted, hgd])]
  exact wp_append_own w s x t ho base e i z size bytes ht hi hz hsize hby hzs hsz v n xs hs hown ad m c news hx hl hnews h1 h63 hbytes hbase h

theorem pcd_at37 (s : ByteArray) (k : Nat) (h : k + 2 < s.size) (h37 : s[k] = 37) : pcd (s.data.toList.drop k) = if is16I s[k + 1].toNat && is16I s[k + 2].toNat then (UInt8.ofNat (val16I s[k + 1].toNat * 16 + val16I s[k + 2].toNat).toNat, true) else (37, false) := by
  rw [drop_cons s k (by omega), drop_cons s (k + 1) (by omega), drop_cons s (k + 2) (by omega), h37]
  exact pcd_three _ _ _

theorem pcd_short_at (s : ByteArray) (k : Nat) (hk : k < s.size) (h : ¬ k + 2 < s.size) : pcd (s.data.toList.drop k) = (s[k], false) := by
  rw [drop_cons s k hk]
  refine pcd_short _ _ ?_
  simp
  omega

theorem pcd_other_at (s : ByteArray) (k : Nat) (hk : k < s.size) (h : s[k] ≠ 37) : pcd (s.data.toList.drop k) = (s[k], false) := by
  rw [drop_cons s k hk]
  exact pcd_other _ _ h

theorem unpct_at (s : ByteArray) (k : Nat) (hk : k < s.size) (c : UInt8) (b : Bool) (h : pcd (s.data.toList.drop k) = (c, b)) : unpct (s.data.toList.drop k) = c :: unpct (s.data.toList.drop (if b then k + 3 else k + 1)) := by
  have hd := drop_cons s k hk
  have hu := unpct_cons s[k] (s.data.toList.drop (k + 1))
  rw [← hd] at hu
  rw [hu, h]
  cases b
  · rfl
  · simp [List.drop_drop]

set_option maxHeartbeats 2000000 in
theorem runpercent_any (s : ByteArray) (w : World) (hs : s.size ≤ 1000000) :
    Calls Try.prog 34 #[.string s] w fun e w' => e = .returned (.string ⟨(unpct s.data.toList).toArray⟩) ∧ Below w.heap.size w w' := by
  obtain ⟨i0, hi, hz0, hz1, hz2⟩ := info_parts infoByte
  go_enter Try.func34, Try.ntmps34
  go_wp2
  go_loopw [3, 4] (fun v i wr => ∃ (k : Nat) (acc : List UInt8), k ≤ s.size ∧ i = .int .i64 k ∧ wr.ownsRow w.heap.size 5 1 v acc.length (Lib.byteCells acc) ∧ Below w.heap.size w wr ∧ acc ++ unpct (s.data.toList.drop k) = unpct s.data.toList ∧ acc.length ≤ k)
    (fun _ i _ => s.size - (intOf i).toNat)
  case atStart => exact ⟨0, [], Nat.zero_le _, rfl, World.ownsRow_nil w _ _ _, Below.refl _ w, rfl, Nat.le_refl _⟩
  case round =>
    obtain ⟨k, acc, hk, rfl, hown, hbw, hacc, hal⟩ := hrel
    have HA := hid hacc
    clear hacc
    by_cases hlt : k < s.size
    · have hc8 : s[k].toNat < 256 := s[k].toNat_lt
      by_cases hyes : ∃ h : k + 2 < s.size, s[k] = 37 ∧ is16I (s[k + 1].toNat : Int) = true ∧ is16I (s[k + 2].toNat : Int) = true
      · obtain ⟨h2, h37, ha, hb⟩ := hyes
        have HP := hid (unpct_at s k hlt _ true (by rw [pcd_at37 s k h2 h37, ha, hb]; rfl))
        have h37' : (s[k].toNat : Int) = 37 := by rw [h37]; rfl
        have hva := hexI_yes _ ha
        have hvb := hexI_yes _ hb
        have hra := val16_lt (s[k + 1].toNat : Int)
        have hrb := val16_lt (s[k + 2].toNat : Int)
        have la : s[k + 1].toNat < 256 := s[k + 1].toNat_lt
        have lb : s[k + 2].toNat < 256 := s[k + 2].toNat_lt
        have hNN : Hid (((UInt8.ofNat (val16I s[k + 1].toNat * 16 + val16I s[k + 2].toNat).toNat).toNat : Int) = 16 * val16I s[k + 1].toNat + val16I s[k + 2].toNat) := by
          have : (UInt8.ofNat (val16I s[k + 1].toNat * 16 + val16I s[k + 2].toNat).toNat).toNat = (val16I s[k + 1].toNat * 16 + val16I s[k + 2].toNat).toNat % 256 := by simp
          refine hid ?_
          rw [this]
          omega
        generalize (UInt8.ofNat (val16I s[k + 1].toNat * 16 + val16I s[k + 2].toNat).toNat) = cc at HP hNN
        generalize val16I (s[k + 1].toNat : Int) = va at *
        generalize val16I (s[k + 2].toNat : Int) = vb at *
        obtain ⟨hra1, hra2⟩ := hra
        obtain ⟨hrb1, hrb2⟩ := hrb
        clear h37 ha hb
        have hge : decide (0 ≤ va) = true := by simp; omega
        have hgb : decide (0 ≤ vb) = true := by simp; omega
        go_wp2_with (go_at_call 61; refine (rhex_any _ _ (by omega) (by omega)).mono ?_; rintro e w' ⟨rfl, rfl⟩)
        have hw1 : IntKind.i64.wrap ((k : Int) + 1) = (k : Int) + 1 := by rw [IntKind.wrap_i64]; omega
        have hw2 : IntKind.i64.wrap ((k : Int) + 2) = (k : Int) + 2 := by rw [IntKind.wrap_i64]; omega
        have hw3 : IntKind.i64.wrap (16 * va) = 16 * va := by rw [IntKind.wrap_i64]; omega
        have hw4 : IntKind.i64.wrap (16 * va + vb) = 16 * va + vb := by rw [IntKind.wrap_i64]; omega
        have hw5 : IntKind.u8.wrap (16 * va + vb) = (cc.toNat : Int) := by rw [hNN.out, IntKind.wrap_u8]; omega
        have ht1 : ((k : Int) + 1).toNat = k + 1 := by omega
        have ht2 : ((k : Int) + 2).toNat = k + 2 := by omega
        have hq1 : (0 : Int) ≤ (k : Int) + 1 := by omega
        have hq2 : (0 : Int) ≤ (k : Int) + 2 := by omega
        have hq3 : (k : Int) + 1 < (s.size : Int) := by omega
        have hq4 : (k : Int) + 2 < (s.size : Int) := by omega
        have hbs := hbw.size
        go_region_law (first | (refine step_append_own rfl (.tmp 38) (.tmp 52) 22 rfl w.heap.size 5 i0 (.int .u8 0) 1 1 Try.underlying22 hi hz0 hz1 hz2 rfl (by decide) u3 acc.length (Lib.byteCells acc) rfl (by exact hown.alloc _) ⟨wr.heap.size, 0, none⟩ 1 1 [.int .u8 (cc.toNat : Int)] rfl rfl (by intro j u hj; match j, hj with | 0, hj => simp at hj; subst hj; simp [Addr.add]) (by intro u hu; simp at hu; subst hu; rfl) (by unfold maxLen; omega) (by omega) (by simp; omega) ?_; intro v' w2 hown' hgrow hnil) | (go_simp; go_at_call 61; refine (rhex_any _ _ (by omega) (by omega)).mono ?_; rintro e w' ⟨rfl, rfl⟩; go_simp))
        all_goals
          go_wp2
          go_roundw
          case rel =>
            refine ⟨k + 3, acc ++ [cc], by omega, by go_num, ?_, ?_, ?_, by simp; omega⟩
            · rw [Lib.byteCells_append, byteCells_one]; simpa using hown'
            · exact (hbw.alloc hbw.size _).drew.grown hgrow (by simp; omega) (fun g hg => (hown.lt g hg).1)
            · rw [← HA.out, HP.out, List.append_assoc]; rfl
          case measure => simp [intOf]; omega
      · have hno : pcd (s.data.toList.drop k) = (s[k], false) := by
          by_cases h37 : s[k] = 37
          · by_cases h2 : k + 2 < s.size
            · rw [pcd_at37 s k h2 h37, h37]
              by_cases ha : is16I (s[k + 1].toNat : Int) = true
              · by_cases hb : is16I (s[k + 2].toNat : Int) = true
                · exact absurd ⟨h2, h37, ha, hb⟩ hyes
                · simp [hb]
              · simp [ha]
            · exact pcd_short_at s k hlt h2
          · exact pcd_other_at s k hlt h37
        have HP := hid (unpct_at s k hlt _ false hno)
        have hcase : (((s[k].toNat : Int) == 37) = false) ∨ ((s[k].toNat : Int) = 37 ∧ s.size ≤ k + 2) ∨ (∃ h : k + 2 < s.size, (s[k].toNat : Int) = 37 ∧ is16I (s[k + 1].toNat : Int) = false) ∨ (∃ h : k + 2 < s.size, (s[k].toNat : Int) = 37 ∧ is16I (s[k + 1].toNat : Int) = true ∧ is16I (s[k + 2].toNat : Int) = false) := by
          by_cases h37 : s[k] = 37
          · have h37' : (s[k].toNat : Int) = 37 := by rw [h37]; rfl
            by_cases h2 : k + 2 < s.size
            · by_cases ha : is16I (s[k + 1].toNat : Int) = true
              · by_cases hb : is16I (s[k + 2].toNat : Int) = true
                · exact absurd ⟨h2, h37, ha, hb⟩ hyes
                · exact .inr (.inr (.inr ⟨h2, h37', ha, by simpa using hb⟩))
              · exact .inr (.inr (.inl ⟨h2, h37', by simpa using ha⟩))
            · exact .inr (.inl ⟨h37', by omega⟩)
          · left
            rw [beq_eq_false_iff_ne]
            intro e
            apply h37
            exact UInt8.toNat_inj.1 (by show s[k].toNat = 37; omega)
        clear hno hyes
        have hbs := hbw.size
        rcases hcase with h37 | ⟨h37, h2⟩ | ⟨h2, h37, ha⟩ | ⟨h2, h37, ha, hb⟩
        · go_wp2_with (at_builtin; refine wpList_append_own _ rfl _ _ 22 rfl w.heap.size 5 i0 (.int .u8 0) 1 1 Try.underlying22 hi hz0 hz1 hz2 rfl (by decide) _ _ _ rfl (hown.alloc _) ⟨wr.heap.size, 0, none⟩ 1 1 [.int .u8 s[k].toNat] rfl rfl ?c1 ?c2 ?c3 ?c4 ?c5 ?_)
          case c1 =>
            intro j u hj
            match j, hj with
            | 0, hj => simp at hj; subst hj; simp [Addr.add] <;> exact h37.symm
          case c2 => intro u hu; simp at hu; subst hu; rfl
          case c3 => unfold maxLen; omega
          case c4 => omega
          case c5 => simp; omega
          intro v' w2 hown' hgrow hnil
          go_wp2
          go_roundw
          case rel =>
            refine ⟨k + 1, acc ++ [s[k]], by omega, by go_num, ?_, ?_, ?_, by simp; omega⟩
            · rw [Lib.byteCells_append, byteCells_one]
              first | simpa using hown' | (simp only [h37] at hown' ⊢; simpa using hown')
            · exact (hbw.alloc hbw.size _).grown hgrow (by simp; omega) (fun g hg => (hown.lt g hg).1)
            · rw [← HA.out, HP.out, List.append_assoc]; rfl
          case measure => simp [intOf]; omega
        · have hd : decide ((k : Int) + 2 < (s.size : Int)) = false := by simp; omega
          go_wp2_with (at_builtin; refine wpList_append_own _ rfl _ _ 22 rfl w.heap.size 5 i0 (.int .u8 0) 1 1 Try.underlying22 hi hz0 hz1 hz2 rfl (by decide) _ _ _ rfl (hown.alloc _) ⟨wr.heap.size, 0, none⟩ 1 1 [.int .u8 s[k].toNat] rfl rfl ?c1 ?c2 ?c3 ?c4 ?c5 ?_)
          case c1 =>
            intro j u hj
            match j, hj with
            | 0, hj => simp at hj; subst hj; simp [Addr.add] <;> exact h37.symm
          case c2 => intro u hu; simp at hu; subst hu; rfl
          case c3 => unfold maxLen; omega
          case c4 => omega
          case c5 => simp; omega
          intro v' w2 hown' hgrow hnil
          go_wp2
          go_roundw
          case rel =>
            refine ⟨k + 1, acc ++ [s[k]], by omega, by go_num, ?_, ?_, ?_, by simp; omega⟩
            · rw [Lib.byteCells_append, byteCells_one]
              first | simpa using hown' | (simp only [h37] at hown' ⊢; simpa using hown')
            · exact (hbw.alloc hbw.size _).grown hgrow (by simp; omega) (fun g hg => (hown.lt g hg).1)
            · rw [← HA.out, HP.out, List.append_assoc]; rfl
          case measure => simp [intOf]; omega
        · have hva := hexI_no _ ha
          have la : s[k + 1].toNat < 256 := s[k + 1].toNat_lt
          have hd : (k : Int) + 2 < (s.size : Int) := by omega
          go_wp2_with (first | (go_at_call 61; refine (rhex_any _ _ (by omega) (by omega)).mono ?_; rintro e w' ⟨rfl, rfl⟩) | (at_builtin; refine wpList_append_own _ rfl _ _ 22 rfl w.heap.size 5 i0 (.int .u8 0) 1 1 Try.underlying22 hi hz0 hz1 hz2 rfl (by decide) _ _ _ rfl (hown.alloc _) ⟨wr.heap.size, 0, none⟩ 1 1 [.int .u8 s[k].toNat] rfl rfl ?c1 ?c2 ?c3 ?c4 ?c5 ?_))
          case c1 =>
            intro j u hj
            match j, hj with
            | 0, hj => simp at hj; subst hj; simp [Addr.add] <;> exact h37.symm
          case c2 => intro u hu; simp at hu; subst hu; rfl
          case c3 => unfold maxLen; omega
          case c4 => omega
          case c5 => simp; omega
          intro v' w2 hown' hgrow hnil
          go_wp2
          go_roundw
          case rel =>
            refine ⟨k + 1, acc ++ [s[k]], by omega, by go_num, ?_, ?_, ?_, by simp; omega⟩
            · rw [Lib.byteCells_append, byteCells_one]
              first | simpa using hown' | (simp only [h37] at hown' ⊢; simpa using hown')
            · exact (hbw.alloc hbw.size _).grown hgrow (by simp; omega) (fun g hg => (hown.lt g hg).1)
            · rw [← HA.out, HP.out, List.append_assoc]; rfl
          case measure => simp [intOf]; omega
        · have hva := hexI_yes _ ha
          have hvb := hexI_no _ hb
          have la : s[k + 1].toNat < 256 := s[k + 1].toNat_lt
          have lb : s[k + 2].toNat < 256 := s[k + 2].toNat_lt
          have hd : (k : Int) + 2 < (s.size : Int) := by omega
          have hra := (val16_lt (s[k + 1].toNat : Int)).1
          go_wp2_with (first | (go_at_call 61; refine (rhex_any _ _ (by omega) (by omega)).mono ?_; rintro e w' ⟨rfl, rfl⟩) | (at_builtin; refine wpList_append_own _ rfl _ _ 22 rfl w.heap.size 5 i0 (.int .u8 0) 1 1 Try.underlying22 hi hz0 hz1 hz2 rfl (by decide) _ _ _ rfl (hown.alloc _) ⟨wr.heap.size, 0, none⟩ 1 1 [.int .u8 s[k].toNat] rfl rfl ?c1 ?c2 ?c3 ?c4 ?c5 ?_))
          case c1 =>
            intro j u hj
            match j, hj with
            | 0, hj => simp at hj; subst hj; simp [Addr.add] <;> exact h37.symm
          case c2 => intro u hu; simp at hu; subst hu; rfl
          case c3 => unfold maxLen; omega
          case c4 => omega
          case c5 => simp; omega
          intro v' w2 hown' hgrow hnil
          go_wp2
          go_roundw
          case rel =>
            refine ⟨k + 1, acc ++ [s[k]], by omega, by go_num, ?_, ?_, ?_, by simp; omega⟩
            · rw [Lib.byteCells_append, byteCells_one]
              first | simpa using hown' | (simp only [h37] at hown' ⊢; simpa using hown')
            · exact (hbw.alloc hbw.size _).grown hgrow (by simp; omega) (fun g hg => (hown.lt g hg).1)
            · rw [← HA.out, HP.out, List.append_assoc]; rfl
          case measure => simp [intOf]; omega
    · have hd := drop_none s k hlt
      have he : acc = unpct s.data.toList := by rw [← HA.out, hd]; simp [unpct, unpctN]
      have hS := SlB.own hown
      rw [he] at hS
      have hcv := hS.string (P := Try.prog) (src := 22) (dst := 9) Try.underlying22 Try.underlying5 Try.underlying9
      clear hd he hS
      go_wp2
      go_ret
      exact ⟨rfl, hbw⟩

end Go.Proofs.Ythmhljnfjjblcaa
