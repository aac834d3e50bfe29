/- Walks and plain facts. -/
import Derived.Test.YtooihpkoplgmbaaGreatDoorQg7
set_option linter.unusedSimpArgs false
set_option linter.unusedVariables false
set_option maxHeartbeats 16000000
set_option maxRecDepth 100000

namespace Go.Proofs.YtooihpkoplgmbaaGreatDoor
open Go.RowKit
theorem ownsRow_same {w w' : World} {B : Nat} {e : TypeId} {size : Nat} {v : Value} {n : Nat} {xs : List Value} (h : w.ownsRow B e size v n xs) (hk : ∀ g, v.ownBlock = some g -> w'.heap[g]? = w.heap[g]?) : w'.ownsRow B e size v n xs := by
 refine ⟨h.1, ?_⟩
 rcases h.2 with hn | ⟨g, cap, cur, rfl, hb, hgg, rest⟩
 ·exact .inl hn
 ·exact .inr ⟨g, cap, cur, rfl, hb, (hk g rfl).trans hgg, rest⟩
theorem ownsRow_kind {w : World} {B : Nat} {e : TypeId} {size : Nat} {v : Value} {n : Nat} {xs : List Value} (h : w.ownsRow B e size v n xs) (g : Nat) (hg : v.ownBlock = some g) : ∃ cur, w.heap[g]? = some (.cells cur e (0, 0)) := by
 rcases h.2 with ⟨rfl, _⟩ | ⟨g', cap, cur, rfl, hb, hgg, rest⟩
 ·simp [Value.ownBlock] at hg
 ·simp [Value.ownBlock] at hg
  subst hg
  exact ⟨cur, hgg⟩
theorem ownsRow_lower {w : World} {B B' : Nat} {e : TypeId} {size : Nat} {v : Value} {n : Nat} {xs : List Value} (h : w.ownsRow B e size v n xs) (hB : B' <= B) : w.ownsRow B' e size v n xs := by
 refine ⟨h.1, ?_⟩
 rcases h.2 with hn | ⟨g, cap, cur, rfl, hb, rest⟩
 ·exact .inl hn
 ·exact .inr ⟨g, cap, cur, rfl, Nat.le_trans hB hb, rest⟩
def AppAt (w : World) (v v' : Value) (n : Nat) : Prop := ∃ g cap, v' = .slice (some ⟨g, 0, none⟩) n cap /\ (v.ownBlock = some g ∨ w.heap.size <= g)
theorem run_append_where {P : Program} (w : World) (base : Nat) (t ty e : TypeId) (i : TypeInfo) (z : Value) (size bytes : Nat) (ht : P.underlying t = some (.slice e)) (hi : P.info? e = some i) (hz : i.zero = some z)
  (hsize : i.size = size) (hby : i.bytes = bytes) (hzs : z.cells.size = size) (hsz : 0 < size)
  (v : Value) (n : Nat) (xs : List Value) (hown : w.ownsRow base e size v n xs)
  (a : Addr) (m c : Nat) (news : List Value) (hl : news.length = m * size) (hnews : ∀ j u, news[j]? = some u -> w.cell? (a.add j) = some u) (h1 : ∀ u ∈ news, u.oneCell' = true)
  (h63 : n + m <= maxLen) (hbytes : (n + m) * bytes <= 140737488355328) (hbase : base <= w.heap.size) (hm : 0 < m) :
  ∃ v' w', (Builtin.append_ #[t, t] ty #[v, .slice (some a) m c]).run P w = .ok v' w' /\ w'.ownsRow base e size v' (n + m) (xs ++ news) /\ w.grownBy w' v.ownBlock /\
   AppAt w v v' (n + m) := by
 obtain ⟨v', w', hr, ho, hg, _⟩ := run_append_own (P := P) w base t ty e i z size bytes ht hi hz hsize hby hzs hsz v n xs hown a m c news hl hnews h1 h63 hbytes hbase
 refine ⟨v', w', hr, ho, hg, ?_⟩
 subst hsize
 subst hby
 have hML : n + m <= 9223372036854775807 := by simp only [maxLen] at h63; omega
 rcases hown.2 with ⟨rfl, rfl⟩ | ⟨g, cap, cur, rfl, hbg, hgg, hnc, hcm, hcs, htake⟩
 ·have hr2 := run_append_nil (P := P) w t ty e i z ht hi hz a m c news hl hnews hm (by omega) (by have hb := hbytes; simp only [Nat.zero_add] at hb; omega)
  rw [hr2] at hr
  injection hr with e1 e2
  exact ⟨w.heap.size, _, by rw [<- e1]; simp; rfl, .inr (Nat.le_refl _)⟩
 ·by_cases hroom : n + m <= cap
  ·have hfit : n * i.size + news.length <= cur.size := by rw [hl, hcs, <- Nat.add_mul]; exact Nat.mul_le_mul_right _ hroom
   have hr2 := run_append_room (P := P) w t ty e i ht hi g n cap cur hgg a m c news hl hnews h1 hroom hfit
   rw [hr2] at hr
   injection hr with e1 e2
   exact ⟨g, cap, e1.symm, .inl rfl⟩
  ·have hr2 := run_append_grow (P := P) w t ty e i z ht hi hz ⟨g, 0, none⟩ n cap xs hown.1 (hown.cells (g := g) rfl) a m c news hl hnews (by omega) (by omega) (growslice_fits (by omega) hbytes)
   rw [hr2] at hr
   injection hr with e1 e2
   exact ⟨w.heap.size, _, e1.symm, .inr (Nat.le_refl _)⟩
theorem wp_append_where {P : Program} (w : World) {o : Oper} {a : Act} {K : Act -> World -> Prop} {Q : Exit -> Act -> World -> Prop} (s x : Operand) (t : TypeId)
  (ho : o.op = .call { callee := .builtin .append, args := #[s, x], argTypes := #[t, t] })
  (base : Nat) (e : TypeId) (i : TypeInfo) (z : Value) (size bytes : Nat) (ht : P.underlying t = some (.slice e)) (hi : P.info? e = some i) (hz : i.zero = some z)
  (hsize : i.size = size) (hby : i.bytes = bytes) (hzs : z.cells.size = size) (hsz : 0 < size)
  (v : Value) (n : Nat) (xs : List Value) (hs : a.eval s = v) (hown : w.ownsRow base e size v n xs)
  (ad : Addr) (m c : Nat) (news : List Value) (hx : a.eval x = .slice (some ad) m c) (hl : news.length = m * size) (hnews : ∀ j u, news[j]? = some u -> w.cell? (ad.add j) = some u) (h1 : ∀ u ∈ news, u.oneCell' = true)
  (h63 : n + m <= maxLen) (hbytes : (n + m) * bytes <= 140737488355328) (hbase : base <= w.heap.size) (hm : 0 < m)
  (h : ∀ v' w', w'.ownsRow base e size v' (n + m) (xs ++ news) -> w.grownBy w' v.ownBlock -> AppAt w v v' (n + m) -> K (a.put o.dst v') w') : o.wp P a w K Q := by
 obtain ⟨v', w', hr, h2, h3, h4⟩ := run_append_where (P := P) w base t o.type e i z size bytes ht hi hz hsize hby hzs hsz v n xs hown ad m c news hl hnews h1 h63 hbytes hbase hm
 unfold Oper.wp
 simp [execOp, ho, resolve, invoke, builtin, hs, hx, hr, Result.andThen]
 exact h v' w' h2 h3 h4
theorem wpList_append_where {P : Program} (w : World) {ops : Array Oper} {rest : List Oper} {o : Oper} {a : Act} {Q : Exit -> Act -> World -> Prop} (hgd : o.guard = none) (s x : Operand) (t : TypeId)
  (ho : o.op = .call { callee := .builtin .append, args := #[s, x], argTypes := #[t, t] })
  (base : Nat) (e : TypeId) (i : TypeInfo) (z : Value) (size bytes : Nat) (ht : P.underlying t = some (.slice e)) (hi : P.info? e = some i) (hz : i.zero = some z)
  (hsize : i.size = size) (hby : i.bytes = bytes) (hzs : z.cells.size = size) (hsz : 0 < size)
  (v : Value) (n : Nat) (xs : List Value) (hs : a.eval s = v) (hown : w.ownsRow base e size v n xs)
  (ad : Addr) (m c : Nat) (news : List Value) (hx : a.eval x = .slice (some ad) m c) (hl : news.length = m * size) (hnews : ∀ j u, news[j]? = some u -> w.cell? (ad.add j) = some u) (h1 : ∀ u ∈ news, u.oneCell' = true)
  (h63 : n + m <= maxLen) (hbytes : (n + m) * bytes <= 140737488355328) (hbase : base <= w.heap.size) (hm : 0 < m)
  (h : ∀ v' w', w'.ownsRow base e size v' (n + m) (xs ++ news) -> w.grownBy w' v.ownBlock -> AppAt w v v' (n + m) -> wpList P ops Q rest (a.put o.dst v') w') : wpList P ops Q (o :: rest) a w :=
 wpList_plain hgd fun _ hK => wp_append_where w s x t ho base e i z size bytes ht hi hz hsize hby hzs hsz v n xs hs hown ad m c news hx hl hnews h1 h63 hbytes hbase hm fun v' w' h2 h3 h4 => hK _ _ (h v' w' h2 h3 h4)
theorem step_append_own0 {P : Program} {ops : Array Oper} {o : Oper} {a : Act} {w : World} {K : Act -> World -> Prop} {Q : Exit -> Act -> World -> Prop} {E : Prop} (hgd : o.guard = none) (s x : Operand) (t : TypeId)
  (ho : o.op = .call { callee := .builtin .append, args := #[s, x], argTypes := #[t, t] })
  (base : Nat) (e : TypeId) (i : TypeInfo) (z : Value) (size bytes : Nat) (ht : P.underlying t = some (.slice e)) (hi : P.info? e = some i) (hz : i.zero = some z)
  (hsize : i.size = size) (hby : i.bytes = bytes) (hzs : z.cells.size = size) (hsz : 0 < size)
  (v : Value) (n : Nat) (xs : List Value) (hs : a.eval s = v) (hown : w.ownsRow base e size v n xs)
  (ad : Addr) (m c : Nat) (news : List Value) (hx : a.eval x = .slice (some ad) m c) (hl : news.length = m * size) (hnews : ∀ j u, news[j]? = some u -> w.cell? (ad.add j) = some u) (h1 : ∀ u ∈ news, u.oneCell' = true)
  (h63 : n + m <= maxLen) (hbytes : (n + m) * bytes <= 140737488355328) (hbase : base <= w.heap.size)
  (h : ∀ v' w', w'.ownsRow base e size v' (n + m) (xs ++ news) -> w.grownBy w' v.ownBlock -> (v' = .slice none 0 0 ↔ v = .slice none 0 0 /\ m = 0) -> K (a.put o.dst v') w') :
  if Region.wanted o (yielded ops a.tmps) = true then Oper.wp P o a w K Q else E := by
 rw [if_pos (by simp [Region.wanted, hgd])]
 exact wp_append_own w s x t ho base e i z size bytes ht hi hz hsize hby hzs hsz v n xs hs hown ad m c news hx hl hnews h1 h63 hbytes hbase h
theorem dropWhile_all (p : UInt8 -> Bool) (A M : List UInt8) (hA : A.all p = true) : (A ++ M).dropWhile p = M.dropWhile p := by
 rw [List.dropWhile_append_of_pos]
 intro x hx
 exact List.all_eq_true.1 hA x hx
theorem trim_parts (A M B : List UInt8) (hA : A.all wsC = true) (hB : B.all wsC = true) (hM : M = [] ∨ ((∃ c r, M = c :: r /\ wsC c = false) /\ (∃ c r, M = r ++ [c] /\ wsC c = false))) : trimV (A ++ M ++ B) = M := by
 unfold trimV
 rcases hM with rfl | ⟨⟨c, r, h1, h2⟩, ⟨d, q, h3, h4⟩⟩
 ·rw [List.append_nil, dropWhile_all wsC A B hA]
  have : B.dropWhile wsC = [] := by
   have := dropWhile_all wsC B [] hB
   rw [List.append_nil] at this
   exact this
  rw [this]; rfl
 ·rw [List.append_assoc, dropWhile_all wsC A _ hA]
  have e1 : (M ++ B).dropWhile wsC = M ++ B := by rw [h1, List.cons_append, List.dropWhile_cons, h2]; rfl
  have hB' : B.reverse.all wsC = true := by rw [List.all_reverse]; exact hB
  have e2 : M.reverse.dropWhile wsC = M.reverse := by rw [h3, List.reverse_append, List.reverse_singleton, List.singleton_append, List.dropWhile_cons, h4]; rfl
  rw [e1, List.reverse_append, dropWhile_all wsC _ _ hB', e2, List.reverse_reverse]
theorem trim_of (l : List UInt8) (k m : Nat) (hkm : k <= m) (hm : m <= l.length) (hA : (l.take k).all wsC = true) (hB : (l.drop m).all wsC = true) (hM : k = m ∨ ((∃ h : k < l.length, wsC l[k] = false) /\ (∃ h : m - 1 < l.length, wsC l[m - 1] = false))) : trimV l = (l.drop k).take (m - k) := by
 have e : l = l.take k ++ (l.drop k).take (m - k) ++ l.drop m := by
  have h1 : (l.drop k).drop (m - k) = l.drop m := by rw [List.drop_drop]; congr 1; omega
  rw [List.append_assoc, <- h1, List.take_append_drop, List.take_append_drop]
 have := trim_parts (l.take k) ((l.drop k).take (m - k)) (l.drop m) hA hB ?_
 ·rw [<- e] at this; exact this
 ·by_cases hk : k = m
  ·left; rw [hk]; simp
  ·rcases hM with h | ⟨⟨h1, h2⟩, ⟨h3, h4⟩⟩
   ·exact absurd h hk
   ·right
    constructor
    ·refine ⟨l[k], (l.drop (k + 1)).take (m - k - 1), ?_, h2⟩
     rw [List.drop_eq_getElem_cons h1, show m - k = (m - k - 1) + 1 by omega, List.take_succ_cons]
     rfl
    ·refine ⟨l[m - 1], (l.drop k).take (m - 1 - k), ?_, h4⟩
     rw [show m - k = (m - 1 - k) + 1 by omega, List.take_add_one]
     congr 1
     rw [List.getElem?_drop, show k + (m - 1 - k) = m - 1 by omega, List.getElem?_eq_getElem h3]; rfl
def keepC (l : List UInt8) : List UInt8 := l.filter (fun c => !eyeC c)
theorem keepC_le (l : List UInt8) : (keepC l).length <= l.length := List.length_filter_le _ _
theorem keepC_yes (l : List UInt8) (c : UInt8) (h : eyeC c = true) : keepC (l ++ [c]) = keepC l := by simp [keepC, h]
theorem keepC_no (l : List UInt8) (c : UInt8) (h : eyeC c = false) : keepC (l ++ [c]) = keepC l ++ [c] := by simp [keepC, h]
theorem clean_keep (l : List UInt8) : cleanV l = keepC (trimV l) := rfl
theorem clean_le (l : List UInt8) : (cleanV l).length <= l.length := by
 rw [clean_keep]
 refine Nat.le_trans (keepC_le _) ?_
 unfold trimV
 rw [List.length_reverse]
 refine Nat.le_trans (List.dropWhile_suffix wsC).length_le ?_
 rw [List.length_reverse]
 exact (List.dropWhile_suffix wsC).length_le
theorem ws_yes {c : UInt8} (h : wsC c = true) : (c.toNat : Int) <= 32 := by
 have := of_decide_eq_true h; omega
theorem ws_no {c : UInt8} (h : wsC c = false) : 32 < (c.toNat : Int) := by
 have := of_decide_eq_false h; omega
theorem eye_no {c : UInt8} (h : eyeC c = false) : ((c.toNat : Int) != 9) = true /\ ((c.toNat : Int) != 10) = true /\ ((c.toNat : Int) != 13) = true := by
 have key : ∀ n < 256, eyeC (UInt8.ofNat n) = false -> (((UInt8.ofNat n).toNat : Int) != 9) = true /\ (((UInt8.ofNat n).toNat : Int) != 10) = true /\ (((UInt8.ofNat n).toNat : Int) != 13) = true := by decide +kernel
 have := key c.toNat c.toNat_lt
 have e : UInt8.ofNat c.toNat = c := by simp
 rw [e] at this
 exact this h
theorem eye_yes {c : UInt8} (h : eyeC c = true) : ((c.toNat : Int) != 9) = false ∨ (((c.toNat : Int) != 9) = true /\ ((c.toNat : Int) != 10) = false) ∨ (((c.toNat : Int) != 9) = true /\ ((c.toNat : Int) != 10) = true /\ ((c.toNat : Int) != 13) = false) := by
 have key : ∀ n < 256, eyeC (UInt8.ofNat n) = true -> (((UInt8.ofNat n).toNat : Int) != 9) = false ∨ ((((UInt8.ofNat n).toNat : Int) != 9) = true /\ (((UInt8.ofNat n).toNat : Int) != 10) = false) ∨ ((((UInt8.ofNat n).toNat : Int) != 9) = true /\ (((UInt8.ofNat n).toNat : Int) != 10) = true /\ (((UInt8.ofNat n).toNat : Int) != 13) = false) := by decide +kernel
 have := key c.toNat c.toNat_lt
 have e : UInt8.ofNat c.toNat = c := by simp
 rw [e] at this
 exact this h
theorem rowIs_same {w w' : World} {g : Nat} {e : TypeId} {l : List UInt8} (h : rowIs w g e l) (hb : w'.heap[g]? = w.heap[g]?) : rowIs w' g e l := by
 unfold rowIs at *
 rw [hb]; exact h
theorem all_snoc {p : UInt8 -> Bool} (s : ByteArray) (k : Nat) (h : k < s.size) (ha : (s.data.toList.take k).all p = true) (hb : p s[k] = true) : (s.data.toList.take (k + 1)).all p = true := by
 rw [take_snoc s k h, List.all_append, ha]; simp [hb]
theorem all_cons {p : UInt8 -> Bool} (s : ByteArray) (k : Nat) (h : k < s.size) (ha : (s.data.toList.drop (k + 1)).all p = true) (hb : p s[k] = true) : (s.data.toList.drop k).all p = true := by
 rw [drop_cons s k h, List.all_cons, ha, hb]; rfl
theorem cleaned_any (s : ByteArray) (w : World) (hs : s.size <= 4000000000) :
    Calls Tryz.prog 247 #[.string s] w fun e w' => e = .returned (.string ⟨(cleanV s.data.toList).toArray⟩) /\ Below w.heap.size w w' := by
  obtain ⟨i0, hi, hz0, hz1, hz2⟩ := info_parts infoByte
  go_enter Tryz.func247, Tryz.ntmps247
  go_wp2
  go_loop [3] (fun i => ∃ k : Nat, k <= s.size /\ i = .int .i64 k /\ (s.data.toList.take k).all wsC = true) (fun i => s.size - (intOf i).toNat)
  case atStart => exact ⟨0, Nat.zero_le _, rfl, rfl⟩
  case round =>
    obtain ⟨k, hk, rfl, hall⟩ := hrel
    have HA := hid hall
    clear hall
    have hcase : (∃ h : k < s.size, wsC s[k] = true) ∨ (∃ h : k < s.size, wsC s[k] = false) ∨ k = s.size := by
      by_cases h : k < s.size
      · cases hb : wsC s[k]
        · exact .inr (.inl ⟨h, hb⟩)
        · exact .inl ⟨h, hb⟩
      · exact .inr (.inr (by omega))
    rcases hcase with ⟨hlt, hb⟩ | hcase
    · have HN := hid (all_snoc s k hlt HA.out hb)
      have hb2 := ws_yes hb
      clear hb
      go_wp2
      go_round
      case rel => exact ⟨k + 1, by omega, by go_num, HN.out⟩
      case measure => simp [intOf]; omega
    · have HX : Hid (s.size <= k ∨ ∃ h : k < s.data.toList.length, wsC s.data.toList[k] = false) := by
        rcases hcase with ⟨h, hb⟩ | h
        · exact .inr ⟨by simpa using h, hb⟩
        · exact .inl (by omega)
      have hgo : (∃ hlt : k < s.size, (32 : Int) < (s[k].toNat : Int)) ∨ ¬ (k : Int) < (s.size : Int) := by
        rcases hcase with ⟨h, hb⟩ | h
        · exact .inl ⟨h, ws_no hb⟩
        · exact .inr (by omega)
      clear hcase
      rcases hgo with ⟨hlt, hb2⟩ | hlt
      all_goals
        go_wp2
        go_loop [4] (fun i => ∃ m : Nat, k <= m /\ m <= s.size /\ i = .int .i64 m /\ (s.data.toList.drop m).all wsC = true) (fun i => (intOf i).toNat)
        case atStart => exact ⟨s.size, hk, Nat.le_refl _, rfl, by rw [List.drop_of_length_le (by simp)]; rfl⟩
        case round =>
          obtain ⟨m, hkm, hms, rfl, hall⟩ := hrel
          have HB := hid hall
          clear hall
          have hcase : (∃ (m' : Nat) (h : m' < s.size), m = m' + 1 /\ k <= m' /\ wsC s[m'] = true) ∨ (∃ (m' : Nat) (h : m' < s.size), m = m' + 1 /\ k <= m' /\ wsC s[m'] = false) ∨ k = m := by
            by_cases h : k < m
            · have h1 : m - 1 < s.size := by omega
              cases hb : wsC s[m - 1]
              · exact .inr (.inl ⟨m - 1, h1, by omega, by omega, hb⟩)
              · exact .inl ⟨m - 1, h1, by omega, by omega, hb⟩
            · exact .inr (.inr (by omega))
          rcases hcase with ⟨m', hlt, rfl, hkm', hb⟩ | hcase
          · have HN := hid (all_cons s m' hlt HB.out hb)
            have hb3 := ws_yes hb
            have hkm2 : (k : Int) < ((m' : Nat) : Int) + 1 := by omega
            clear hb
            go_wp2
            go_round
            case rel => exact ⟨m', hkm', by omega, by go_num, HN.out⟩
            case measure => simp [intOf]
          · have HY := hid (trim_of s.data.toList k m hkm (by simpa using hms) HA.out HB.out (by
              rcases hcase with ⟨m', h, e, h2, h3⟩ | h
              · rcases HX.out with h4 | h4
                · exact .inl (by omega)
                · subst e
                  exact .inr ⟨h4, by simpa using h, h3⟩
              · exact .inl h))
            have hgo2 : (∃ (m' : Nat) (h : m' < s.size), m = m' + 1 /\ k <= m' /\ (32 : Int) < (s[m'].toNat : Int)) ∨ k = m := by
              rcases hcase with ⟨m', h, e, h2, h3⟩ | h
              · exact .inl ⟨m', h, e, h2, ws_no h3⟩
              · exact .inr h
            clear hcase
            obtain ⟨n, rfl⟩ : ∃ n, m = k + n := ⟨m - k, by omega⟩
            obtain ⟨T, hT⟩ : ∃ T : ByteArray, s.extract k (k + n) = T := ⟨_, rfl⟩
            have hTl : T.data.toList = trimV s.data.toList := by rw [HY.out, <- hT, Lib.extract_data]
            have hTs : T.size = n := by rw [<- hT]; simp; omega
            have HTl := hid hTl
            clear hTl
            have hgo3 : (∃ (m' : Nat) (h : m' < s.size), ((k : Int) + (n : Int) - 1 = (m' : Int)) /\ (k : Int) < (k : Int) + (n : Int) /\ (32 : Int) < (s[m'].toNat : Int)) ∨ ¬ (k : Int) < (k : Int) + (n : Int) := by
              rcases hgo2 with ⟨m', h, e, h2, h3⟩ | h
              · exact .inl ⟨m', h, by omega, by omega, h3⟩
              · exact .inr (by omega)
            clear hgo2
            have hkn : (k : Int) + (n : Int) - (k : Int) = (n : Int) := by omega
            have hkn2 : (k : Int) <= (k : Int) + (n : Int) := by omega
            have hkn3 : (k : Int) + (n : Int) <= (s.size : Int) := by omega
            rcases hgo3 with ⟨m', hlt2, hm1, hkm2, hb3⟩ | hkm2
            all_goals
              first
              | (exfalso; omega)
              | (go_wp2_with (at_make; refine wpList_make_own _ rfl _ _ 116 rfl w.heap.size 5 i0 (.int .u8 0) 1 Tryz.underlying116 hi hz0 hz1 .i64 .i64 _ n rfl rfl rfl (by rw [hz2]; omega) (by unfold maxLen; omega) (Nat.le_refl _) ?_)
                 intro w0 hown0 hgrow0
                 have hb0 : Below w.heap.size w w0 := (Below.refl _ w).grown hgrow0 (Nat.le_refl _) (fun k hk => by simp at hk)
                 have hlt0 := (hown0.lt w.heap.size rfl).2
                 clear hgrow0
                 have hcv := run_bytes_of_string (P := Tryz.prog) w0 9 116 5 T Tryz.underlying9 Tryz.underlying116 Tryz.underlying5
                 have hcap := grownCap_ge w0 T.size 0 5
                 have hr0 := rowIs_bytes w0 5 T (grownCap w0 T.size 0 5) hcap
                 have hb1 : Below w0.heap.size w0 (w0.drew.alloc (.cells (bytesRow T (grownCap w0 T.size 0 5)) 5 ((bytesRow T (grownCap w0 T.size 0 5)).size, (bytesRow T (grownCap w0 T.size 0 5)).size + 1))) := (Below.refl _ w0).drew.alloc (Nat.le_refl _) _
                 have hown1 := (show w0.drew.ownsRow w.heap.size 5 1 (Value.slice (some ⟨w.heap.size, 0, none⟩) 0 n) 0 [] from hown0).alloc (.cells (bytesRow T (grownCap w0 T.size 0 5)) 5 ((bytesRow T (grownCap w0 T.size 0 5)).size, (bytesRow T (grownCap w0 T.size 0 5)).size + 1))
                 generalize (w0.drew.alloc (.cells (bytesRow T (grownCap w0 T.size 0 5)) 5 ((bytesRow T (grownCap w0 T.size 0 5)).size, (bytesRow T (grownCap w0 T.size 0 5)).size + 1))) = w1 at hcv hr0 hb1 hown1
                 generalize grownCap w0 T.size 0 5 = cap at hcv hcap
                 rw [hTs] at hcv
                 go_wp2
                 clear hcv hT
                 go_loopw [5, 43] (fun v i wr => ∃ j : Nat, j <= n /\ i = .int .i64 j /\ wr.ownsRow w.heap.size 5 1 v (keepC (T.data.toList.take j)).length (Lib.byteCells (keepC (T.data.toList.take j))) /\ Below w.heap.size w wr /\ rowIs wr w0.heap.size 5 T.data.toList /\ v ≠ .slice none 0 0 /\ v.ownBlock ≠ some w0.heap.size)
                   (fun _ i _ => n - (intOf i).toNat)
                 case atStart =>
                   refine ⟨0, Nat.zero_le _, rfl, hown1, below2 hb0 hb1, hr0, by simp, ?_⟩
                   simp [Value.ownBlock]; omega
                 case round =>
                   obtain ⟨j, hj, rfl, hown, hbw, hr, hnn, hne⟩ := hrel
                   have hle := keepC_le (T.data.toList.take j)
                   have htl : (T.data.toList.take j).length <= j := List.length_take_le _ _
                   by_cases hjn : j < n
                   · first
                     | (exfalso; omega)
                     | (have hjT : j < T.size := by omega
                        have hjl : j < T.data.toList.length := by simpa using hjT
                        have HT := hid (take_snoc T j hjT)
                        have hc := hr.cell j hjl
                        have HR := hid hr
                        have HO := hid hown
                        have hcc : T.data.toList[j] = T[j] := rfl
                        rw [hcc] at hc
                        clear hr hown hcc
                        have hc8 : T[j].toNat < 256 := T[j].toNat_lt
                        by_cases he : eyeC T[j] = true
                        · have HK := hid (keepC_yes (T.data.toList.take j) T[j] he)
                          rcases eye_yes he with e1 | ⟨e1, e2⟩ | ⟨e1, e2, e3⟩
                          all_goals
                            clear he
                            go_wp2
                            go_roundw
                            case rel => exact ⟨j + 1, by omega, by go_num, by rw [HT.out, HK.out]; exact HO.out, hbw, HR.out, hnn, hne⟩
                            case measure => simp [intOf]; omega
                        · have he' : eyeC T[j] = false := by simpa using he
                          have HK := hid (keepC_no (T.data.toList.take j) T[j] he')
                          obtain ⟨e1, e2, e3⟩ := eye_no he'
                          have hwr := hbw.size
                          have hg0 : w0.heap.size < wr.heap.size := by
                            obtain ⟨C, fz, hgg, _⟩ := HR.out
                            exact (Array.getElem?_eq_some_iff.1 hgg).1
                          clear he he'
                          go_wp2_with (at_builtin; refine wpList_append_where _ rfl _ _ 116 rfl w.heap.size 5 i0 (.int .u8 0) 1 1 Tryz.underlying116 hi hz0 hz1 hz2 rfl (by decide) _ _ _ rfl (HO.out.alloc _) ⟨wr.heap.size, 0, none⟩ 1 1 [.int .u8 T[j].toNat] rfl rfl ?c1 ?c2 ?c3 ?c4 ?c5 (by decide) ?_)
                          case c1 =>
                            intro q u hq
                            match q, hq with
                            | 0, hq => simp at hq; subst hq; simp [Addr.add]
                          case c2 => intro u hu; simp at hu; subst hu; rfl
                          case c3 => unfold maxLen; omega
                          case c4 => omega
                          case c5 => simp; omega
                          intro v' w2 hown' hgrow hat
                          have HR2 := hid (rowIs_same (w' := w2) HR.out (by
                            rw [hgrow.block w0.heap.size (by simp; omega) (fun e => hne e.symm)]
                            exact ((Below.refl wr.heap.size wr).alloc (Nat.le_refl _) _).block _ hg0))
                          have HO2 := hid hown'
                          have HB2 := hid (show Below w.heap.size w w2 from (hbw.alloc hbw.size _).grown hgrow (by simp; omega) (fun g hg => (HO.out.lt g hg).1))
                          have HAt := hid (show v' ≠ .slice none 0 0 /\ v'.ownBlock ≠ some w0.heap.size by
                            obtain ⟨g', cap', rfl, hg'⟩ := hat
                            refine ⟨by simp, ?_⟩
                            intro e
                            simp [Value.ownBlock] at e
                            rcases hg' with h | h
                            · exact hne (by rw [h, e])
                            · simp at h; omega)
                          clear hown' hgrow hat
                          go_wp2
                          go_roundw
                          case rel =>
                            refine ⟨j + 1, by omega, by go_num, ?_, HB2.out, HR2.out, HAt.out.1, HAt.out.2⟩
                            rw [HT.out, HK.out, Lib.byteCells_append, byteCells_one]
                            have := HO2.out
                            simpa using this
                          case measure => simp [intOf]; omega)
                   · have hje : j = n := by omega
                     subst hje
                     have hTj : T.data.toList.take j = T.data.toList := List.take_of_length_le (by simp; omega)
                     rw [hTj, HTl.out, <- clean_keep] at hown
                     have hcv2 := run_string_own (P := Tryz.prog) (src := 116) (dst := 9) Tryz.underlying116 Tryz.underlying5 Tryz.underlying9 hown hnn
                     go_wp2
                     go_ret
                     exact ⟨rfl, hbw⟩)
def colJ (s : ByteArray) (w : World) (l : Nat) (a : Act) (w' : World) : Prop :=
 w' = w /\ ∃ (i k : Nat) (u7 u8 u9 u10 u11 u12 u13 u14 u15 u16 u17 u18 u19 u20 u21 u22 u23 u24 u25 u26 u27 u28 u29 u30 u31 u32 u33 u34 u35 u36 : Value), a = { tmps := #[.string s, undef, .int .i64 0, .int .i64 i, .int .i64 k, .string s, .int .i64 s.size, u7, u8, u9, u10, u11, u12, u13, u14, u15, u16, u17, u18, u19, u20, u21, u22, u23, u24, u25, u26, u27, u28, u29, u30, u31, u32, u33, u34, u35, u36], defers := [] } /\ i < s.size /\ k <= s.size /\ (l = 0 ∨ l = 1) /\ colN (l == 0) (i + 1) k (s.data.toList.drop (i + 1)) = colV s.data.toList
theorem exitMany_ret {J : Nat -> Act -> World -> Prop} {Q : Exit -> Act -> World -> Prop} {a : Act} {w : World} : exitMany J Q .ret a w = Q .ret a w := rfl
theorem byte_is {s : ByteArray} {n : Nat} {h : n < s.size} {c : UInt8} (e : s[n] = c) : ((s[n].toNat : Int) == (c.toNat : Int)) = true := by rw [e]; exact beq_self_eq_true _
theorem byte_not {s : ByteArray} {n : Nat} {h : n < s.size} {c : UInt8} (e : ¬ s[n] = c) : ((s[n].toNat : Int) == (c.toNat : Int)) = false := by
 rw [beq_eq_false_iff_ne]
 intro h2
 exact e (UInt8.toNat_inj.1 (by omega))
theorem colonOfPort_any (s : ByteArray) (w : World) (hs : s.size <= 4000000000) :
  Calls Tryz.prog 253 #[.string s] w fun e w' => e = .returned (.int .i64 (colV s.data.toList : Nat)) /\ w = w' := by
 go_enter Tryz.func253, Tryz.ntmps253
 go_wp2
 refine wp_scope_many (colJ s w) (fun _ a _ => s.size - (intOf (a.tmps.getD 3 undef)).toNat) ?_ ?_
 ·go_wp2
  go_step3
  go_wp2
  go_loop [3, 4] (fun i k => ∃ n m : Nat, i = .int .i64 n /\ k = .int .i64 m /\ 0 <= n /\ n <= s.size /\ m <= s.size /\ colN false n m (s.data.toList.drop n) = colV s.data.toList) (fun i _ => s.size - (intOf i).toNat)
  case atStart => exact ⟨0, s.size, rfl, rfl, Nat.le_refl _, Nat.zero_le _, Nat.le_refl _, by rw [List.drop_zero, colV]; simp⟩
  case round =>
   obtain ⟨n, m, rfl, rfl, hn0, hn, hm, hcol⟩ := hrel
   have HC := hid hcol
   clear hcol
   by_cases hlt : n < s.size
   ·have HD := hid (drop_cons s n hlt)
    by_cases h58 : s[n] = 58
    ·have e58 : ((s[n].toNat : Int) == 58) = true := byte_is h58
     have HN := hid (show colN false (n + 1) n (s.data.toList.drop (n + 1)) = colV s.data.toList by rw [<- HC.out, HD.out, h58]; rfl)
     clear h58
     go_wp2
     go_round
     case rel => exact ⟨n + 1, n, by go_num, rfl, by omega, by omega, by omega, HN.out⟩
     case measure => simp [intOf]; omega
    ·have e58 : ((s[n].toNat : Int) == 58) = false := byte_not h58
     by_cases h91 : s[n] = 91
     ·have e91 : ((s[n].toNat : Int) == 91) = true := byte_is h91
      have HN := hid (show colN true (n + 1) m (s.data.toList.drop (n + 1)) = colV s.data.toList by rw [<- HC.out, HD.out, h91]; rfl)
      clear h58 h91
      go_wp2
      go_step3
      refine ⟨rfl, n, m, ?_⟩
      (repeat apply Exists.intro)
      exact ⟨rfl, hlt, hm, .inl rfl, HN.out⟩
     ·have e91 : ((s[n].toNat : Int) == 91) = false := byte_not h91
      have HN := hid (show colN false (n + 1) m (s.data.toList.drop (n + 1)) = colV s.data.toList by rw [<- HC.out, HD.out, colN, if_neg h58, if_neg h91])
      clear h58 h91
      go_wp2
      go_round
      case rel => exact ⟨n + 1, m, by go_num, rfl, by omega, by omega, by omega, HN.out⟩
      case measure => simp [intOf]; omega
   ·have HN := hid (show m = colV s.data.toList by rw [<- HC.out, drop_none s n hlt]; cases n <;> rfl)
    go_wp2
    rw [exitMany_ret]
    go_ret
    rw [<- HN.out]
    exact ⟨rfl, rfl⟩
 ·rintro l a w' ⟨rfl, i0, m, u7, u8, u9, u10, u11, u12, u13, u14, u15, u16, u17, u18, u19, u20, u21, u22, u23, u24, u25, u26, u27, u28, u29, u30, u31, u32, u33, u34, u35, u36, rfl, hi0, hm, hl, hcol0⟩
  have HC0 := hid hcol0
  clear hcol0
  rcases hl with rfl | rfl
  ·refine ⟨_, rfl, ?_⟩
   go_wp2
   go_loop [3] (fun i => ∃ n : Nat, i = .int .i64 n /\ i0 + 1 <= n /\ n <= s.size /\ colN true n m (s.data.toList.drop n) = colV s.data.toList) (fun i => s.size - (intOf i).toNat)
   case atStart => exact ⟨i0 + 1, by go_num, by omega, by omega, HC0.out⟩
   case round =>
    obtain ⟨n, rfl, hn0, hn, hcol⟩ := hrel
    have HC := hid hcol
    clear hcol
    by_cases hlt : n < s.size
    ·have HD := hid (drop_cons s n hlt)
     by_cases h93 : s[n] = 93
     ·have e93 : ((s[n].toNat : Int) == 93) = true := byte_is h93
      have HN := hid (show colN false (n + 1) m (s.data.toList.drop (n + 1)) = colV s.data.toList by rw [<- HC.out, HD.out, h93]; rfl)
      clear h93
      go_wp2
      go_step3
      refine ⟨⟨rfl, n, m, ?_⟩, ?_⟩
      ·(repeat apply Exists.intro)
       exact ⟨rfl, hlt, hm, .inr rfl, HN.out⟩
      ·simp [intOf]; omega
     ·have e93 : ((s[n].toNat : Int) == 93) = false := byte_not h93
      have HN := hid (show colN true (n + 1) m (s.data.toList.drop (n + 1)) = colV s.data.toList by rw [<- HC.out, HD.out, colN, if_neg h93])
      clear h93
      go_wp2
      go_round
      case rel => exact ⟨n + 1, by go_num, by omega, by omega, HN.out⟩
      case measure => simp [intOf]; omega
    ·have HN := hid (show m = colV s.data.toList by rw [<- HC.out, drop_none s n hlt]; cases n <;> rfl)
     go_wp2
     rw [exitMany_ret]
     go_ret
     rw [<- HN.out]
     exact ⟨rfl, rfl⟩
  ·refine ⟨_, rfl, ?_⟩
   go_wp2
   go_loop [3, 4] (fun i k => ∃ n m : Nat, i = .int .i64 n /\ k = .int .i64 m /\ i0 + 1 <= n /\ n <= s.size /\ m <= s.size /\ colN false n m (s.data.toList.drop n) = colV s.data.toList) (fun i _ => s.size - (intOf i).toNat)
   case atStart => exact ⟨i0 + 1, m, by go_num, rfl, Nat.le_refl _, by omega, hm, HC0.out⟩
   case round =>
    obtain ⟨n, m_1, rfl, rfl, hn0, hn, hm, hcol⟩ := hrel
    have HC := hid hcol
    clear hcol
    by_cases hlt : n < s.size
    ·have HD := hid (drop_cons s n hlt)
     by_cases h58 : s[n] = 58
     ·have e58 : ((s[n].toNat : Int) == 58) = true := byte_is h58
      have HN := hid (show colN false (n + 1) n (s.data.toList.drop (n + 1)) = colV s.data.toList by rw [<- HC.out, HD.out, h58]; rfl)
      clear h58
      go_wp2
      go_round
      case rel => exact ⟨n + 1, n, by go_num, rfl, by omega, by omega, by omega, HN.out⟩
      case measure => simp [intOf]; omega
     ·have e58 : ((s[n].toNat : Int) == 58) = false := byte_not h58
      by_cases h91 : s[n] = 91
      ·have e91 : ((s[n].toNat : Int) == 91) = true := byte_is h91
       have HN := hid (show colN true (n + 1) m_1 (s.data.toList.drop (n + 1)) = colV s.data.toList by rw [<- HC.out, HD.out, h91]; rfl)
       clear h58 h91
       go_wp2
       go_step3
       refine ⟨⟨rfl, n, m_1, ?_⟩, ?_⟩
       ·(repeat apply Exists.intro)
        exact ⟨rfl, hlt, hm, .inl rfl, HN.out⟩
       ·simp [intOf]; omega
      ·have e91 : ((s[n].toNat : Int) == 91) = false := byte_not h91
       have HN := hid (show colN false (n + 1) m_1 (s.data.toList.drop (n + 1)) = colV s.data.toList by rw [<- HC.out, HD.out, colN, if_neg h58, if_neg h91])
       clear h58 h91
       go_wp2
       go_round
       case rel => exact ⟨n + 1, m_1, by go_num, rfl, by omega, by omega, by omega, HN.out⟩
       case measure => simp [intOf]; omega
    ·have HN := hid (show m_1 = colV s.data.toList by rw [<- HC.out, drop_none s n hlt]; cases n <;> rfl)
     go_wp2
     rw [exitMany_ret]
     go_ret
     rw [<- HN.out]
     exact ⟨rfl, rfl⟩
end Go.Proofs.YtooihpkoplgmbaaGreatDoor
