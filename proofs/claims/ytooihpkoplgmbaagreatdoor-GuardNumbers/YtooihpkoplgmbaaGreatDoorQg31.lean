/- Walks and plain facts. -/
import Derived.Test.YtooihpkoplgmbaaGreatDoorQg30
set_option linter.unusedSimpArgs false
set_option linter.unusedVariables false
set_option maxHeartbeats 16000000
set_option maxRecDepth 100000

namespace Go.Proofs.YtooihpkoplgmbaaGreatDoor
open Go.RowKit
theorem infoIt : (Tryz.prog.info? 206).map (fun i => (i.zero, i.size, i.bytes)) = some (some (.agg #[.int .i64 0, .string ByteArray.empty, .string ByteArray.empty]), 3, 40) := by kernel_rfl
theorem enters_blank : ∀ args w, (callFunc 211 args).run Tryz.prog w = .ok (.enter 211 args) w := enters_of Tryz.func211 (by kernel_rfl) rfl
theorem fields9 (s : ByteArray) (w : World) (hs : s.size <= 4294967296) :
  Calls Tryz.prog 59 #[.string s, .func (.func 211) #[] #[]] w fun e w' => ∃ A, e = .returned (.slice (some ⟨A, 0, none⟩) (words9 s.data.toList).length (words9 s.data.toList).length) /\
   (∀ j (hj : j < (words9 s.data.toList).length), w'.cell? ⟨A, j, none⟩ = some (.string ⟨(words9 s.data.toList)[j].toArray⟩)) /\ Below w.heap.size w w' := by
 have h := Tryz.strings_FieldsFunc_runes 211 #[] enters_blank p9 s w hs (fun W x hx hb => by
  refine (blank9_any x W).mono ?_
  rintro e w' ⟨rfl, rfl⟩
  exact ⟨rfl, 0, rfl⟩)
 rw [fields_words, List.length_map, List.map_map] at h
 refine h.mono ?_
 rintro e w' ⟨A, rfl, hA, hown, hb⟩
 refine ⟨A, rfl, fun j hj => ?_, hb⟩
 rw [hown.cellAt j (by omega)]
 simp [hj]
theorem own_lower9 {w : World} {B B' : Nat} {e : TypeId} {size : Nat} {v : Value} {n : Nat} {xs : List Value} (h : w.ownsRow B e size v n xs) (hB : B' <= B) : w.ownsRow B' e size v n xs := by
 refine ⟨h.1, ?_⟩
 rcases h.2 with h | ⟨g, cap, cur, hv, h1, h2⟩
 ·exact .inl h
 ·exact .inr ⟨g, cap, cur, hv, by omega, h2⟩
def ParsePost9 (l : List UInt8) (w : World) (e : Ending) (w' : World) : Prop :=
 ∃ v, e = .returned v /\ w'.ownsRow w.heap.size 206 3 v (parse9 l).length (cellsI9 (parse9 l)) /\ Below w.heap.size w w'
theorem words_at (l : List UInt8) (k : Nat) (hk : k < (words9 l).length) : (words9 l)[k].length <= l.length := by
 have := (wds_len l []).2 _ (List.getElem_mem hk)
 simpa using this
theorem parse9_any (s : ByteArray) (w : World) (hg : Gm w) (hs : s.size <= 1000000000) :
  Calls Tryz.prog 178 #[.string s] w (ParsePost9 s.data.toList w) := by
 obtain ⟨i0, hi, hz0, hz1, hz2⟩ := info_parts infoIt
 obtain ⟨W, hW⟩ : ∃ W, W = words9 s.data.toList := ⟨_, rfl⟩
 have HWL := hid (show W.length <= 1000000001 by rw [hW]; have := (wds_len s.data.toList []).1; rw [<- Lib.size_eq] at this; unfold words9; omega)
 have HWA := hid (show ∀ k (hk : k < W.length), W[k].length <= 1000000000 by subst hW; intro k hk; have := words_at s.data.toList k hk; rw [<- Lib.size_eq] at this; omega)
 have HPE := hid (show parse9 s.data.toList = W.filterMap itemV by rw [hW]; rfl)
 have HG := hid hg
 obtain ⟨n, hn⟩ : ∃ n, n = W.length := ⟨_, rfl⟩
 have HN := hid hn
 have HF := hid (show Calls Tryz.prog 59 #[.string s, .func (.func 211) #[] #[]] w fun e w' => ∃ A, e = .returned (.slice (some ⟨A, 0, none⟩) n n) /\ (∀ j (hj : j < W.length), w'.cell? ⟨A, j, none⟩ = some (.string ⟨W[j].toArray⟩)) /\ Below w.heap.size w w' by
  subst hW
  rw [hn]
  exact fields9 s w (by omega))
 rw [<- hn] at HWL
 clear hW hg hn
 go_enter Tryz.func178, Tryz.ntmps178
 go_wp2_with fail
 refine HF.out.mono ?_
 rintro e w1 ⟨A, rfl, hA, hb1⟩
 have HA := hid hA
 have HB1 := hid hb1
 clear hA hb1 HF
 have hnb : n <= 1000000001 := HWL.out
 go_wp2_with fail
 go_loopw [3, 11] (fun v3 v11 wr => ∃ k m : Nat, k <= n /\ m <= k /\ v11 = .int .i64 k /\ Hid (m = ((W.take k).filterMap itemV).length /\ wr.ownsRow w1.heap.size 206 3 v3 m (cellsI9 ((W.take k).filterMap itemV)) /\ Below w1.heap.size w1 wr /\ Below w.heap.size w wr)) (fun _ v11 _ => n - (intOf v11).toNat)
 case atStart => exact ⟨0, 0, Nat.zero_le _, Nat.zero_le _, rfl, rfl, World.ownsRow_nil _ _ _ _, Below.refl _ _, HB1.out⟩
 case round =>
  obtain ⟨k, m, hk, hmk, rfl, HR⟩ := hrel
  by_cases hlt : k < n
  ·have hkW : k < W.length := by have := HN.out; omega
   obtain ⟨X, hX⟩ : ∃ X : ByteArray, X = ⟨W[k].toArray⟩ := ⟨_, rfl⟩
   have cA : wr.cell? ⟨A, k, none⟩ = some (.string X) := by rw [hX]; exact kept_cell (HA.out k hkW) HR.out.2.2.1
   have hXs : X.size <= 4000000000 := by have := HWA.out k hkW; rw [Lib.size_eq, hX]; show W[k].length <= _; omega
   have HT := hid (show (W.take (k + 1)).filterMap itemV = (W.take k).filterMap itemV ++ (match itemV X.data.toList with | some x => [x] | none => []) by
    rw [List.take_succ_eq_append_getElem hkW, List.filterMap_append, hX]
    congr 1
    show List.filterMap itemV [W[k]] = _
    cases h : itemV W[k] <;> simp [h])
   have HI := hid (item9_any X wr (HG.out.kept HR.out.2.2.2) hXs)
   have hin : (k : Int) < (n : Int) := by omega
   clear hX hXs hkW
   rcases hiv : itemV X.data.toList with _ | x
   ·have HV := hid hiv
    have HI2 := hid (show Calls Tryz.prog 212 #[.string X] wr fun e w' => e = .returned (.tuple #[.agg #[.int .i64 0, .string ⟨#[]⟩, .string ⟨#[]⟩], .bool false]) /\ Below wr.heap.size wr w' by
     refine HI.out.mono ?_
     rintro e w' ⟨rfl, hb⟩
     rw [HV.out]
     exact ⟨rfl, hb⟩)
    rw [HV.out] at HT
    clear hiv HI
    go_wp2_with fail
    refine HI2.out.mono ?_
    rintro e w2 ⟨rfl, hb2⟩
    have HB2 := hid hb2
    clear hb2
    go_wp2_with fail
    go_roundw
    case rel =>
     have hbw : Below wr.heap.size wr (w2.alloc (.cells #[.int .i64 0, .string ⟨#[]⟩, .string ⟨#[]⟩] 206)) := below2 HB2.out ((Below.refl _ _).alloc (Nat.le_refl _) _)
     have e3 := HR.out
     have e4 : (m = ((W.take (k + 1)).filterMap itemV).length /\ (w2.alloc (.cells #[.int .i64 0, .string ⟨#[]⟩, .string ⟨#[]⟩] 206)).ownsRow w1.heap.size 206 3 u3 m (cellsI9 ((W.take (k + 1)).filterMap itemV)) /\ Below w1.heap.size w1 (w2.alloc (.cells #[.int .i64 0, .string ⟨#[]⟩, .string ⟨#[]⟩] 206)) /\ Below w.heap.size w (w2.alloc (.cells #[.int .i64 0, .string ⟨#[]⟩, .string ⟨#[]⟩] 206))) := by
      rw [HT.out, List.append_nil]
      exact ⟨e3.1, own_kept e3.2.1 hbw, below2 e3.2.2.1 hbw, below2 e3.2.2.2 hbw⟩
     first
      | exact ⟨k + 1, m, by omega, by omega, by go_num, e4⟩
      | ((repeat apply Exists.intro); refine ⟨?_, rfl⟩; exact ⟨k + 1, m, by omega, by omega, by go_num, e4⟩)
      | ((repeat apply Exists.intro); exact ⟨⟨k + 1, m, by omega, by omega, by go_num, e4⟩, rfl⟩)
    case measure => simp [intOf]; omega
   ·have HV := hid hiv
    obtain ⟨b, hbx⟩ : ∃ b, b = x.bits := ⟨_, rfl⟩
    obtain ⟨V, hVx⟩ : ∃ V : ByteArray, V = ⟨x.want.toArray⟩ := ⟨_, rfl⟩
    obtain ⟨O, hOx⟩ : ∃ V : ByteArray, V = ⟨x.opt.toArray⟩ := ⟨_, rfl⟩
    have HI2 := hid (show Calls Tryz.prog 212 #[.string X] wr fun e w' => e = .returned (.tuple #[.agg #[.int .i64 b, .string V, .string O], .bool true]) /\ Below wr.heap.size wr w' by
     refine HI.out.mono ?_
     rintro e w' ⟨rfl, hb⟩
     rw [HV.out, hbx, hVx, hOx]
     exact ⟨rfl, hb⟩)
    have HCE := hid (show cellsI9 [x] = [.int .i64 b, .string V, .string O] by rw [hbx, hVx, hOx]; rfl)
    rw [HV.out] at HT
    clear hiv HI hbx hVx hOx
    go_wp2_with fail
    refine HI2.out.mono ?_
    rintro e w2 ⟨rfl, hb2⟩
    have HB2 := hid hb2
    clear hb2
    have HX3 := hid (show Below wr.heap.size wr (w2.alloc (.cells #[.int .i64 b, .string V, .string O] 206)) from below2 HB2.out ((Below.refl _ _).alloc (Nat.le_refl _) _))
    have HO3 := hid (own_kept HR.out.2.1 HX3.out)
    have HSZ := hid (show w1.heap.size <= w2.heap.size from Nat.le_trans HR.out.2.2.1.size HB2.out.size)
    go_wp2_with (at_builtin; refine wpList_append_own _ rfl _ _ 203 rfl w1.heap.size 206 i0 _ 3 40 Tryz.underlying203 hi hz0 hz1 hz2 rfl (by decide) _ _ _ rfl (HO3.out.alloc _) ⟨w2.heap.size + 1, 0, none⟩ 1 1 [.int .i64 b, .string V, .string O] rfl rfl ?c1 ?c2 (by unfold maxLen; omega) (by omega) (by have := HSZ.out; simp; omega) ?_)
    case c1 =>
     intro q u hq
     match q, hq with
     | 0, hq => simp at hq; subst hq; simp [Addr.add]
     | 1, hq => simp at hq; subst hq; simp [Addr.add]
     | 2, hq => simp at hq; subst hq; simp [Addr.add]
    case c2 => intro u hu; simp at hu; rcases hu with rfl | rfl | rfl <;> rfl
    intro v4 w4 hown hgrow hnil
    have HR4 := hid (show m + 1 = ((W.take (k + 1)).filterMap itemV).length /\ w4.ownsRow w1.heap.size 206 3 v4 (m + 1) (cellsI9 ((W.take (k + 1)).filterMap itemV)) /\ Below w1.heap.size w1 w4 /\ Below w.heap.size w w4 by
     have e1 : Below w1.heap.size w1 w4 := ((below2 HR.out.2.2.1 HX3.out).alloc (by have := HSZ.out; simp; omega) _).grown hgrow (by have := HSZ.out; simp; omega) (fun k hk => (HO3.out.lt k hk).1)
     refine ⟨?_, ?_, e1, below2 HB1.out e1⟩
     ·rw [HT.out, List.length_append, <- HR.out.1]; rfl
     ·rw [HT.out, cellsI_app9, HCE.out]
      exact hown)
    go_wp2_with fail
    go_roundw
    case rel =>
     first
      | exact ⟨k + 1, m + 1, by omega, by omega, by go_num, HR4.out⟩
      | ((repeat apply Exists.intro); refine ⟨?_, rfl⟩; exact ⟨k + 1, m + 1, by omega, by omega, by go_num, HR4.out⟩)
      | ((repeat apply Exists.intro); exact ⟨⟨k + 1, m + 1, by omega, by omega, by go_num, HR4.out⟩, rfl⟩)
    case measure => simp [intOf]; omega
  ·obtain rfl : k = n := by omega
   have HFN := hid (show wr.ownsRow w.heap.size 206 3 u3 (parse9 s.data.toList).length (cellsI9 (parse9 s.data.toList)) by
    have h := HR.out
    rw [List.take_of_length_le (by have := HN.out; omega), <- HPE.out] at h
    rw [<- h.1]
    exact own_lower9 h.2.1 HB1.out.size)
   have HBF := hid HR.out.2.2.2
   clear HR hk hmk hlt
   go_wp2_with fail
   go_ret
   exact ⟨u3, rfl, HFN.out, HBF.out⟩
theorem indexS_any (f : Nat) (lb : Array Value) (eg : ∀ args w, (callFunc f args).run Tryz.prog w = .ok (.enter f args) w) (q : List UInt8 -> Bool) (v : Value) (L : List (List UInt8)) (w : World) (hv : TxAt w v L) (hl : L.length <= 1000000) (hq : ∀ (X : World) (x : List UInt8), x ∈ L -> Below w.heap.size w X -> Calls Tryz.prog f (#[.string ⟨x.toArray⟩] ++ lb) X fun e w' => e = .returned (.bool (q x)) /\ Below X.heap.size X w') :
  Calls Tryz.prog 171 #[v, .func (.func f) #[] lb] w fun e w' => ∃ z : Int, e = .returned (.int .i64 z) /\ decide (0 <= z) = L.any q /\ Below w.heap.size w w' := by
 obtain ⟨a1, c1, rfl, hc1, hm1, hv1⟩ := hv.view
 have HV := hid hv1
 have HQ := hid hq
 obtain ⟨n, hn⟩ : ∃ n, n = L.length := ⟨_, rfl⟩
 have HN := hid hn
 rw [<- hn] at hc1 hl ⊢
 clear hv hv1 hq hn
 go_enter Tryz.func171, Tryz.ntmps171
 go_wp2_with fail
 go_loopw [8] (fun v8 wr => ∃ k : Nat, k <= n /\ v8 = .int .i64 k /\ Hid (((L.take k).any q) = false /\ Below w.heap.size w wr)) (fun v8 _ => n - (intOf v8).toNat)
 case atStart => exact ⟨0, Nat.zero_le _, rfl, rfl, Below.refl _ w⟩
 case round =>
  obtain ⟨k, hk, rfl, HR⟩ := hrel
  by_cases hlt : k < n
  ·have hkL : k < L.length := by have := HN.out; omega
   obtain ⟨b1, o1, rfl, e1⟩ := HV.out k hkL
   obtain ⟨x, hx⟩ : ∃ x, x = L[k] := ⟨_, rfl⟩
   rw [<- hx] at e1
   have HXM := hid (show x ∈ L by rw [hx]; exact List.getElem_mem hkL)
   obtain ⟨V, hVx⟩ : ∃ V : ByteArray, V = ⟨x.toArray⟩ := ⟨_, rfl⟩
   rw [<- hVx] at e1
   have f1 := keptC e1 HR.out.2
   have HCL := hid (show Calls Tryz.prog f (#[.string V] ++ lb) wr fun e w' => e = .returned (.bool (q x)) /\ Below wr.heap.size wr w' by
    rw [hVx]
    exact HQ.out wr x HXM.out HR.out.2)
   have HT := hid (show (L.take (k + 1)).any q = q x by rw [List.take_succ_eq_append_getElem hkL, List.any_append, HR.out.1, <- hx]; simp)
   have HTA := hid (show q x = true -> L.any q = true from fun h => List.any_eq_true.2 ⟨x, HXM.out, h⟩)
   obtain ⟨y, hy⟩ : ∃ y, y = q x := ⟨_, rfl⟩
   rw [<- hy] at HCL HT HTA
   have hin : (k : Int) < (n : Int) := by omega
   clear e1 hx hVx hkL hy
   go_wp2_with fail
   refine HCL.out.mono ?_
   rintro e w2 ⟨rfl, hb2⟩
   have HB2 := hid (below2 HR.out.2 hb2)
   clear hb2
   cases y with
   | false =>
    go_wp2_with fail
    go_roundw
    case rel =>
     have e4 : ((L.take (k + 1)).any q) = false /\ Below w.heap.size w w2 := ⟨HT.out, HB2.out⟩
     first
      | exact ⟨k + 1, by omega, by go_num, e4⟩
      | ((repeat apply Exists.intro); refine ⟨?_, rfl⟩; exact ⟨k + 1, by omega, by go_num, e4⟩)
      | ((repeat apply Exists.intro); exact ⟨⟨k + 1, by omega, by go_num, e4⟩, rfl⟩)
    case measure => simp [intOf]; omega
   | true =>
    go_wp2_with fail
    go_ret
    exact ⟨(k : Int), rfl, by rw [HTA.out (by trivial)]; simp, HB2.out⟩
  ·obtain rfl : k = n := by omega
   have HA := hid (show L.any q = false by have h := HR.out.1; rwa [List.take_of_length_le (by have := HN.out; omega)] at h)
   have HB := hid HR.out.2
   clear HR hk hlt
   go_wp2_with fail
   go_ret
   exact ⟨-1, rfl, by rw [HA.out]; rfl, HB.out⟩
theorem containsS_any (q : List UInt8 -> Bool) (v fv : Value) (L : List (List UInt8)) (w : World) (hv : TxAt w v L) (hl : L.length <= 1000000) (hs : ∀ x ∈ L, x.length <= 1000000) (hr : Rdr11 w fv q) :
  Calls Tryz.prog 143 #[v, fv] w fun e w' => e = .returned (.bool (L.any q)) /\ Below w.heap.size w w' := by
 obtain ⟨f, lb, rfl, eg, hc⟩ := hr
 have HI := hid (indexS_any f lb eg q v L w hv hl (fun X x hx hX => hc X ⟨x.toArray⟩ hX (by have := hs x hx; rw [Lib.size_eq]; show x.length <= _; omega)))
 clear hv hl hc hs
 go_enter Tryz.func143, Tryz.ntmps143
 go_wp2_with fail
 refine HI.out.mono ?_
 rintro e w2 ⟨z, rfl, hz, hb⟩
 have HZ := hid hz
 have HB := hid hb
 clear hz hb
 go_wp2_with fail
 go_ret
 exact ⟨ret_bool HZ.out, HB.out⟩
def shaV (x : It) : List UInt8 := [39, 115, 104, 97] ++ Lib.itoa x.bits ++ [45] ++ x.want ++ [39]
theorem itoa11_any (n : Int) (w : World) (hg : Gd w) (h0 : -9223372036854775808 <= n) (h1 : n <= 9223372036854775807) :
  Calls Tryz.prog 140 #[.int .i64 n] w fun e w' => e = .returned (.string ⟨(Lib.itoa n).toArray⟩) /\ Below w.heap.size w w' := by
 refine (Tryz.strconv_Itoa n h0 h1 w hg.2.1).mono ?_
 rintro e w' ⟨rfl, k, os, rfl⟩
 exact ⟨rfl, Lib.below_grow _ _ (Nat.le_refl _) _ _⟩
theorem itoa_sm11 (b : Int) (h : b = 256 ∨ b = 384 ∨ b = 512) : (Lib.itoa b).length = 3 := by
 rcases h with rfl | rfl | rfl <;> decide +kernel
theorem enters_nm1 : ∀ args w, (callFunc 179 args).run Tryz.prog w = .ok (.enter 179 args) w := enters_of Tryz.func179 (by kernel_rfl) rfl
theorem nm1_any (cn : Nat) (nv : Value) (q : List UInt8 -> Bool) (x : It) (w : World) (hg : Gd w) (hn : w.cell? ⟨cn, 0, none⟩ = some nv) (hr : Rdr11 w nv q) (hx : x.want.length <= 1000000) (hb : x.bits = 256 ∨ x.bits = 384 ∨ x.bits = 512) :
  Calls Tryz.prog 179 #[itVal x, .pointer (some ⟨cn, 0, none⟩)] w fun e w' => e = .returned (.bool (!q (shaV x))) /\ Below w.heap.size w w' := by
 obtain ⟨f, lb, rfl, eg, hc⟩ := hr
 obtain ⟨V, hV⟩ : ∃ V : ByteArray, V = ⟨x.want.toArray⟩ := ⟨_, rfl⟩
 obtain ⟨O, hO⟩ : ∃ V : ByteArray, V = ⟨x.opt.toArray⟩ := ⟨_, rfl⟩
 obtain ⟨b, hbe⟩ : ∃ b, b = x.bits := ⟨_, rfl⟩
 have hVl : V.data.toList = x.want := by rw [hV]
 have hVs : V.size <= 1000000 := by rw [Lib.size_eq, hVl]; exact hx
 rw [show itVal x = .agg #[.int .i64 b, .string V, .string O] by rw [hbe, hV, hO]; rfl]
 obtain ⟨I, hI⟩ : ∃ V : ByteArray, V = ⟨(Lib.itoa b).toArray⟩ := ⟨_, rfl⟩
 have hIl : I.data.toList = Lib.itoa x.bits := by rw [hI, hbe]
 have hIs : I.size = 3 := by rw [Lib.size_eq, hIl]; exact itoa_sm11 x.bits hb
 obtain ⟨T1, hT1⟩ : ∃ Z : ByteArray, (⟨#[39, 115, 104, 97]⟩ : ByteArray) ++ I = Z := ⟨_, rfl⟩
 have hT1l : T1.data.toList = [39, 115, 104, 97] ++ Lib.itoa x.bits := by rw [<- hT1, ByteArray.data_append, Array.toList_append, hIl]
 have hT1s : T1.size = 7 := by rw [Lib.size_eq, hT1l, List.length_append, itoa_sm11 x.bits hb]; rfl
 obtain ⟨T2, hT2⟩ : ∃ Z : ByteArray, T1 ++ (⟨#[45]⟩ : ByteArray) = Z := ⟨_, rfl⟩
 have hT2l : T2.data.toList = [39, 115, 104, 97] ++ Lib.itoa x.bits ++ [45] := by rw [<- hT2, ByteArray.data_append, Array.toList_append, hT1l]
 have hT2s : T2.size = 8 := by rw [Lib.size_eq, <- hT2, ByteArray.data_append, Array.toList_append, List.length_append, <- Lib.size_eq, hT1s]; rfl
 obtain ⟨T3, hT3⟩ : ∃ Z : ByteArray, T2 ++ V = Z := ⟨_, rfl⟩
 have hT3l : T3.data.toList = [39, 115, 104, 97] ++ Lib.itoa x.bits ++ [45] ++ x.want := by rw [<- hT3, ByteArray.data_append, Array.toList_append, hT2l, hVl]
 have hT3s : T3.size <= 1000008 := by rw [Lib.size_eq, <- hT3, ByteArray.data_append, Array.toList_append, List.length_append, <- Lib.size_eq, <- Lib.size_eq]; omega
 obtain ⟨T4, hT4⟩ : ∃ Z : ByteArray, T3 ++ (⟨#[39]⟩ : ByteArray) = Z := ⟨_, rfl⟩
 have hT4l : T4.data.toList = shaV x := by rw [<- hT4, ByteArray.data_append, Array.toList_append, hT3l]; rfl
 have hT4s : T4.size <= 1000009 := by rw [Lib.size_eq, <- hT4, ByteArray.data_append, Array.toList_append, List.length_append, <- Lib.size_eq]; simp; omega
 obtain ⟨W, hW⟩ : ∃ W, (w.alloc (.cells #[.int .i64 b, .string V, .string O] 206)) = W := ⟨_, rfl⟩
 have hbW : Below w.heap.size w W := by rw [<- hW]; exact (Below.refl _ w).alloc (Nat.le_refl _) _
 have hrow : W.heap[w.heap.size]? = some (.cells #[.int .i64 b, .string V, .string O] 206 (0, 0)) := by rw [<- hW]; exact heap_alloc_new w _
 have h0 : W.cell? ⟨w.heap.size, 0, none⟩ = some (.int .i64 b) := by rw [Lib.cell_of_heap hrow]; rfl
 have h1 : W.cell? ⟨w.heap.size, 1, none⟩ = some (.string V) := by rw [Lib.cell_of_heap hrow]; rfl
 have HKF := hid (show ∀ Z, Below W.heap.size W Z -> Z.cell? ⟨cn, 0, none⟩ = some (.func (.func f) #[] lb) /\ Z.cell? ⟨w.heap.size, 0, none⟩ = some (.int .i64 b) /\ Z.cell? ⟨w.heap.size, 1, none⟩ = some (.string V) from fun Z hZ => ⟨keptC hn (below2 hbW hZ), keptC h0 hZ, keptC h1 hZ⟩)
 have HIt := hid (fun (X : World) (hX : Below W.heap.size W X) => itoa11_any b X ((hg.kept hbW).kept hX) (by rw [hbe]; omega) (by rw [hbe]; omega))
 rw [<- hI] at HIt
 have HC := hid (fun (X : World) (hX : Below W.heap.size W X) => hc X T4 (below2 hbW hX) (by omega))
 rw [hT4l] at HC
 have HBW := hid hbW
 obtain ⟨r, hrq⟩ : ∃ r, q (shaV x) = r := ⟨_, rfl⟩
 rw [hrq] at HC
 rw [hrq]
 clear hrq hg hn hc hx hb hV hO hbe hVl hI hIl hT1l hT2l hT3l hT4l hbW hrow h0 h1
 go_enter Tryz.func179, Tryz.ntmps179
 go_wp2_with fail
 have HQ0 := hid ((Below.refl W.heap.size W).drew)
 refine wp_region_held_drew (S := (fun wx => Below W.heap.size W wx)) (by kernel_rfl) HQ0.out (fun hHeld => ?_)
 refine' wpAnyH_take (i := 0) (oi := ⟨some 4, _, _, _, _, _⟩) (v := _) rfl (by kernel_rfl) (by kernel_rfl) (by kernel_rfl) (fun _ _ _ h => h) (Or.inl ⟨by kernel_rfl, ?hy1⟩) (by assumption) ?rest1
 case hy1 => (intro wx hSw; (try dsimp only at hSw); obtain ⟨k0, k1, k2⟩ := HKF.out _ hSw; go_simp; first | done | with_reducible rfl | (rw [if_neg (by omega)]; with_reducible rfl) | (rw [if_neg (by omega)]))
 (try simp only [Act.put, List.setIfInBounds_toArray, List.set_cons_zero, List.set_cons_succ])
 refine' wpAnyH_take (i := 1) (oi := ⟨some 5, _, _, _, _, _⟩) (v := _) rfl (by kernel_rfl) (by kernel_rfl) (by kernel_rfl) (fun _ _ _ h => h) (Or.inl ⟨by kernel_rfl, ?hy2⟩) (by assumption) ?rest2
 case hy2 => (intro wx hSw; (try dsimp only at hSw); obtain ⟨k0, k1, k2⟩ := HKF.out _ hSw; go_simp; first | done | with_reducible rfl | (rw [if_neg (by omega)]; with_reducible rfl) | (rw [if_neg (by omega)]))
 (try simp only [Act.put, List.setIfInBounds_toArray, List.set_cons_zero, List.set_cons_succ])
 refine' wpAnyH_take (i := 2) (oi := ⟨some 6, _, _, _, _, _⟩) (v := _) rfl (by kernel_rfl) (by kernel_rfl) (by kernel_rfl) (fun _ _ _ h => h) (Or.inl ⟨by kernel_rfl, ?hy3⟩) (by assumption) ?rest3
 case hy3 => (intro wx hSw; (try dsimp only at hSw); obtain ⟨k0, k1, k2⟩ := HKF.out _ hSw; go_simp; first | done | with_reducible rfl | (rw [if_neg (by omega)]; with_reducible rfl) | (rw [if_neg (by omega)]))
 (try simp only [Act.put, List.setIfInBounds_toArray, List.set_cons_zero, List.set_cons_succ])
 refine' wpAnyH_take (i := 6) (oi := ⟨some 10, _, _, _, _, _⟩) (v := _) rfl (by kernel_rfl) (by kernel_rfl) (by kernel_rfl) (fun _ _ _ h => h) (Or.inl ⟨by kernel_rfl, ?hy4⟩) (by assumption) ?rest4
 case hy4 => (intro wx hSw; (try dsimp only at hSw); obtain ⟨k0, k1, k2⟩ := HKF.out _ hSw; go_simp; first | done | with_reducible rfl | (rw [if_neg (by omega)]; with_reducible rfl) | (rw [if_neg (by omega)]))
 (try simp only [Act.put, List.setIfInBounds_toArray, List.set_cons_zero, List.set_cons_succ])
 refine' wpAnyH_take (i := 7) (oi := ⟨some 11, _, _, _, _, _⟩) (v := _) rfl (by kernel_rfl) (by kernel_rfl) (by kernel_rfl) (fun _ _ _ h => h) (Or.inl ⟨by kernel_rfl, ?hy5⟩) (by assumption) ?rest5
 case hy5 => (intro wx hSw; (try dsimp only at hSw); obtain ⟨k0, k1, k2⟩ := HKF.out _ hSw; go_simp; first | done | with_reducible rfl | (rw [if_neg (by omega)]; with_reducible rfl) | (rw [if_neg (by omega)]))
 (try simp only [Act.put, List.setIfInBounds_toArray, List.set_cons_zero, List.set_cons_succ])
 refine wpAnyH_ready (rs := [3]) (by kernel_rfl) (by simp) ?_
 refine AllReadyH.cons rfl (fun K hK => ?_) AllReadyH.nil
 rw [if_pos (by kernel_rfl)]
 go_simp
 go_wp2_with (go_at_call 140; refine (HIt.out _ HQ0.out).mono ?_; rintro e wa ⟨rfl, hba⟩)
 have HQ1 := hid (below2 HQ0.out hba)
 clear hba
 refine hK.out _ _ HQ1.out (fun hHeld2 => ?_)
 clear hK K hHeld
 rename _ => hHeld
 refine' wpAnyH_take (i := 4) (oi := ⟨some 8, _, _, _, _, _⟩) (v := _) rfl (by kernel_rfl) (by kernel_rfl) (by kernel_rfl) (fun _ _ _ h => h) (Or.inl ⟨by kernel_rfl, ?hy6⟩) (by assumption) ?rest6
 case hy6 => (intro wx hSw; (try dsimp only at hSw); obtain ⟨k0, k1, k2⟩ := HKF.out _ hSw; go_simp; first | done | with_reducible rfl | (rw [if_neg (by omega)]; with_reducible rfl) | (rw [if_neg (by omega)]))
 (try simp only [Act.put, List.setIfInBounds_toArray, List.set_cons_zero, List.set_cons_succ])
 refine' wpAnyH_take (i := 5) (oi := ⟨some 9, _, _, _, _, _⟩) (v := _) rfl (by kernel_rfl) (by kernel_rfl) (by kernel_rfl) (fun _ _ _ h => h) (Or.inl ⟨by kernel_rfl, ?hy7⟩) (by assumption) ?rest7
 case hy7 => (intro wx hSw; (try dsimp only at hSw); obtain ⟨k0, k1, k2⟩ := HKF.out _ hSw; go_simp; first | done | with_reducible rfl | (rw [if_neg (by omega)]; with_reducible rfl) | (rw [if_neg (by omega)]))
 (try simp only [Act.put, List.setIfInBounds_toArray, List.set_cons_zero, List.set_cons_succ])
 refine' wpAnyH_take (i := 8) (oi := ⟨some 12, _, _, _, _, _⟩) (v := _) rfl (by kernel_rfl) (by kernel_rfl) (by kernel_rfl) (fun _ _ _ h => h) (Or.inl ⟨by kernel_rfl, ?hy8⟩) (by assumption) ?rest8
 case hy8 => (intro wx hSw; (try dsimp only at hSw); obtain ⟨k0, k1, k2⟩ := HKF.out _ hSw; go_simp; first | done | with_reducible rfl | (rw [if_neg (by omega)]; with_reducible rfl) | (rw [if_neg (by omega)]))
 (try simp only [Act.put, List.setIfInBounds_toArray, List.set_cons_zero, List.set_cons_succ])
 refine' wpAnyH_take (i := 9) (oi := ⟨some 13, _, _, _, _, _⟩) (v := _) rfl (by kernel_rfl) (by kernel_rfl) (by kernel_rfl) (fun _ _ _ h => h) (Or.inl ⟨by kernel_rfl, ?hy9⟩) (by assumption) ?rest9
 case hy9 => (intro wx hSw; (try dsimp only at hSw); obtain ⟨k0, k1, k2⟩ := HKF.out _ hSw; go_simp; first | done | with_reducible rfl | (rw [if_neg (by omega)]; with_reducible rfl) | (rw [if_neg (by omega)]))
 (try simp only [Act.put, List.setIfInBounds_toArray, List.set_cons_zero, List.set_cons_succ])
 refine wpAnyH_ready (rs := [10]) (by kernel_rfl) (by simp) ?_
 refine AllReadyH.cons rfl (fun K hK => ?_) AllReadyH.nil
 rw [if_pos (by kernel_rfl)]
 go_simp
 refine (HC.out _ HQ1.out).mono ?_
 rintro e wb ⟨rfl, hbb⟩
 have HQ2 := hid (below2 HQ1.out hbb)
 clear hbb
 refine hK.out _ _ HQ2.out (fun hHeld2 => ?_)
 clear hK K hHeld
 rename _ => hHeld
 refine' wpAnyH_take (i := 11) (oi := ⟨some 15, _, _, _, _, _⟩) (v := _) rfl (by kernel_rfl) (by kernel_rfl) (by kernel_rfl) (fun _ _ _ h => h) (Or.inl ⟨by kernel_rfl, ?hy10⟩) (by assumption) ?rest10
 case hy10 => (intro wx hSw; (try dsimp only at hSw); obtain ⟨k0, k1, k2⟩ := HKF.out _ hSw; go_simp; first | done | with_reducible rfl | (rw [if_neg (by omega)]; with_reducible rfl) | (rw [if_neg (by omega)]))
 (try simp only [Act.put, List.setIfInBounds_toArray, List.set_cons_zero, List.set_cons_succ])
 refine' wpAnyH_take (i := 12) (oi := ⟨some 3, _, _, _, _, _⟩) (v := _) rfl (by kernel_rfl) (by kernel_rfl) (by kernel_rfl) (fun _ _ _ h => h) (Or.inl ⟨by kernel_rfl, ?hy11⟩) (by assumption) ?rest11
 case hy11 => (intro wx hSw; (try dsimp only at hSw); obtain ⟨k0, k1, k2⟩ := HKF.out _ hSw; go_simp; first | done | with_reducible rfl | (rw [if_neg (by omega)]; with_reducible rfl) | (rw [if_neg (by omega)]))
 (try simp only [Act.put, List.setIfInBounds_toArray, List.set_cons_zero, List.set_cons_succ])
 refine wpAnyH_done (by kernel_rfl) ?_ _
 go_wp2
 go_ret
 exact ⟨rfl, below2 HBW.out HQ2.out⟩
theorem indexI11_any (f : Nat) (lb : Array Value) (eg : ∀ args w, (callFunc f args).run Tryz.prog w = .ok (.enter f args) w) (q : It -> Bool) (v : Value) (L : List It) (w : World) (hv : ItAt w v L) (hl : L.length <= 1000000001) (hq : ∀ (X : World) (x : It), x ∈ L -> Below w.heap.size w X -> Calls Tryz.prog f (#[itVal x] ++ lb) X fun e w' => e = .returned (.bool (q x)) /\ Below X.heap.size X w') :
  Calls Tryz.prog 213 #[v, .func (.func f) #[] lb] w fun e w' => ∃ z : Int, e = .returned (.int .i64 z) /\ decide (0 <= z) = L.any q /\ Below w.heap.size w w' := by
 obtain ⟨a1, c1, rfl, hc1, hm1, hv1⟩ := hv.view
 have HV := hid hv1
 have HQ := hid hq
 obtain ⟨n, hn⟩ : ∃ n, n = L.length := ⟨_, rfl⟩
 have HN := hid hn
 rw [<- hn] at hc1 hl ⊢
 clear hv hv1 hq hn
 go_enter Tryz.func213, Tryz.ntmps213
 go_wp2_with fail
 go_loopw [8] (fun v8 wr => ∃ k : Nat, k <= n /\ v8 = .int .i64 k /\ Hid (((L.take k).any q) = false /\ Below w.heap.size w wr)) (fun v8 _ => n - (intOf v8).toNat)
 case atStart => exact ⟨0, Nat.zero_le _, rfl, rfl, Below.refl _ w⟩
 case round =>
  obtain ⟨k, hk, rfl, HR⟩ := hrel
  by_cases hlt : k < n
  ·have hkL : k < L.length := by have := HN.out; omega
   obtain ⟨b1, o1, rfl, e1, e2, e3⟩ := HV.out k hkL
   obtain ⟨x, hx⟩ : ∃ x, x = L[k] := ⟨_, rfl⟩
   rw [<- hx] at e1 e2 e3
   have HXM := hid (show x ∈ L by rw [hx]; exact List.getElem_mem hkL)
   obtain ⟨b, hbx⟩ : ∃ b, b = x.bits := ⟨_, rfl⟩
   obtain ⟨V, hVx⟩ : ∃ V : ByteArray, V = ⟨x.want.toArray⟩ := ⟨_, rfl⟩
   obtain ⟨O, hOx⟩ : ∃ V : ByteArray, V = ⟨x.opt.toArray⟩ := ⟨_, rfl⟩
   rw [<- hbx] at e1
   rw [<- hVx] at e2
   rw [<- hOx] at e3
   have f1 := keptC e1 HR.out.2
   have f2 := keptC e2 HR.out.2
   have f3 := keptC e3 HR.out.2
   have HCL := hid (show Calls Tryz.prog f (#[.agg #[.int .i64 b, .string V, .string O]] ++ lb) wr fun e w' => e = .returned (.bool (q x)) /\ Below wr.heap.size wr w' by
    rw [hbx, hVx, hOx]
    exact HQ.out wr x HXM.out HR.out.2)
   have HT := hid (show (L.take (k + 1)).any q = q x by rw [List.take_succ_eq_append_getElem hkL, List.any_append, HR.out.1, <- hx]; simp)
   have HTA := hid (show q x = true -> L.any q = true from fun h => List.any_eq_true.2 ⟨x, HXM.out, h⟩)
   obtain ⟨y, hy⟩ : ∃ y, y = q x := ⟨_, rfl⟩
   rw [<- hy] at HCL HT HTA
   have hin : (k : Int) < (n : Int) := by omega
   clear e1 e2 e3 hx hbx hVx hOx hkL hy
   go_wp2_with fail
   refine HCL.out.mono ?_
   rintro e w2 ⟨rfl, hb2⟩
   have HB2 := hid (below2 HR.out.2 hb2)
   clear hb2
   cases y with
   | false =>
    go_wp2_with fail
    go_roundw
    case rel =>
     have e4 : ((L.take (k + 1)).any q) = false /\ Below w.heap.size w w2 := ⟨HT.out, HB2.out⟩
     first
      | exact ⟨k + 1, by omega, by go_num, e4⟩
      | ((repeat apply Exists.intro); refine ⟨?_, rfl⟩; exact ⟨k + 1, by omega, by go_num, e4⟩)
      | ((repeat apply Exists.intro); exact ⟨⟨k + 1, by omega, by go_num, e4⟩, rfl⟩)
    case measure => simp [intOf]; omega
   | true =>
    go_wp2_with fail
    go_ret
    exact ⟨(k : Int), rfl, by rw [HTA.out (by trivial)]; simp, HB2.out⟩
  ·obtain rfl : k = n := by omega
   have HA := hid (show L.any q = false by have h := HR.out.1; rwa [List.take_of_length_le (by have := HN.out; omega)] at h)
   have HB := hid HR.out.2
   clear HR hk hlt
   go_wp2_with fail
   go_ret
   exact ⟨-1, rfl, by rw [HA.out]; rfl, HB.out⟩
theorem containsI11_any (f : Nat) (lb : Array Value) (eg : ∀ args w, (callFunc f args).run Tryz.prog w = .ok (.enter f args) w) (q : It -> Bool) (v : Value) (L : List It) (w : World) (hv : ItAt w v L) (hl : L.length <= 1000000001) (hq : ∀ (X : World) (x : It), x ∈ L -> Below w.heap.size w X -> Calls Tryz.prog f (#[itVal x] ++ lb) X fun e w' => e = .returned (.bool (q x)) /\ Below X.heap.size X w') :
  Calls Tryz.prog 180 #[v, .func (.func f) #[] lb] w fun e w' => e = .returned (.bool (L.any q)) /\ Below w.heap.size w w' := by
 have HI := hid (indexI11_any f lb eg q v L w hv hl hq)
 clear hv hl hq
 go_enter Tryz.func180, Tryz.ntmps180
 go_wp2_with fail
 refine HI.out.mono ?_
 rintro e w2 ⟨z, rfl, hz, hb⟩
 have HZ := hid hz
 have HB := hid hb
 clear hz hb
 go_wp2_with fail
 go_ret
 exact ⟨ret_bool HZ.out, HB.out⟩
theorem parse_len11 (l : List UInt8) : (parse9 l).length <= l.length + 1 := by
 have h1 := List.length_filterMap_le itemV (words9 l)
 have h2 := (wds_len l []).1
 unfold parse9
 unfold words9 at h1 ⊢
 omega
theorem parse_want11 (l : List UInt8) : ∀ x ∈ parse9 l, x.want.length <= l.length := by
 intro x hx
 obtain ⟨y, hm, hy⟩ := List.mem_filterMap.1 hx
 have h0 := (wds_len l []).2 y hm
 unfold itemV at hy
 split at hy
 ·obtain rfl := Option.some.inj hy
  show (wantV9 y).length <= _
  have h1 := (part_le9 63 y).1
  have h2 := (part_le9 45 (part9 63 y).1).2
  unfold wantV9
  simp only [List.length_nil, Nat.zero_add] at h0
  omega
 ·cases hy
def nonV (n : List UInt8) : List UInt8 := [39, 110, 111, 110, 99, 101, 45] ++ n ++ [39]
def digsV (q : List UInt8 -> Bool) (I : List It) : Bool := !I.isEmpty && !(I.any fun x => !q (shaV x))
def namedV (L : List (List UInt8)) (n m : List UInt8) : Bool := (!n.isEmpty && (txtsV L).contains (nonV n)) || digsV (fun s => (txtsV L).contains s) (parse9 m)
theorem named_any (v : Value) (L : List (List UInt8)) (n m : ByteArray) (w : World) (hg : Gd w) (hv : TxAt w v L) (hl : L.length <= 1000000) (hs : ∀ x ∈ L, x.length <= 1000000) (hn : n.size <= 1000000) (hm : m.size <= 1000000) :
  Calls Tryz.prog 145 #[v, .string n, .string m] w fun e w' => e = .returned (.bool (namedV L n.data.toList m.data.toList)) /\ Below w.heap.size w w' := by
 have hmf : ∀ (fn : Fn) (first cap : Array Value) (w : World), (Instr.makeFunc fn first cap).run Tryz.prog w = .ok (.func fn first cap) w := fun _ _ _ _ => rfl
 obtain ⟨q, hq⟩ : ∃ q : List UInt8 -> Bool, q = fun s => (txtsV L).contains s := ⟨_, rfl⟩
 have HL := hid (listed_any v L w hg hv hl hs)
 rw [<- hq] at HL
 unfold MkPost11 at HL
 have HPa := hid (fun (X : World) (hX : Below w.heap.size w X) => parse9_any m X (hg.kept hX).1 (by omega))
 obtain ⟨I, hI⟩ : ∃ I, I = parse9 m.data.toList := ⟨_, rfl⟩
 unfold ParsePost9 at HPa
 have HNV := hid (show namedV L n.data.toList m.data.toList = ((!n.data.toList.isEmpty && q (nonV n.data.toList)) || digsV q I) by unfold namedV; rw [hq, hI])
 rw [<- hI] at HPa
 have HLN := hid (show I.length <= 1000001 by rw [hI]; have := parse_len11 m.data.toList; rw [<- Lib.size_eq] at this; omega)
 have HLB := hid (show ∀ x ∈ I, x.bits = 256 ∨ x.bits = 384 ∨ x.bits = 512 by rw [hI]; exact parse_bits _)
 have HLW := hid (show ∀ x ∈ I, x.want.length <= 1000000 by rw [hI]; intro x hx; have := parse_want11 m.data.toList x hx; rw [<- Lib.size_eq] at this; omega)
 have HG := hid hg
 obtain ⟨T1, hT1⟩ : ∃ Z : ByteArray, (⟨#[39, 110, 111, 110, 99, 101, 45]⟩ : ByteArray) ++ n = Z := ⟨_, rfl⟩
 have hT1l : T1.data.toList = [39, 110, 111, 110, 99, 101, 45] ++ n.data.toList := by rw [<- hT1, ByteArray.data_append, Array.toList_append]
 have hT1s : T1.size <= 1000007 := by rw [Lib.size_eq, hT1l, List.length_append, <- Lib.size_eq]; simp; omega
 obtain ⟨T2, hT2⟩ : ∃ Z : ByteArray, T1 ++ (⟨#[39]⟩ : ByteArray) = Z := ⟨_, rfl⟩
 have HT2 := hid (show T2.data.toList = nonV n.data.toList by rw [<- hT2, ByteArray.data_append, Array.toList_append, hT1l]; rfl)
 have hT2s : T2.size <= 1000008 := by rw [Lib.size_eq, <- hT2, ByteArray.data_append, Array.toList_append, List.length_append, <- Lib.size_eq]; simp; omega
 clear hq hI hT1l hg hv hl hs hm
 go_enter Tryz.func145, Tryz.ntmps145
 go_wp2_with fail
 refine HL.out.mono ?_
 rintro e w1 ⟨fv, rfl, hr, hb1⟩
 have hr0 := hr
 obtain ⟨f, lb, rfl, eg, hc⟩ := hr0
 obtain ⟨W2, hW2⟩ : ∃ W2, (w1.alloc (.cells #[.func (.func f) #[] lb] 137)) = W2 := ⟨_, rfl⟩
 have hb2 : Below w1.heap.size w1 W2 := by rw [<- hW2]; exact (Below.refl _ w1).alloc (Nat.le_refl _) _
 have hrow : W2.heap[w1.heap.size]? = some (.cells #[.func (.func f) #[] lb] 137 (0, 0)) := by rw [<- hW2]; exact heap_alloc_new w1 _
 have hcell : W2.cell? ⟨w1.heap.size, 0, none⟩ = some (.func (.func f) #[] lb) := by rw [Lib.cell_of_heap hrow]; rfl
 have HCell := hid hcell
 have HR2 := hid (hr.kept hb2)
 have HB2 := hid (below2 hb1 hb2)
 have HC := hid (hc W2 T2 hb2 (by omega))
 rw [HT2.out] at HC
 clear hr hc hrow hb1 hb2
 have HTail : Hid (∀ X, Below W2.heap.size W2 X -> ∀ (Y : World) (iv : Value), Below X.heap.size X Y -> ItAt Y iv I -> Calls Tryz.prog 180 #[iv, .func (.func 179) #[] #[.pointer (some ⟨w1.heap.size, 0, none⟩)]] Y fun e w' => e = .returned (.bool (I.any fun x => !q (shaV x))) /\ Below Y.heap.size Y w') := fun X hX Y iv hY hiv => by
  have hXY := below2 hX hY
  refine containsI11_any _ _ enters_nm1 (fun x => !q (shaV x)) iv I Y hiv (by have := HLN.out; omega) (fun Z x hx hZ => ?_)
  have hZ2 := below2 hXY hZ
  exact nm1_any w1.heap.size _ q x Z (HG.out.kept (below2 HB2.out hZ2)) (keptC HCell.out hZ2) (HR2.out.kept hZ2) (HLW.out x hx) (HLB.out x hx)
 have HBr := hid (Below.refl W2.heap.size W2)
 by_cases hne : n.data.toList = []
 ·have g3 := empty_yes n hne
  have HZ := hid (show namedV L n.data.toList m.data.toList = digsV q I by rw [HNV.out, hne]; rfl)
  clear hne
  go_wp2_with fail
  refine (HPa.out _ (below2 HB2.out HBr.out)).mono ?_
  rintro e w4 ⟨iv, rfl, hown, hb4⟩
  have HB4 := hid hb4
  have HIT := hid (own_it hown)
  obtain ⟨a, cap, hive, -, -, -⟩ := HIT.out.view
  clear hown hb4
  by_cases hz : I = []
  ·have hive' : iv = .slice a 0 cap := by rw [hive, hz]; rfl
   have HD := hid (show digsV q I = false by rw [hz]; rfl)
   clear hive hz
   subst hive'
   go_wp2
   go_ret
   exact ⟨ret_bool (by rw [HZ.out, HD.out]), below2 HB2.out (below2 HBr.out HB4.out)⟩
  ·obtain ⟨N, hN⟩ : ∃ N, I.length = N := ⟨_, rfl⟩
   have hN0 : (0 : Int) < (N : Int) := by have := List.length_pos_iff.2 hz; omega
   have HD := hid (show digsV q I = !(I.any fun x => !q (shaV x)) by unfold digsV; cases I with | nil => exact absurd rfl hz | cons x l => rfl)
   rw [hN] at hive
   obtain ⟨r, hr⟩ : ∃ r, (I.any fun x => !q (shaV x)) = r := ⟨_, rfl⟩
   have HCo := hid (HTail.out _ HBr.out _ _ HB4.out HIT.out)
   rw [hr] at HCo HD
   clear hz hN hr HIT
   subst hive
   go_wp2_with (go_at_call 180; refine HCo.out.mono ?_; rintro e w5 ⟨rfl, hb5⟩)
   go_ret
   exact ⟨ret_bool (by rw [HZ.out, HD.out]), below2 HB2.out (below2 (below2 HBr.out HB4.out) hb5)⟩
 ·have g3 := empty_no n hne
  have HE := hid (show n.data.toList.isEmpty = false by cases h : n.data.toList with | nil => exact absurd h hne | cons x l => rfl)
  obtain ⟨r0, hr0⟩ : ∃ r, q (nonV n.data.toList) = r := ⟨_, rfl⟩
  rw [hr0] at HC
  have HR0 := hid hr0
  clear hne hr0
  go_wp2_with fail
  refine HC.out.mono ?_
  rintro e w3 ⟨rfl, hb3⟩
  have HB3 := hid hb3
  clear hb3
  cases r0 with
  | true =>
   go_wp2
   go_ret
   exact ⟨ret_bool (by rw [HNV.out, HE.out, HR0.out]; rfl), below2 HB2.out HB3.out⟩
  | false =>
   have HZ := hid (show namedV L n.data.toList m.data.toList = digsV q I by rw [HNV.out, HE.out, HR0.out]; rfl)
   go_wp2_with fail
   refine (HPa.out _ (below2 HB2.out HB3.out)).mono ?_
   rintro e w4 ⟨iv, rfl, hown, hb4⟩
   have HB4 := hid hb4
   have HIT := hid (own_it hown)
   obtain ⟨a, cap, hive, -, -, -⟩ := HIT.out.view
   clear hown hb4
   by_cases hz : I = []
   ·have hive' : iv = .slice a 0 cap := by rw [hive, hz]; rfl
    have HD := hid (show digsV q I = false by rw [hz]; rfl)
    clear hive hz
    subst hive'
    go_wp2
    go_ret
    exact ⟨ret_bool (by rw [HZ.out, HD.out]), below2 HB2.out (below2 HB3.out HB4.out)⟩
   ·obtain ⟨N, hN⟩ : ∃ N, I.length = N := ⟨_, rfl⟩
    have hN0 : (0 : Int) < (N : Int) := by have := List.length_pos_iff.2 hz; omega
    have HD := hid (show digsV q I = !(I.any fun x => !q (shaV x)) by unfold digsV; cases I with | nil => exact absurd rfl hz | cons x l => rfl)
    rw [hN] at hive
    obtain ⟨r, hr⟩ : ∃ r, (I.any fun x => !q (shaV x)) = r := ⟨_, rfl⟩
    have HCo := hid (HTail.out _ HB3.out _ _ HB4.out HIT.out)
    rw [hr] at HCo HD
    clear hz hN hr HIT
    subst hive
    go_wp2_with (go_at_call 180; refine HCo.out.mono ?_; rintro e w5 ⟨rfl, hb5⟩)
    go_ret
    exact ⟨ret_bool (by rw [HZ.out, HD.out]), below2 HB2.out (below2 (below2 HB3.out HB4.out) hb5)⟩
theorem any11_any (v : Value) (L : List (List UInt8)) (u p : Adr) (uv pv : Value) (hops : Int) (n m : ByteArray) (w : World) (hg : Gd w) (hu : UrlAt w u uv) (hp : UrlAt w p pv) (hz : Sized11 u) (hv : TxAt w v L) (hl : L.length <= 1000000) (hs : ∀ x ∈ L, x.length <= 1000000) (hn : n.size <= 1000000) (hm : m.size <= 1000000) :
  Calls Tryz.prog 94 #[v, adrVal u uv, adrVal p pv, .int .i64 hops, .string n, .string m] w fun e w' => e = .returned (.bool (L.any (oneV u p hops) || namedV L n.data.toList m.data.toList)) /\ Below w.heap.size w w' := by
 obtain ⟨ua, un, uc, rfl⟩ := hu.sl
 obtain ⟨pa, pn, pc, rfl⟩ := hp.sl
 have HM := hid (fun (w : World) (hg : Gd w) (hu : UrlAt w u (.slice ua un uc)) (hp : UrlAt w p (.slice pa pn pc)) => meaning_any u p (.slice ua un uc) (.slice pa pn pc) hops w hg hu hp hz)
 obtain ⟨u0, u1, u2, u3, u4, u5, u6, u8, u9, u10, u11, hx, -, -, -, -⟩ := adr_named u ua un uc
 obtain ⟨p0, p1, p2, p3, p4, p5, p6, p8, p9, p10, p11, hy, -, -, -, -⟩ := adr_named p pa pn pc
 have hva : adrVal u (.slice ua un uc) = .agg #[.string u0, .string u1, .string u2, .string u3, .bool u4, .int .i64 u5, .bool u6, .slice ua un uc, .string u8, .string u9, .bool u10, .bool u11] := by unfold adrVal; rw [hx]
 have hvb : adrVal p (.slice pa pn pc) = .agg #[.string p0, .string p1, .string p2, .string p3, .bool p4, .int .i64 p5, .bool p6, .slice pa pn pc, .string p8, .string p9, .bool p10, .bool p11] := by unfold adrVal; rw [hy]
 rw [hva, hvb] at HM ⊢
 obtain ⟨W1, hW1⟩ : ∃ W1, (w.alloc (.cells #[.string u0, .string u1, .string u2, .string u3, .bool u4, .int .i64 u5, .bool u6, .slice ua un uc, .string u8, .string u9, .bool u10, .bool u11] 31)) = W1 := ⟨_, rfl⟩
 have hb1 : Below w.heap.size w W1 := by rw [<- hW1]; exact (Below.refl _ w).alloc (Nat.le_refl _) _
 have hs1 : W1.heap.size = w.heap.size + 1 := by rw [<- hW1]; simp
 have hA1 : AdrIn W1 w.heap.size u (.slice ua un uc) := by
  unfold AdrIn
  rw [hx, <- hW1]
  exact heap_alloc_new w _
 obtain ⟨W2, hW2⟩ : ∃ W2, (W1.alloc (.cells #[.string p0, .string p1, .string p2, .string p3, .bool p4, .int .i64 p5, .bool p6, .slice pa pn pc, .string p8, .string p9, .bool p10, .bool p11] 31)) = W2 := ⟨_, rfl⟩
 have hb2 : Below W1.heap.size W1 W2 := by rw [<- hW2]; exact (Below.refl _ W1).alloc (Nat.le_refl _) _
 have hA2 := hA1.kept hb2
 have hP2 : AdrIn W2 (w.heap.size + 1) p (.slice pa pn pc) := by
  unfold AdrIn
  rw [hy, <- hW2, <- hs1]
  exact heap_alloc_new W1 _
 have hB2 := below2 hb1 hb2
 have HG2 := hid (hg.kept hB2)
 have HU2 := hid (hu.kept hB2)
 have HP2 := hid (hp.kept hB2)
 have HV2 := hid (hv.kept hB2)
 have HB2 := hid hB2
 have HL := hid hl
 have HS := hid hs
 have HRu := hid (show W2.rangeAt w.heap.size 0 [.string u0, .string u1, .string u2, .string u3, .bool u4, .int .i64 u5, .bool u6, .slice ua un uc, .string u8, .string u9, .bool u10, .bool u11] by
  have := range_row (show W2.heap[w.heap.size]? = some (.cells (adrCells u (.slice ua un uc)).toArray 31 (0, 0)) from hA2)
  rw [hx] at this
  exact this)
 have HRp := hid (show W2.rangeAt (w.heap.size + 1) 0 [.string p0, .string p1, .string p2, .string p3, .bool p4, .int .i64 p5, .bool p6, .slice pa pn pc, .string p8, .string p9, .bool p10, .bool p11] by
  have := range_row (show W2.heap[w.heap.size + 1]? = some (.cells (adrCells p (.slice pa pn pc)).toArray 31 (0, 0)) from hP2)
  rw [hy] at this
  exact this)
 obtain ⟨q, hq⟩ : ∃ q, L.any (oneV u p hops) = q := ⟨_, rfl⟩
 have HQ := hid hq
 rw [hq]
 obtain ⟨z, hzn⟩ : ∃ z, namedV L n.data.toList m.data.toList = z := ⟨_, rfl⟩
 have HZn := hid hzn
 rw [hzn]
 clear hzn
 clear hb1 hb2 hA1 hA2 hP2 hB2 hg hu hp hx hy hz hva hvb hv hl hs hq
 go_enter Tryz.func94, Tryz.ntmps94
 go_wp2_with (first | refine wpList_load_mid rfl 31 (.tmp 7) rfl w.heap.size 0 rfl [.string u0, .string u1, .string u2, .string u3, .bool u4, .int .i64 u5, .bool u6, .slice ua un uc, .string u8, .string u9, .bool u10, .bool u11] _ HRu.out Tryz.underlying31 rfl sizeU ?_ | refine wpList_load_mid rfl 31 (.tmp 8) rfl (w.heap.size + 1) 0 rfl [.string p0, .string p1, .string p2, .string p3, .bool p4, .int .i64 p5, .bool p6, .slice pa pn pc, .string p8, .string p9, .bool p10, .bool p11] _ HRp.out Tryz.underlying31 rfl sizeU ?_)
 refine (HM.out _ HG2.out HU2.out HP2.out).mono ?_
 rintro e w3 ⟨fv, rfl, hr, hb3⟩
 have HC := hid (containsS_any (oneV u p hops) v fv L w3 (HV2.out.kept hb3) HL.out HS.out hr)
 rw [HQ.out] at HC
 have HB3 := hid (below2 HB2.out hb3)
 have HV3 := hid (HV2.out.kept hb3)
 have HG3 := hid (HG2.out.kept hb3)
 clear hr hb3
 go_wp2_with fail
 refine HC.out.mono ?_
 rintro e w4 ⟨rfl, hb4⟩
 have HB4 := hid (below2 HB3.out hb4)
 have HNm := hid (named_any v L n m w4 (HG3.out.kept hb4) (HV3.out.kept hb4) HL.out HS.out hn hm)
 rw [HZn.out] at HNm
 clear hb4
 cases q with
 | true =>
  go_wp2
  go_ret
  exact ⟨rfl, HB4.out⟩
 | false =>
  go_wp2_with (go_at_call 145; refine HNm.out.mono ?_; rintro e w5 ⟨rfl, hb5⟩)
  go_ret
  exact ⟨rfl, below2 HB4.out hb5⟩
end Go.Proofs.YtooihpkoplgmbaaGreatDoor
