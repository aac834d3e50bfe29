/-
  The walk of the law InfraDecoded.
-/
import Derived.Test.YthmhljnfjjblcaaPn
import Derived.Test.YthmhljnfjjblcaaWk
import Derived.Test.YthmhljnfjjblcaaWn
import Derived.Test.YthmhljnfjjblcaaKc
import Derived.Lib.SlBytesConst
import Derived.Lib.AppendZeros
import Derived.Deep.AppendSrc
set_option linter.unusedSimpArgs false
set_option linter.unusedVariables false
namespace Go.Proofs.Ythmhljnfjjblcaa
open Go.RowKit

/-- '[]byte(s)', as a call's argument. -/
theorem SlB.ofBytes (w : World) (e : TypeId) (s : ByteArray) (cap : Nat) (hcap : s.size ≤ cap) : SlB (w.drew.alloc (.cells (bytesRow s cap) e ((bytesRow s cap).size, (bytesRow s cap).size + 1))) (.slice (some ⟨w.heap.size, 0, none⟩) s.size cap) s.data.toList := by
  refine .inr ⟨_, cap, by rw [Lib.size_eq], fun j hj => ?_⟩
  have := (rowIs_bytes w e s cap hcap).cell j hj
  rw [Addr.add_lit]
  simpa using this

/-- 'string([]rune(s))'. -/
theorem runes_back (w : World) (s : ByteArray) (cap : Nat) :
    (convert 48 9 (.slice (some ⟨w.heap.size, 0, none⟩) (Conv.runesFrom s s.size 0 #[]).size cap)).run Try.prog
      (w.drew.alloc (.cells (Conv.runesFrom s s.size 0 #[] ++ Array.replicate (cap - (Conv.runesFrom s s.size 0 #[]).size) (.int .i32 0)) 21)) =
    .ok (.string (runesBytes ((runesN s s.size 0).map Int.ofNat))) (w.drew.alloc (.cells (Conv.runesFrom s s.size 0 #[] ++ Array.replicate (cap - (Conv.runesFrom s s.size 0 #[]).size) (.int .i32 0)) 21)) := by
  have e : Conv.runesFrom s s.size 0 #[] = ((runesN s s.size 0).map fun r => Value.int .i32 (Int.ofNat r)).toArray := by rw [runesN_from]; simp
  rw [e]
  have h := run_convert_runes (P := Try.prog) (w.drew.alloc (.cells (((runesN s s.size 0).map fun r => Value.int .i32 (Int.ofNat r)).toArray ++ Array.replicate (cap - ((runesN s s.size 0).map fun r => Value.int .i32 (Int.ofNat r)).toArray.size) (.int .i32 0)) 21)) 48 9 21 ⟨w.heap.size, 0, none⟩ ((runesN s s.size 0).map fun r => Value.int .i32 (Int.ofNat r)).toArray.size cap ((runesN s s.size 0).map Int.ofNat) (by simp) Try.underlying48 Try.underlying21 Try.underlying9 ?_
  · rw [h]
    simp
    rw [List.take_of_length_le (by simp)]
  · intro j hj
    have hj' : j < (runesN s s.size 0).length := by simpa using hj
    rw [Addr.add_lit, Nat.zero_add]
    have hh : (w.drew.alloc (.cells (((runesN s s.size 0).map fun r => Value.int .i32 (Int.ofNat r)).toArray ++ Array.replicate (cap - ((runesN s s.size 0).map fun r => Value.int .i32 (Int.ofNat r)).toArray.size) (.int .i32 0)) 21)).cell? ⟨w.drew.heap.size, j, none⟩ = _ := World.cell?_alloc_mark _ _ _ _ _
    refine hh.trans ?_
    simp [Array.getElem?_append, hj', List.getD]

theorem runesFrom_le (s : ByteArray) : (Conv.runesFrom s s.size 0 #[]).size ≤ s.size := by
  have e : Conv.runesFrom s s.size 0 #[] = ((runesN s s.size 0).map fun r => Value.int .i32 (Int.ofNat r)).toArray := by rw [runesN_from]; simp
  rw [e]
  suffices h : ∀ b i, (runesN s b i).length ≤ b by simpa using h s.size 0
  intro b
  induction b with
  | zero => intro i; simp [runesN]
  | succ b ih =>
    intro i
    unfold runesN
    split
    · have := ih (i + (Utf8.decode s i).2)
      simp; omega
    · simp

/-- The mark, and a text behind it: a new row. -/
theorem append_bom (w : World) (ty : TypeId) (t : ByteArray) (ht : 0 < t.size) (hs : t.size ≤ 1000000) :
    (Builtin.append_ #[22, 9] ty #[.slice (some ⟨w.heap.size, 0, none⟩) 3 3, .string t]).run Try.prog (w.alloc (.cells #[.int .u8 239, .int .u8 187, .int .u8 191] 5 (3, 4))) =
      .ok (.slice (some ⟨w.heap.size + 1, 0, none⟩) (3 + t.size) (grownCap (w.alloc (.cells #[.int .u8 239, .int .u8 187, .int .u8 191] 5 (3, 4))) (3 + t.size) 3 5))
        ((w.alloc (.cells #[.int .u8 239, .int .u8 187, .int .u8 191] 5 (3, 4))).drew.alloc (.cells ((Lib.byteCells (bom ++ t.data.toList)).toArray ++ Builtin.zeroCells #[.int .u8 0] (grownCap (w.alloc (.cells #[.int .u8 239, .int .u8 187, .int .u8 191] 5 (3, 4))) (3 + t.size) 3 5 - (3 + t.size))) 5)) := by
  obtain ⟨i0, hi, hz0, hz1, hz2⟩ := info_parts infoByte
  have hsrc : Src Try.prog i0.size 9 (.string t) t.size (byteCells t) (w.alloc (.cells #[.int .u8 239, .int .u8 187, .int .u8 191] 5 (3, 4))) := by rw [hz1]; exact Src.ofString _ Try.underlying9 t
  have h := run_append_grow_src (P := Try.prog) (w.alloc (.cells #[.int .u8 239, .int .u8 187, .int .u8 191] 5 (3, 4))) 22 9 ty 5 i0 (.int .u8 0) Try.underlying22 hi hz0 (some ⟨w.heap.size, 0, none⟩) 3 3 (Lib.byteCells bom) ?_ (.string t) t.size (byteCells t) hsrc (by omega) (by omega) ?_
  · rw [h, World.size_alloc, Lib.byteCells_append]
    rfl
  · rw [hz1]
    refine run_firstCells_some _ 1 3 _ 3 3 (Lib.byteCells bom) (by simp [bom, Lib.byteCells]) ?_
    intro j u hj
    rw [Addr.add_lit, Nat.zero_add]
    have : (w.alloc (.cells #[.int .u8 239, .int .u8 187, .int .u8 191] 5 (3, 4))).drew.cell? ⟨w.heap.size, j, none⟩ = #[Value.int .u8 239, .int .u8 187, .int .u8 191][j]? := World.cell?_alloc_mark w _ _ _ _
    rw [this, ← hj]
    simp [bom, Lib.byteCells]
  · rw [hz2]
    unfold Builtin.nextslicecap
    split <;> (try split) <;> omega

theorem SlB.ofAppend (w : World) (C : Array Value) (e : TypeId) (l : List UInt8) (n cap : Nat) (hn : n = l.length) (g : Nat) (hg : g = w.heap.size) : SlB (w.drew.alloc (.cells ((Lib.byteCells l).toArray ++ C) e)) (.slice (some ⟨g, 0, none⟩) n cap) l := by
  subst hn hg
  refine .inr ⟨_, cap, rfl, fun j hj => ?_⟩
  rw [Addr.add_lit, Nat.zero_add]
  have : (w.drew.alloc (.cells ((Lib.byteCells l).toArray ++ C) e)).cell? ⟨w.drew.heap.size, j, none⟩ = _ := World.cell?_alloc_mark _ _ _ _ _
  refine this.trans ?_
  simp [Lib.byteCells, Array.getElem?_append, hj]

theorem append_bom' (w : World) (ty : TypeId) (t : ByteArray) (ht : 0 < t.size) (hs : t.size ≤ 1000000) : ∃ cap w',
    (Builtin.append_ #[22, 9] ty #[.slice (some ⟨w.heap.size, 0, none⟩) 3 3, .string t]).run Try.prog (w.alloc (.cells #[.int .u8 239, .int .u8 187, .int .u8 191] 5 (3, 4))) =
      .ok (.slice (some ⟨w.heap.size + 1, 0, none⟩) (3 + t.size) cap) w' ∧ SlB w' (.slice (some ⟨w.heap.size + 1, 0, none⟩) (3 + t.size) cap) (bom ++ t.data.toList) ∧ Below w.heap.size w w' := by
  refine ⟨_, _, append_bom w ty t ht hs, SlB.ofAppend _ _ _ _ _ _ ?_ _ ?_, ((Below.refl _ w).alloc (Nat.le_refl _) _).drew.alloc ?_ _⟩
  · rw [List.length_append, Lib.size_eq]; rfl
  · rw [World.size_alloc]
  · show w.heap.size ≤ (w.alloc _).heap.size
    rw [World.size_alloc]; omega

/-- An append behind a guard that stands. -/
theorem wpList_append_guarded {P : Program} (w : World) {ops : Array Oper} {rest : List Oper} {o : Oper} {a : Act} {Q : Exit → Act → World → Prop} (hw : Region.wanted o (yielded ops a.tmps) = true) (s x : Operand) (t tn : TypeId)
    (ho : o.op = .call { callee := .builtin .append, args := #[s, x], argTypes := #[t, tn] }) (vs vx : Value) (hs : a.eval s = vs) (hx : a.eval x = vx)
    (v' : Value) (w' : World) (hr : (Builtin.append_ #[t, tn] o.type #[vs, vx]).run P w = .ok v' w') (h : wpList P ops Q rest (a.put o.dst v') w') : wpList P ops Q (o :: rest) a w :=
  wpList_step fun K hK => by
    rw [if_pos hw]
    exact Lib.wp_append_run w s x t tn ho vs vx hs hx v' w' hr (hK _ _ h)

set_option maxHeartbeats 2000000 in
theorem infraDecoded_walk (a0 : Option Addr) (len0 cap0 : Nat) (z0 : List Int) (w : World) (w0 : IsRow .u8 w a0 len0 cap0 z0) :
    Calls Try.prog 11 #[.slice a0 len0 cap0] w fun e w' => e = .returned (.bool true) ∧ Below w.heap.size w w' := by
  obtain ⟨l0, hl0, hS0, hc0, hm0⟩ := w0.bytes
  clear w0
  go_enter Try.func11, Try.ntmps11
  go_wp2_with fail
  refine (fewBytes_any a0 len0 cap0 500 l0 w hl0 hS0 hc0 hm0 (by decide)).mono ?_
  rintro e w1 ⟨len, hlen, hlc, rfl, hS, rfl⟩
  obtain ⟨l, hl⟩ : ∃ l, l = l0.take 500 := ⟨_, rfl⟩
  rw [← hl] at hS hlen
  have hll : l.length ≤ 500 := by rw [hl]; simp; omega
  clear hl hS0 hl0
  subst hlen
  go_wp2_with fail
  refine (decode_any _ l w hS (by omega)).mono ?_
  rintro e w1 ⟨rfl, hb1⟩
  obtain ⟨s, hs⟩ : ∃ s : ByteArray, s = ⟨(dec l).toArray⟩ := ⟨_, rfl⟩
  have hsl : s.data.toList = dec l := by rw [hs]
  have hsz : s.size ≤ 2000 := by rw [Lib.size_eq, hsl]; have := dec_le l; omega
  rw [← hs]
  have HSl := hid hsl
  clear hs hsl hS
  have hrr := runesFrom_le s
  have hc1 := run_runes_of_string (P := Try.prog) w1 9 48 21 s Try.underlying9 Try.underlying48 Try.underlying21 (by omega)
  have hc2 := runes_back w1 s (grownCap w1 (Conv.runesFrom s s.size 0 #[]).size 0 21)
  rw [dec_runes l s HSl.out] at hc2
  generalize grownCap w1 (Conv.runesFrom s s.size 0 #[]).size 0 21 = cap1 at hc1 hc2
  have hb2 : Below w1.heap.size w1 (w1.drew.alloc (.cells (Conv.runesFrom s s.size 0 #[] ++ Array.replicate (cap1 - (Conv.runesFrom s s.size 0 #[]).size) (.int .i32 0)) 21)) := (Below.refl _ w1).drew.alloc (Nat.le_refl _) _
  generalize (w1.drew.alloc (.cells (Conv.runesFrom s s.size 0 #[] ++ Array.replicate (cap1 - (Conv.runesFrom s s.size 0 #[]).size) (.int .i32 0)) 21)) = w2 at hc1 hc2 hb2
  generalize (Conv.runesFrom s s.size 0 #[]).size = rn at hc1 hc2 hrr
  obtain ⟨t, ht⟩ : ∃ t : ByteArray, t = ByteArray.mk #[120] ++ s := ⟨_, rfl⟩
  have htl : t.data.toList = 120 :: dec l := by rw [ht, ByteArray.data_append, Array.toList_append, HSl.out]; rfl
  have hts : t.size = s.size + 1 := by rw [Lib.size_eq, htl, Lib.size_eq s, HSl.out]; rfl
  have hts0 : 0 < t.size := by omega
  have hts1 : t.size ≤ 2001 := by omega
  clear hts
  have hc3 := run_bytes_of_string (P := Try.prog) w2 9 22 5 t Try.underlying9 Try.underlying22 Try.underlying5
  have hT := SlB.ofBytes w2 5 t (grownCap w2 t.size 0 5) (grownCap_ge w2 t.size 0 5)
  generalize grownCap w2 t.size 0 5 = cap2 at hc3 hT
  have hb3 : Below w2.heap.size w2 (w2.drew.alloc (.cells (bytesRow t cap2) 5 ((bytesRow t cap2).size, (bytesRow t cap2).size + 1))) := (Below.refl _ w2).drew.alloc (Nat.le_refl _) _
  generalize (w2.drew.alloc (.cells (bytesRow t cap2) 5 ((bytesRow t cap2).size, (bytesRow t cap2).size + 1))) = w3 at hc3 hT hb3
  have HT := hid htl
  have hd1 : dec t.data.toList = t.data.toList := by rw [htl]; exact dec_x l
  have hd2 : dec (bom ++ t.data.toList) = t.data.toList := by rw [htl]; exact dec_bom l
  have HD1 := hid hd1
  have HD2 := hid hd2
  have htz := hid (show t.data.toList.length = t.size by rw [Lib.size_eq])
  clear htl hd1 hd2
  have ht' := ht.symm
  clear ht
  go_wp2_with fail
  refine (decode_at _ t.data.toList t.data.toList w3 hT (by rw [htz.out]; omega) HD1.out).mono ?_
  rintro e w4 ⟨rfl, hb4⟩
  rw [Lib.mk_data]
  clear hc1 hc2 hc3 hT
  have hk : (convert 22 22 (.slice (some ⟨w4.heap.size, 0, none⟩) 3 3)).run Try.prog (w4.alloc (.cells #[.int .u8 239, .int .u8 187, .int .u8 191] 5)) = .ok (.slice (some ⟨w4.heap.size, 0, none⟩) 3 3) (w4.alloc (.cells #[.int .u8 239, .int .u8 187, .int .u8 191] 5 (3, 4))) := Lib.run_convert_bytes_const (P := Try.prog) w4 22 5 #[.int .u8 239, .int .u8 187, .int .u8 191] 3 3 Try.underlying22 Try.underlying5
  obtain ⟨cap5, w5, hap, hA, hb5⟩ := append_bom' w4 22 t (by omega) (by omega)
  go_wp2_with (at_builtin; refine wpList_append_guarded _ (by rfl) _ _ 22 9 rfl _ _ rfl rfl _ _ hap ?_)
  go_wp2_with fail
  refine (decode_at _ (bom ++ t.data.toList) t.data.toList w5 hA (by rw [List.length_append, htz.out]; simp [bom]; omega) HD2.out).mono ?_
  rintro e w6 ⟨rfl, hb6⟩
  rw [Lib.mk_data]
  clear hA hap hk
  go_wp2_with fail
  refine (known_any w6).mono ?_
  rintro e w7 ⟨rfl, hb7⟩
  go_wp2
  go_ret
  exact ⟨rfl, below2 (below5 hb1 hb2 hb3 hb4 hb5) (below2 hb6 hb7)⟩

end Go.Proofs.Ythmhljnfjjblcaa
