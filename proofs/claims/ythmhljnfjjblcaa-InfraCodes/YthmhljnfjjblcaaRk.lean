/-
  The walk of the document's own answer of chapter 1: ostiaryref1's Encode64.
-/
import Derived.Test.YthmhljnfjjblcaaRj
import Derived.Test.YthmhljnfjjblcaaWp
import Derived.Deep.RegionLaw
set_option linter.unusedSimpArgs false
set_option linter.unusedVariables false
namespace Go.Proofs.Ythmhljnfjjblcaa
open Go.RowKit

theorem i64_and_nat (a b : Nat) (ha : a < 4611686018427387904) (hb : b < 4611686018427387904) : bits .and .i64 (a : Int) (b : Int) = ((a &&& b : Nat) : Int) := by
  have hx : a &&& b < 2 ^ 62 := Nat.and_lt_two_pow _ (by omega)
  show IntKind.i64.wrap ((BitVec.ofInt 64 (a : Int) &&& BitVec.ofInt 64 (b : Int)).toNat : Int) = _
  rw [BitVec.toNat_and, ofInt_u64 a (by omega), ofInt_u64 b (by omega), IntKind.wrap_i64]
  omega

theorem i64_or_nat (a b : Nat) (ha : a < 4611686018427387904) (hb : b < 4611686018427387904) : bits .or .i64 (a : Int) (b : Int) = ((a ||| b : Nat) : Int) := by
  have hx : a ||| b < 2 ^ 62 := Nat.or_lt_two_pow (by omega) (by omega)
  show IntKind.i64.wrap ((BitVec.ofInt 64 (a : Int) ||| BitVec.ofInt 64 (b : Int)).toNat : Int) = _
  rw [BitVec.toNat_or, ofInt_u64 a (by omega), ofInt_u64 b (by omega), IntKind.wrap_i64]
  omega

theorem or24i (a b c : UInt8) : bits .or .i64 (bits .or .i64 ((a.toNat : Int) * 65536) ((b.toNat : Int) * 256)) (c.toNat : Int) = ((a.toNat * 65536 + b.toNat * 256 + c.toNat : Nat) : Int) := by
  have ha := a.toNat_lt
  have hb := b.toNat_lt
  have hc := c.toNat_lt
  have e1 : (a.toNat : Int) * 65536 = ((a.toNat * 65536 : Nat) : Int) := by omega
  have e2 : (b.toNat : Int) * 256 = ((b.toNat * 256 : Nat) : Int) := by omega
  rw [e1, e2, i64_or_nat _ _ (by omega) (by omega), nat_join 16 _ _ (by omega) (by omega), i64_or_nat _ _ (by omega) (by omega), nat_join 8 _ _ (by omega) (by omega)]

theorem and63i (m : Nat) (h : m < 16777216) : bits .and .i64 (m : Int) 63 = ((m % 64 : Nat) : Int) := by
  have := i64_and_nat m 63 (by omega) (by omega)
  rw [nat_mask6] at this
  exact this

/-- The four signs that n bytes, laid together as v, are written as. -/
def four (n v q : Nat) : UInt8 := if q ≤ n then d64 (v / 2 ^ (18 - 6 * q) % 64) else 61
def fours (n v : Nat) : List UInt8 := [four n v 0, four n v 1, four n v 2, four n v 3]

theorem e64_fours (r : List UInt8) (h : 0 < r.length) (a b c : UInt8) (ha : a = r.getD 0 0) (hb : b = r.getD 1 0) (hc : c = r.getD 2 0) : e64 r = fours (min 3 r.length) (a.toNat * 65536 + b.toNat * 256 + c.toNat) ++ e64 (r.drop 3) := by
  have h1 := a.toNat_lt
  have h2 := b.toNat_lt
  have h3 := c.toNat_lt
  match r with
  | [] => simp at h
  | [x] =>
    simp at ha hb hc
    subst ha hb hc
    simp only [e64, fours, four, List.length_cons, List.length_nil, List.drop]
    simp
    constructor <;> congr 1 <;> omega
  | [x, y] =>
    simp at ha hb hc
    subst ha hb hc
    simp only [e64, fours, four, List.length_cons, List.length_nil, List.drop]
    simp
    refine ⟨?_, ?_, ?_⟩ <;> congr 1 <;> omega
  | x :: y :: z :: r =>
    simp at ha hb hc
    subst ha hb hc
    have hm : min 3 (a :: b :: c :: r).length = 3 := by simp
    rw [hm]
    simp only [e64, fours, four, List.drop]
    simp
    refine ⟨?_, ?_, ?_, ?_⟩ <;> congr 1 <;> omega

/-- 'copy(x[:], b)', into a new block of three bytes; b may be longer. -/
theorem copy_upto (W : World) (t : TypeId) (x : Addr) (n cap : Nat) (l : List UInt8) (hl : l.length = min 3 n) (hc : ∀ j (h : j < l.length), W.cell? (x.add j) = some (.int .u8 (l[j].toNat : Int))) :
    (Builtin.copy_ #[22, 22] 3 #[.slice (some ⟨W.heap.size, 0, none⟩) 3 3, .slice (some x) n cap]).run Try.prog (W.alloc (.cells #[.int .u8 0, .int .u8 0, .int .u8 0] t)) =
      .ok (goInt l.length) (W.alloc (.cells (Lib.byteCells l ++ (List.replicate 3 (Value.int .u8 0)).drop l.length).toArray t)) := by
  obtain ⟨i0, hi, hz0, hz1, hz2⟩ := info_parts infoByte
  have hsz1 : (Try.prog.info? 5).map (·.size) = some 1 := by rw [hi]; simp [hz1]
  have h := run_copy_row (P := Try.prog) (W.alloc (.cells #[.int .u8 0, .int .u8 0, .int .u8 0] t)) 22 22 3 5 W.heap.size 0 3 3 x n cap #[.int .u8 0, .int .u8 0, .int .u8 0] t (Lib.byteCells l) Try.underlying22 hsz1
    (heap_alloc_new W _) (by rw [Lib.byteCells_length, hl]; exact Nat.min_comm _ _) ?_ (by rw [Lib.byteCells_length, hl]; simp; omega) ?_
  · rw [h, setRow_new, Lib.byteCells_length]
    congr 3
    simp [List.replicate]
  · intro j v hj
    have hj' : j < l.length := by
      have := (List.getElem?_eq_some_iff.1 hj).1
      rwa [Lib.byteCells_length] at this
    have hb := World.block_lt_of_cell? W _ (hc j hj')
    have e : (W.alloc (.cells #[.int .u8 0, .int .u8 0, .int .u8 0] t)).cell? (x.add j) = W.cell? (x.add j) := World.cell?_alloc_old W _ _ (Nat.ne_of_lt hb)
    rw [e, hc j hj', ← hj]
    simp [Lib.byteCells, hj']
  · intro v hv
    simp only [Lib.byteCells, List.mem_map] at hv
    obtain ⟨b, _, rfl⟩ := hv
    rfl

/-- A copy whose run is known, in a region that draws its order. -/
theorem step_copy_run {P : Program} {ops : Array Oper} {o : Oper} {a : Act} {w : World} {K : Act → World → Prop} {Q : Exit → Act → World → Prop} {E : Prop} (hgd : o.guard = none) (s x : Operand) (t tn : TypeId)
    (ho : o.op = .call { callee := .builtin .copy, args := #[s, x], argTypes := #[t, tn] }) (vs vx : Value) (hs : a.eval s = vs) (hx : a.eval x = vx)
    (v' : Value) (w' : World) (hr : (Builtin.copy_ #[t, tn] o.type #[vs, vx]).run P w = .ok v' w') (h : K (a.put o.dst v') w') :
    if Region.wanted o (yielded ops a.tmps) = true then Oper.wp P o a w K Q else E := by
  rw [if_pos (by simp [Region.wanted, hgd])]
  unfold Oper.wp execOp
  simp only [ho, resolve, invoke, builtin, Sem.run_bind, Sem.run_pure, Result.andThen_ok, List.map_toArray, List.map_cons, List.map_nil, hs, hx, hr]
  exact h

end Go.Proofs.Ythmhljnfjjblcaa
