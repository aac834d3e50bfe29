/-
  What a walk is told of a slice of bytes that came in.
  Plain facts: a slice of bytes in memory, and what it reads as; texts decoded as UTF-8.
  Memory: small facts that the walks of package digest lean on.
  A book of memory, for lists of any kind and room: lists that stand at any place of a row, an append to them; what a book holds.
  The walks of strings.Builder's copyCheck, WriteByte over this translation: a builder that holds bs holds bs and the byte behind the call; what lay below the builder, and every other block that is no row of bytes, stands.
  ostiarybook's book of lists of bytes: what it holds in memory; its marks.
  The walks of ostiarykeep.FewBytes and ostiarybook.Within.
  The walks of ostiarybook's Same, Roomy, Intact at bytes.
  The walk of ostiarybook's Stays at bytes.
  Plain facts about words: bounds, a word's opposite, bytes of words.
  Words in memory: a block that holds numbers of one kind; the roots that the package's variables hold.
  Parts of a function's code, by name; a way through a part alone.
  A book of memory, for lists of any kind, place and room: what is the same for all kinds.
-/
import Derived.Test.YtplabofdcnpcpaaDoorZGa
import Derived.Test.YtplabofdcnpcpaaDoorProg
import Derived.WalkKit
import Derived.Lib.UnsafeStr
import Derived.Lib.BufferRead
import Derived.Lib.RuneBytes
import Derived.Laws.RangeAny
import Derived.WalkSpells
import Derived.WalkLawsBesides
import Derived.Laws.CopyOwn
import Derived.Laws.ResultCell
import Derived.Deep.MidRow
import Derived.Laws.AppendOwn
import Derived.Laws.OwnMore
import Derived.Below
import Derived.WalkSmall
import Derived.Lib.SmallJoins
import Derived.Lib.FrozenHead2
import Derived.Lib.OthersKept
import Derived.Lib.Builder
import Derived.Deep.RegionLaw
import Derived.Deep.QuietTactic
import Derived.BigQuiet
import Derived.Lib.BufferMore
import Derived.Deep.RegionHeld
import Derived.Laws.BitsAll
import Derived.Lib.LaidTab
set_option linter.unusedSimpArgs false
set_option linter.unusedVariables false
namespace Go.Proofs.YtplabofdcnpcpaaDoor
open Go.RowKit

/-- It is nil; or it leads to a row of cap cells, the numbers zs (the first len are its elements), each fitting its kind. -/
def IsRow (k : IntKind) (w : World) (a : Option Addr) (len cap : Nat) (zs : List Int) : Prop :=
  (a = none ∧ len = 0 ∧ cap = 0 ∧ zs = []) ∨
  ∃ x, a = some x ∧ len ≤ cap ∧ cap ≤ maxLen ∧ zs.length = cap ∧ (∀ i, i < zs.length → w.cell? (x.add i) = some (.int k (zs.getD i 0))) ∧ ∀ n ∈ zs, (Lit.int k n).wf = true

theorem IsRow.block {k : IntKind} {w : World} {a : Option Addr} {len cap : Nat} {zs : List Int} (h : IsRow k w a len cap zs) {y : Addr} (hy : a = some y) {j : Nat} (hj : j < zs.length) : (y.add j).block < w.heap.size := by
  rcases h with ⟨rfl, _⟩ | ⟨x, rfl, _, _, _, hcell, _⟩
  · cases hy
  · obtain rfl := Option.some.inj hy
    exact World.block_lt_of_cell? w _ (hcell j hj)

end Go.Proofs.YtplabofdcnpcpaaDoor

namespace Go.Proofs.YtplabofdcnpcpaaDoor
open Go.RowKit

/-- The slice v reads as the bytes l. -/
def SlB (w : World) (v : Value) (l : List UInt8) : Prop :=
  (∃ c, v = .slice none 0 c ∧ l = []) ∨ ∃ x cap, v = .slice (some x) l.length cap ∧ ∀ j (h : j < l.length), w.cell? (x.add j) = some (.int .u8 (l[j].toNat : Int))

theorem SlB.string {P : Program} {w : World} {v : Value} {l : List UInt8} {e src dst : TypeId} (h : SlB w v l) (hs : P.underlying src = some (.slice e)) (he : P.underlying e = some (.int .u8)) (hd : P.underlying dst = some .string) :
    (convert src dst v).run P w = .ok (.string ⟨l.toArray⟩) w := by
  rcases h with ⟨c, rfl, rfl⟩ | ⟨x, cap, rfl, hc⟩
  · exact Lib.run_convert_nil_bytes w src dst e c hs he hd
  · exact run_convert_bytes_back w src dst e x cap l hs he hd hc

theorem SlB.below {w w' : World} {v : Value} {l : List UInt8} {B : Nat} (h : SlB w v l) (hb : Below B w w') (hB : ∀ x n c, v = .slice (some x) n c → ∀ j, j < l.length → (x.add j).block < B) : SlB w' v l := by
  rcases h with h | ⟨x, cap, rfl, hc⟩
  · exact .inl h
  · exact .inr ⟨x, cap, rfl, fun j hj => (hb.cell (hB x _ _ rfl j hj)).trans (hc j hj)⟩

theorem SlB.kept {w w' : World} {v : Value} {l : List UInt8} (h : SlB w v l) (hb : Below w.heap.size w w') : SlB w' v l := by
  refine h.below hb ?_
  rcases h with ⟨c, rfl, rfl⟩ | ⟨x, cap, rfl, hc⟩
  · intro x n c' e j hj; simp at hj
  · intro x' n c' e j hj
    obtain ⟨e1, _, _⟩ := Value.slice.inj e
    obtain rfl := Option.some.inj e1
    exact World.block_lt_of_cell? w _ (hc j hj)

theorem SlB.alloc {w : World} {v : Value} {l : List UInt8} (h : SlB w v l) (o : Obj) : SlB (w.alloc o) v l := h.kept ((Below.refl _ w).alloc (Nat.le_refl _) o)

theorem SlB.len {w : World} {v : Value} {l : List UInt8} (h : SlB w v l) : ∃ a cap, v = .slice a l.length cap := by
  rcases h with ⟨c, rfl, rfl⟩ | ⟨x, cap, rfl, hc⟩
  · exact ⟨none, c, rfl⟩
  · exact ⟨some x, cap, rfl⟩

/-- A new block that holds the bytes. -/
theorem SlB.laid (w : World) (C : Array Value) (e : TypeId) (fz : Nat × Nat) (l : List UInt8) (cap : Nat) (h : C = (Lib.byteCells l).toArray) : SlB (w.alloc (.cells C e fz)) (.slice (some ⟨w.heap.size, 0, none⟩) l.length cap) l := by
  refine .inr ⟨_, cap, rfl, fun j hj => ?_⟩
  rw [Addr.add_lit, Nat.zero_add, World.cell?_alloc_mark, h]
  simp [Lib.byteCells, hj]

/-- What an owned row reads as. -/
theorem SlB.own {w : World} {B : Nat} {e : TypeId} {v : Value} {l : List UInt8} (h : w.ownsRow B e 1 v l.length (Lib.byteCells l)) : SlB w v l := by
  rcases h.2 with ⟨rfl, h0⟩ | ⟨g, cap, cur, rfl, _⟩
  · exact .inl ⟨0, rfl, List.eq_nil_of_length_eq_zero h0⟩
  · exact .inr ⟨_, cap, rfl, fun j hj => h.cells (g := g) rfl j _ (by simp [Lib.byteCells, hj])⟩

theorem SlB.take {w : World} {a : Option Addr} {len cap : Nat} {l : List UInt8} (h : SlB w (.slice a len cap) l) (n : Nat) (hn : n < l.length) : SlB w (.slice a n cap) (l.take n) := by
  rcases h with ⟨c, e, rfl⟩ | ⟨x, c, e, hc⟩
  · simp at hn
  · obtain ⟨rfl, rfl, rfl⟩ := Value.slice.inj e
    refine .inr ⟨x, cap, by congr 1; simp; omega, fun j hj => ?_⟩
    have hj' : j < l.length := by simp at hj; omega
    rw [hc j hj']; simp

/-- A slice that came in reads as bytes. -/
theorem IsRow.bytes {w : World} {a : Option Addr} {len cap : Nat} {zs : List Int} (h : IsRow .u8 w a len cap zs) : ∃ l : List UInt8, l.length = len ∧ SlB w (.slice a len cap) l ∧ len ≤ cap ∧ cap ≤ maxLen := by
  rcases h with ⟨rfl, rfl, rfl, rfl⟩ | ⟨x, rfl, hlc, hcm, hz, hcell, hwf⟩
  · exact ⟨[], rfl, .inl ⟨0, rfl, rfl⟩, Nat.le_refl _, by unfold maxLen; omega⟩
  · refine ⟨(zs.take len).map fun n => UInt8.ofNat n.toNat, by simp; omega, .inr ⟨x, cap, by congr 1; simp; omega, ?_⟩, hlc, hcm⟩
    intro j hj
    have hj' : j < len ∧ j < zs.length := by simp at hj; omega
    have hwfj := hwf zs[j] (List.getElem_mem hj'.2)
    have hb : 0 ≤ zs[j] ∧ zs[j] ≤ 255 := by simpa [Lit.wf, IntKind.min, IntKind.max, IntKind.bits, IntKind.signed] using hwfj
    rw [hcell j hj'.2]
    have e : zs.getD j 0 = zs[j] := by simp [List.getD, hj'.2]
    rw [e]
    congr 2
    simp
    omega

/-- From place pos on, by at most fuel runes: each rune encoded anew. -/
def recFrom (s : ByteArray) : Nat → Nat → List UInt8
  | 0, _ => []
  | fuel + 1, pos => if pos < s.size then Lib.encodeRune (Utf8.decode s pos).1 ++ recFrom s fuel (pos + (Utf8.decode s pos).2) else []
def recode (s : ByteArray) : List UInt8 := recFrom s s.size 0

def bom : List UInt8 := [239, 187, 191]
def dec (l : List UInt8) : List UInt8 := recode ⟨(Lib.trimPrefix l bom).toArray⟩

theorem width_pos (s : ByteArray) (pos : Nat) (h : pos < s.size) : 1 ≤ (Utf8.decode s pos).2 := by
  by_cases ha : (s[pos]'h).toNat < 128
  · rw [decode_ascii s pos h ha]
    exact Nat.le_refl _
  · exact (decode_high s pos h (by omega)).2

theorem recFrom_end (s : ByteArray) (fuel pos : Nat) (h : ¬ pos < s.size) : recFrom s fuel pos = [] := by
  cases fuel with
  | zero => rfl
  | succ f => simp [recFrom, h]

end Go.Proofs.YtplabofdcnpcpaaDoor

namespace Go.Proofs.YtplabofdcnpcpaaDoor
open Go.RowKit

theorem below2 {a b c : World} (h1 : Below a.heap.size a b) (h2 : Below b.heap.size b c) : Below a.heap.size a c := h1.trans (h2.mono h1.size)

theorem row_kept {w w' : World} {g : Nat} {o : Obj} (h : w.heap[g]? = some o) (hb : Below w.heap.size w w') : w'.heap[g]? = some o := by
  have hlt : g < w.heap.size := by
    rcases Nat.lt_or_ge g w.heap.size with h' | h'
    · exact h'
    · rw [Array.getElem?_eq_none h'] at h; cases h
  rw [hb.block g hlt]; exact h

theorem there_row {w : World} {g n : Nat} {cs : Array Value} {t : TypeId} (h : w.heap[g]? = some (.cells cs t (0, 0))) (hn : n ≤ cs.size) : w.there g 0 n := by
  intro j hj
  constructor
  · rw [cell_of_row w g _ cs t _ h]; simp; omega
  · simp [World.frozen?, h]

theorem range_row {w : World} {g : Nat} {cs : List Value} {t : TypeId} {f : Nat × Nat} (h : w.heap[g]? = some (.cells cs.toArray t f)) : w.rangeAt g 0 cs := by
  intro j v hv
  rw [Nat.zero_add, cell_of_row w g j _ t _ h]
  simpa using hv

theorem below_setCells {B b : Nat} (hb : B ≤ b) {w0 : World} : ∀ (vs : List Value) (o : Nat) (w : World), Below B w0 w → Below B w0 (w.setCells b o vs)
  | [], _, _, h => h
  | v :: r, o, w, h => by
    rw [World.setCells]
    exact below_setCells hb r (o + 1) _ (h.setCell (p := ⟨b, o, none⟩) hb v)

theorem own_kept {w w' : World} {base : Nat} {e : TypeId} {size n : Nat} {v : Value} {xs : List Value} (h : w.ownsRow base e size v n xs) (hb : Below w.heap.size w w') : w'.ownsRow base e size v n xs := by
  refine ⟨h.1, ?_⟩
  rcases h.2 with h | ⟨g, cap, cur, hv, h1, h2, h3⟩
  · exact .inl h
  · refine .inr ⟨g, cap, cur, hv, h1, ?_, h3⟩
    have hlt : g < w.heap.size := by
      rcases Nat.lt_or_ge g w.heap.size with h' | h'
      · exact h'
      · rw [Array.getElem?_eq_none h'] at h2; cases h2
    rw [hb.block g hlt]; exact h2

theorem kept_cell {w w' : World} {a : Addr} {v : Value} (h : w.cell? a = some v) (hb : Below w.heap.size w w') : w'.cell? a = some v := (hb.cell (World.block_lt_of_cell? w _ h)).trans h

end Go.Proofs.YtplabofdcnpcpaaDoor

namespace Go.Proofs.YtplabofdcnpcpaaDoor
open Go.RowKit

/-- A list of one cell a place, at any place of a row of its own. -/
def SlV (w : World) (B : Nat) (T : TypeId) (v : Value) (us : List Value) : Prop :=
  (v = .slice none 0 0 ∧ us = []) ∨ ∃ g o c cur, v = .slice (some ⟨g, o, none⟩) us.length c ∧ B ≤ g ∧ w.heap[g]? = some (.cells cur T (0, 0)) ∧ us.length ≤ c ∧ o + c ≤ cur.size ∧ c ≤ maxLen ∧ ∀ j u, us[j]? = some u → cur[o + j]? = some u

theorem SlV.nil (w : World) (B : Nat) (T : TypeId) : SlV w B T (.slice none 0 0) [] := .inl ⟨rfl, rfl⟩

theorem SlV.form {w : World} {B : Nat} {T : TypeId} {v : Value} {us : List Value} (h : SlV w B T v us) : ∃ a c, v = .slice a us.length c ∧ us.length ≤ c := by
  rcases h with ⟨rfl, rfl⟩ | ⟨g, o, c, cur, rfl, _, _, hc, _⟩
  · exact ⟨none, 0, rfl, Nat.le_refl _⟩
  · exact ⟨_, c, rfl, hc⟩

theorem SlV.lt {w : World} {B : Nat} {T : TypeId} {v : Value} {us : List Value} (h : SlV w B T v us) : ∀ k, v.ownBlock = some k → B ≤ k ∧ k < w.heap.size := by
  intro k hk
  rcases h with ⟨rfl, rfl⟩ | ⟨g, o, c, cur, rfl, hB, hg, _⟩
  · simp [Value.ownBlock] at hk
  · simp [Value.ownBlock] at hk
    subst hk
    exact ⟨hB, (Array.getElem?_eq_some_iff.1 hg).1⟩

theorem SlV.same {w w' : World} {B : Nat} {T : TypeId} {v : Value} {us : List Value} (h : SlV w B T v us) (hk : ∀ k, v.ownBlock = some k → w'.heap[k]? = w.heap[k]?) : SlV w' B T v us := by
  rcases h with h | ⟨g, o, c, cur, rfl, hB, hg, h1, h2, h3, h4⟩
  · exact .inl h
  · exact .inr ⟨g, o, c, cur, rfl, hB, (hk g rfl).trans hg, h1, h2, h3, h4⟩

theorem SlV.other {w : World} {B p : Nat} {T T' : TypeId} {v : Value} {us : List Value} {cs : Array Value} {fr : Nat × Nat} (h : SlV w B T v us) (hp : w.heap[p]? = some (.cells cs T' fr)) (hne : T' ≠ T) : v.ownBlock ≠ some p := by
  rcases h with ⟨rfl, rfl⟩ | ⟨g, o, c, cur, rfl, hB, hg, _⟩
  · simp [Value.ownBlock]
  · intro e
    simp [Value.ownBlock] at e
    subst e
    rw [hp] at hg
    injection hg with hg
    injection hg with _ hg _
    exact hne hg

theorem SlV.cell {w : World} {B : Nat} {T : TypeId} {v : Value} {us : List Value} (h : SlV w B T v us) (j : Nat) (hj : j < us.length) : ∃ g o c, v = .slice (some ⟨g, o, none⟩) us.length c ∧ us.length ≤ c ∧ w.cell? ⟨g, o + j, none⟩ = some us[j] := by
  rcases h with ⟨rfl, rfl⟩ | ⟨g, o, c, cur, rfl, hB, hg, h1, h2, h3, h4⟩
  · simp at hj
  · refine ⟨g, o, c, rfl, h1, ?_⟩
    rw [Lib.cell_of_heap hg]
    exact h4 j us[j] (by simp [hj])

/-- What is behind the first one. -/
theorem SlV.tail {w : World} {B g o c : Nat} {T : TypeId} {a : Value} {us : List Value} (h : SlV w B T (.slice (some ⟨g, o, none⟩) (us.length + 1) c) (a :: us)) : SlV w B T (.slice (some ⟨g, o + 1, none⟩) us.length (c - 1)) us := by
  rcases h with ⟨h, _⟩ | ⟨g', o', c', cur, e, hB, hg, h1, h2, h3, h4⟩
  · cases h
  · injection e with e1 e2 e3
    injection e1 with e1
    injection e1 with e4 e5
    subst e4 e5 e3
    rw [List.length_cons] at h1
    refine .inr ⟨g, o + 1, c - 1, cur, rfl, hB, hg, by omega, by omega, by omega, fun j u hu => ?_⟩
    have := h4 (j + 1) u (by simpa using hu)
    rw [show o + 1 + j = o + (j + 1) by omega]
    exact this

theorem run_append_at {P : Program} (w : World) (t ty e : TypeId) (i : TypeInfo) (ht : P.underlying t = some (.slice e)) (hi : P.info? e = some i) (hsz : i.size = 1)
    (g o sLen sCap : Nat) (cur : Array Value) (hg : w.heap[g]? = some (.cells cur e (0, 0)))
    (a : Addr) (c : Nat) (x : Value) (hx : w.cell? (a.add 0) = some x) (h1 : x.oneCell' = true)
    (hroom : sLen + 1 ≤ sCap) (hfit : o + sLen + 1 ≤ cur.size) :
    (Builtin.append_ #[t, t] ty #[.slice (some ⟨g, o, none⟩) sLen sCap, .slice (some a) 1 c]).run P w =
      .ok (.slice (some ⟨g, o, none⟩) (sLen + 1) sCap) (w.setRow g (cur.toList.take (o + sLen) ++ [x] ++ cur.toList.drop (o + sLen + 1)).toArray) := by
  have hf := run_firstCells_some (P := P) w 1 1 a 1 c [x] rfl (fun j u hj => by
    match j, hj with
    | 0, hj => simp at hj; subst hj; exact hx)
  have hst := run_storeCells_at P g (o + sLen) e [x] 0 cur w hg (by simpa using hfit) (by simpa using h1)
  simp only [Nat.add_zero, List.length_cons, List.length_nil, Nat.zero_add] at hst
  simp [Builtin.append_, run_underlying ht, sizeOf, typeInfo, hi, hsz, Builtin.lenOf, hroom, hf, Addr.add_lit, hst]

/-- One more place behind such a list. -/
theorem run_append_slv {P : Program} (w : World) (B : Nat) (t ty e : TypeId) (i : TypeInfo) (z : Value) (ht : P.underlying t = some (.slice e)) (hi : P.info? e = some i) (hz : i.zero = some z) (hsz : i.size = 1) (hby : i.bytes = 24) (hzs : z.cells.size = 1)
    (v : Value) (us : List Value) (h : SlV w B e v us) (a : Addr) (c : Nat) (x : Value) (hx : w.cell? (a.add 0) = some x) (h1 : x.oneCell' = true) (hn : us.length ≤ 100000) (hB : B ≤ w.heap.size) :
    ∃ v' w', (Builtin.append_ #[t, t] ty #[v, .slice (some a) 1 c]).run P w = .ok v' w' ∧ SlV w' B e v' (us ++ [x]) ∧ w.grownBy w' v.ownBlock ∧ (v'.ownBlock = v.ownBlock ∨ ∃ k, v'.ownBlock = some k ∧ w.heap.size ≤ k) := by
  have hml : maxLen = 9223372036854775807 := rfl
  have hnews : ∀ j u, [x][j]? = some u → w.cell? (a.add j) = some u := fun j u hj => by
    match j, hj with
    | 0, hj => simp at hj; subst hj; exact hx
  rcases h with ⟨rfl, rfl⟩ | ⟨g, o, cap, cur, rfl, hBg, hg, hnc, hoc, hcm, hc⟩
  · have hr := run_append_nil (P := P) w t ty e i z ht hi hz a 1 c [x] (by rw [hsz]; rfl) hnews (by decide) (by decide) (by omega)
    refine ⟨_, _, hr, ?_, ⟨rfl, rfl, rfl, by simp, fun k hk _ => Lib.alloc_old w.drew _ k hk⟩, .inr ⟨_, rfl, Nat.le_refl _⟩⟩
    have hge := grownCap_ge w 1 0 e
    refine .inr ⟨w.heap.size, 0, _, _, rfl, hB, heap_alloc_new w.drew _, hge, ?_, grownCap_le_maxLen w 1 0 e (by omega), fun j u hu => ?_⟩
    · simp only [Array.size_append, List.size_toArray, size_zeroCells, hzs, List.length_cons, List.length_nil]
      omega
    · have hj : j < 1 := by have := (List.getElem?_eq_some_iff.1 hu).1; simpa using this
      obtain rfl : j = 0 := by omega
      simp at hu
      subst hu
      rw [Nat.zero_add, Array.getElem?_append_left (by simp)]
      simp
  · by_cases hroom : us.length + 1 ≤ cap
    · have hr := run_append_at (P := P) w t ty e i ht hi hsz g o us.length cap cur hg a c x hx h1 hroom (by omega)
      refine ⟨_, _, hr, ?_, ?_, .inl rfl⟩
      · refine .inr ⟨g, o, cap, _, by simp, hBg, setRow_heap w g cur _ e (0, 0) hg, by simpa using hroom, ?_, hcm, fun j u hu => ?_⟩
        · simp only [List.size_toArray, List.length_append, List.length_take, List.length_drop, Array.length_toList, List.length_cons, List.length_nil]
          omega
        · have hj : j < us.length + 1 := by have := (List.getElem?_eq_some_iff.1 hu).1; simpa using this
          have hlt : (cur.toList.take (o + us.length)).length = o + us.length := by rw [List.length_take]; have : cur.toList.length = cur.size := Array.length_toList; omega
          rw [List.getElem?_toArray, List.append_assoc]
          by_cases hjn : j < us.length
          · rw [List.getElem?_append_left (by omega), List.getElem?_take, if_pos (by omega), Array.getElem?_toList]
            rw [List.getElem?_append_left hjn] at hu
            exact hc j u hu
          · obtain rfl : j = us.length := by omega
            rw [List.getElem?_append_right (by omega), hlt, Nat.sub_self]
            rw [List.getElem?_append_right (Nat.le_refl _), Nat.sub_self] at hu
            simpa using hu
      · exact ⟨rfl, rfl, rfl, by simp, fun k hk hne => setRow_other w g k _ (fun e => hne (by rw [e]; rfl))⟩
    · have hr := run_append_grow (P := P) w t ty e i z ht hi hz ⟨g, o, none⟩ us.length cap us (by rw [hsz, Nat.mul_one]) (fun j u hu => by
        rw [Addr.add_lit, Lib.cell_of_heap hg]
        exact hc j u hu) a 1 c [x] (by rw [hsz]; rfl) hnews (by omega) (by omega) (growslice_fits (by omega) (by rw [hby]; omega))
      refine ⟨_, _, hr, ?_, ⟨rfl, rfl, rfl, by simp, fun k hk _ => Lib.alloc_old w.drew _ k hk⟩, .inr ⟨_, rfl, Nat.le_refl _⟩⟩
      have hge := grownCap_ge w (us.length + 1) cap e
      refine .inr ⟨w.heap.size, 0, _, _, by simp, hB, heap_alloc_new w.drew _, by simpa using hge, ?_, grownCap_le_maxLen w (us.length + 1) cap e (by omega), fun j u hu => ?_⟩
      · simp only [Array.size_append, List.size_toArray, size_zeroCells, hzs, List.length_cons, List.length_nil]
        omega
      · have hj : j < us.length + 1 := by have := (List.getElem?_eq_some_iff.1 hu).1; simpa using this
        rw [Nat.zero_add, Array.getElem?_append_left (by simp; omega), show us.toArray ++ [x].toArray = (us ++ [x]).toArray by simp]
        simpa using hu

end Go.Proofs.YtplabofdcnpcpaaDoor

namespace Go.Proofs.YtplabofdcnpcpaaDoor
open Go.RowKit

theorem sizeBuilder : (Tryd.prog.info? 117).map (·.size) = some 2 := by kernel_rfl
theorem liesBuilder : liesAt Tryd.prog Tryd.prog.depth 117 (2 / Tryd.prog.cellsOf 117) 0 117 1 = true := by kernel_rfl
theorem infoByte : (Tryd.prog.info? 5).map (fun i => (i.zero, i.size, i.bytes)) = some (some (.int .u8 0), 1, 1) := by kernel_rfl

set_option maxHeartbeats 1000000 in
set_option maxRecDepth 100000 in
theorem copyCheck_fresh (b : Nat) (w : World) (h0 : w.cell? ⟨b, 0, none⟩ = some (.pointer none)) (hsh : w.shape? b = some (117, 2)) (hfz : w.frozen? ⟨b, 0, none⟩ = false) :
    Calls Tryd.prog 102 #[.pointer (some ⟨b, 0, none⟩)] w fun e w' => e = .returned (.tuple #[]) ∧ w' = w.setCell ⟨b, 0, none⟩ (.pointer (some ⟨b, 0, none⟩)) := by
  obtain ⟨j, hj, hjs⟩ := Option.map_eq_some_iff.1 sizeBuilder
  go_enter Tryd.func102, Tryd.ntmps102
  go_wp2
  rw [Lib.run_to_unsafe w ⟨b, 0, none⟩ Tryd.underlying115 Tryd.underlying141 hj (by rw [hjs]; decide) hsh (Nat.zero_lt_succ 1)]
  simp only [Result.andThen]
  rw [Oper.upon_value]
  go_wp2
  rw [run_callFunc_extern Tryd.func119 (by kernel_rfl) (by kernel_rfl) (by kernel_rfl) (e := Extern.AbiNoEscape.same) (by kernel_rfl)]
  rw [Lib.run_noEscape]
  simp only [Result.andThen]
  rw [Oper.upon_value]
  go_wp2
  rw [Lib.run_from_unsafe w ⟨b, 0, none⟩ Tryd.underlying141 Tryd.underlying115 hj hsh liesBuilder]
  simp only [Result.andThen]
  rw [Oper.upon_value]
  go_wp2
  go_end0
  exact ⟨rfl, rfl⟩

set_option maxHeartbeats 1000000 in
set_option maxRecDepth 100000 in
theorem copyCheck_used (b : Nat) (w : World) (h0 : w.cell? ⟨b, 0, none⟩ = some (.pointer (some ⟨b, 0, none⟩))) :
    Calls Tryd.prog 102 #[.pointer (some ⟨b, 0, none⟩)] w fun e w' => e = .returned (.tuple #[]) ∧ w' = w := by
  obtain ⟨j, hj, hjs⟩ := Option.map_eq_some_iff.1 sizeBuilder
  go_enter Tryd.func102, Tryd.ntmps102
  go_wp2
  rw [Lib.run_neq_ptr_same w _ Tryd.underlying115 hj]
  go_wp2
  go_end0
  exact ⟨rfl, rfl⟩

theorem copyCheck_k (B b : Nat) (bs : List Value) (w : World) (h : Lib.IsBuilderF 117 5 B b bs w) :
    Calls Tryd.prog 102 #[.pointer (some ⟨b, 0, none⟩)] w fun e w' => e = .returned (.tuple #[]) ∧ (Lib.BuilderAtF 117 5 B b (.pointer (some ⟨b, 0, none⟩)) bs w' ∧ Below B w w' ∧ Lib.OthersKept 5 (some b) w w') := by
  rcases h with h | h
  · refine (copyCheck_fresh b w h.cell0 h.shape h.frozen0).mono ?_
    rintro e w' ⟨rfl, rfl⟩
    exact ⟨rfl, h.used _, (Below.refl B w).setCell (p := ⟨b, 0, none⟩) h.1 _, (Lib.OthersKept.refl _ _ w).setCell ⟨b, 0, none⟩ rfl _⟩
  · refine (copyCheck_used b w h.cell0).mono ?_
    rintro e w' ⟨rfl, rfl⟩
    exact ⟨rfl, h, Below.refl B _, Lib.OthersKept.refl _ _ _⟩

end Go.Proofs.YtplabofdcnpcpaaDoor

namespace Go.Proofs.YtplabofdcnpcpaaDoor
open Go.RowKit

theorem infoBytes : (Tryd.prog.info? 83).map (fun i => (i.zero, i.size, i.bytes)) = some (some (.slice none 0 0), 1, 24) := by kernel_rfl

theorem hid0 {p : Prop} (h : p) : RowKit.Hid p := h

/-- The mark of place j in list i. -/
def markI (i j : Nat) : Int := ((i : Int) + 1) / 2 ^ (8 * (j % 3)) % 256

/-- An owned row stays where its block stays. -/
theorem ownsRow_same {w w' : World} {B : Nat} {e : TypeId} {size : Nat} {v : Value} {n : Nat} {xs : List Value} (h : w.ownsRow B e size v n xs) (hk : ∀ g, v.ownBlock = some g → w'.heap[g]? = w.heap[g]?) : w'.ownsRow B e size v n xs := by
  refine ⟨h.1, ?_⟩
  rcases h.2 with hn | ⟨g, cap, cur, rfl, hb, hgg, rest⟩
  · exact .inl hn
  · exact .inr ⟨g, cap, cur, rfl, hb, (hk g rfl).trans hgg, rest⟩

theorem ownsRow_slice {w : World} {B : Nat} {e : TypeId} {size : Nat} {v : Value} {n : Nat} {xs : List Value} (h : w.ownsRow B e size v n xs) : ∃ a k c, v = .slice a k c := by
  rcases h.2 with ⟨rfl, _⟩ | ⟨g, cap, cur, rfl, _⟩
  · exact ⟨_, _, _, rfl⟩
  · exact ⟨_, _, _, rfl⟩

theorem cell_of_heapE {w : World} {b : Nat} {cs : Array Value} {T : TypeId} {fr : Nat × Nat} (hb : w.heap[b]? = some (.cells cs T fr)) (j : Nat) (v : Value) (h : cs[j]? = some v) : w.cell? ⟨b, j, none⟩ = some v := by rw [Lib.cell_of_heap hb]; exact h

/-- The kind of an owned row's block. -/
theorem ownsRow_kind {w : World} {B : Nat} {e : TypeId} {size : Nat} {v : Value} {n : Nat} {xs : List Value} (h : w.ownsRow B e size v n xs) (g : Nat) (hg : v.ownBlock = some g) : ∃ cur, w.heap[g]? = some (.cells cur e (0, 0)) := by
  rcases h.2 with ⟨rfl, _⟩ | ⟨g', cap, cur, rfl, hb, hgg, rest⟩
  · simp [Value.ownBlock] at hg
  · simp [Value.ownBlock] at hg
    subst hg
    exact ⟨cur, hgg⟩

/-- A block of another kind is no owned row's. -/
theorem ownsRow_other {w : World} {B : Nat} {e f : TypeId} {size : Nat} {v : Value} {n : Nat} {xs : List Value} {p : Nat} {cs : Array Value} {fr : Nat × Nat} (h : w.ownsRow B e size v n xs) (hp : w.heap[p]? = some (.cells cs f fr)) (hne : f ≠ e) : v.ownBlock ≠ some p := by
  intro hg
  obtain ⟨cur, hc⟩ := ownsRow_kind h p hg
  rw [hp] at hc
  injection hc with hc
  injection hc with _ hc _
  exact hne hc

theorem ownsRow_lower {w : World} {B B' : Nat} {e : TypeId} {size : Nat} {v : Value} {n : Nat} {xs : List Value} (h : w.ownsRow B e size v n xs) (hB : B' ≤ B) : w.ownsRow B' e size v n xs := by
  refine ⟨h.1, ?_⟩
  rcases h.2 with hn | ⟨g, cap, cur, rfl, hb, rest⟩
  · exact .inl hn
  · exact .inr ⟨g, cap, cur, rfl, Nat.le_trans hB hb, rest⟩

/-- What an append leaves: a slice at the head of the same block, or of a new one. -/
def AppAt (w : World) (v v' : Value) (n : Nat) : Prop := ∃ g cap, v' = .slice (some ⟨g, 0, none⟩) n cap ∧ (v.ownBlock = some g ∨ w.heap.size ≤ g)

/-- Where an append to an owned row puts what is there afterwards: into the same block, or into a new one. -/
theorem run_append_where {P : Program} (w : World) (base : Nat) (t ty e : TypeId) (i : TypeInfo) (z : Value) (size bytes : Nat) (ht : P.underlying t = some (.slice e)) (hi : P.info? e = some i) (hz : i.zero = some z)
    (hsize : i.size = size) (hby : i.bytes = bytes) (hzs : z.cells.size = size) (hsz : 0 < size)
    (v : Value) (n : Nat) (xs : List Value) (hown : w.ownsRow base e size v n xs)
    (a : Addr) (m c : Nat) (news : List Value) (hl : news.length = m * size) (hnews : ∀ j u, news[j]? = some u → w.cell? (a.add j) = some u) (h1 : ∀ u ∈ news, u.oneCell' = true)
    (h63 : n + m ≤ maxLen) (hbytes : (n + m) * bytes ≤ 140737488355328) (hbase : base ≤ w.heap.size) (hm : 0 < m) :
    ∃ v' w', (Builtin.append_ #[t, t] ty #[v, .slice (some a) m c]).run P w = .ok v' w' ∧ w'.ownsRow base e size v' (n + m) (xs ++ news) ∧ w.grownBy w' v.ownBlock ∧
      AppAt w v v' (n + m) := by
  obtain ⟨v', w', hr, ho, hg, _⟩ := run_append_own (P := P) w base t ty e i z size bytes ht hi hz hsize hby hzs hsz v n xs hown a m c news hl hnews h1 h63 hbytes hbase
  refine ⟨v', w', hr, ho, hg, ?_⟩
  subst hsize
  subst hby
  have hML : n + m ≤ 9223372036854775807 := by simp only [maxLen] at h63; omega
  rcases hown.2 with ⟨rfl, rfl⟩ | ⟨g, cap, cur, rfl, hbg, hgg, hnc, hcm, hcs, htake⟩
  · have hr2 := run_append_nil (P := P) w t ty e i z ht hi hz a m c news hl hnews hm (by omega) (by have hb := hbytes; simp only [Nat.zero_add] at hb; omega)
    rw [hr2] at hr
    injection hr with e1 e2
    exact ⟨w.heap.size, _, by rw [← e1]; simp; rfl, .inr (Nat.le_refl _)⟩
  · by_cases hroom : n + m ≤ cap
    · have hfit : n * i.size + news.length ≤ cur.size := by rw [hl, hcs, ← Nat.add_mul]; exact Nat.mul_le_mul_right _ hroom
      have hr2 := run_append_room (P := P) w t ty e i ht hi g n cap cur hgg a m c news hl hnews h1 hroom hfit
      rw [hr2] at hr
      injection hr with e1 e2
      exact ⟨g, cap, e1.symm, .inl rfl⟩
    · have hr2 := run_append_grow (P := P) w t ty e i z ht hi hz ⟨g, 0, none⟩ n cap xs hown.1 (hown.cells (g := g) rfl) a m c news hl hnews (by omega) (by omega) (growslice_fits (by omega) hbytes)
      rw [hr2] at hr
      injection hr with e1 e2
      exact ⟨w.heap.size, _, e1.symm, .inr (Nat.le_refl _)⟩

theorem wp_append_where {P : Program} (w : World) {o : Oper} {a : Act} {K : Act → World → Prop} {Q : Exit → Act → World → Prop} (s x : Operand) (t : TypeId)
    (ho : o.op = .call { callee := .builtin .append, args := #[s, x], argTypes := #[t, t] })
    (base : Nat) (e : TypeId) (i : TypeInfo) (z : Value) (size bytes : Nat) (ht : P.underlying t = some (.slice e)) (hi : P.info? e = some i) (hz : i.zero = some z)
    (hsize : i.size = size) (hby : i.bytes = bytes) (hzs : z.cells.size = size) (hsz : 0 < size)
    (v : Value) (n : Nat) (xs : List Value) (hs : a.eval s = v) (hown : w.ownsRow base e size v n xs)
    (ad : Addr) (m c : Nat) (news : List Value) (hx : a.eval x = .slice (some ad) m c) (hl : news.length = m * size) (hnews : ∀ j u, news[j]? = some u → w.cell? (ad.add j) = some u) (h1 : ∀ u ∈ news, u.oneCell' = true)
    (h63 : n + m ≤ maxLen) (hbytes : (n + m) * bytes ≤ 140737488355328) (hbase : base ≤ w.heap.size) (hm : 0 < m)
    (h : ∀ v' w', w'.ownsRow base e size v' (n + m) (xs ++ news) → w.grownBy w' v.ownBlock → AppAt w v v' (n + m) → K (a.put o.dst v') w') : o.wp P a w K Q := by
  obtain ⟨v', w', hr, h2, h3, h4⟩ := run_append_where (P := P) w base t o.type e i z size bytes ht hi hz hsize hby hzs hsz v n xs hown ad m c news hl hnews h1 h63 hbytes hbase hm
  unfold Oper.wp
  simp [execOp, ho, resolve, invoke, builtin, hs, hx, hr, Result.andThen]
  exact h v' w' h2 h3 h4

theorem wpList_append_where {P : Program} (w : World) {ops : Array Oper} {rest : List Oper} {o : Oper} {a : Act} {Q : Exit → Act → World → Prop} (hgd : o.guard = none) (s x : Operand) (t : TypeId)
    (ho : o.op = .call { callee := .builtin .append, args := #[s, x], argTypes := #[t, t] })
    (base : Nat) (e : TypeId) (i : TypeInfo) (z : Value) (size bytes : Nat) (ht : P.underlying t = some (.slice e)) (hi : P.info? e = some i) (hz : i.zero = some z)
    (hsize : i.size = size) (hby : i.bytes = bytes) (hzs : z.cells.size = size) (hsz : 0 < size)
    (v : Value) (n : Nat) (xs : List Value) (hs : a.eval s = v) (hown : w.ownsRow base e size v n xs)
    (ad : Addr) (m c : Nat) (news : List Value) (hx : a.eval x = .slice (some ad) m c) (hl : news.length = m * size) (hnews : ∀ j u, news[j]? = some u → w.cell? (ad.add j) = some u) (h1 : ∀ u ∈ news, u.oneCell' = true)
    (h63 : n + m ≤ maxLen) (hbytes : (n + m) * bytes ≤ 140737488355328) (hbase : base ≤ w.heap.size) (hm : 0 < m)
    (h : ∀ v' w', w'.ownsRow base e size v' (n + m) (xs ++ news) → w.grownBy w' v.ownBlock → AppAt w v v' (n + m) → wpList P ops Q rest (a.put o.dst v') w') : wpList P ops Q (o :: rest) a w :=
  wpList_plain hgd fun _ hK => wp_append_where w s x t ho base e i z size bytes ht hi hz hsize hby hzs hsz v n xs hs hown ad m c news hx hl hnews h1 h63 hbytes hbase hm fun v' w' h2 h3 h4 => hK _ _ (h v' w' h2 h3 h4)

theorem step_append_where {P : Program} {ops : Array Oper} {o : Oper} {a : Act} {w : World} {K : Act → World → Prop} {Q : Exit → Act → World → Prop} {E : Prop} (hgd : o.guard = none) (s x : Operand) (t : TypeId)
    (ho : o.op = .call { callee := .builtin .append, args := #[s, x], argTypes := #[t, t] })
    (base : Nat) (e : TypeId) (i : TypeInfo) (z : Value) (size bytes : Nat) (ht : P.underlying t = some (.slice e)) (hi : P.info? e = some i) (hz : i.zero = some z)
    (hsize : i.size = size) (hby : i.bytes = bytes) (hzs : z.cells.size = size) (hsz : 0 < size)
    (v : Value) (n : Nat) (xs : List Value) (hs : a.eval s = v) (hown : w.ownsRow base e size v n xs)
    (ad : Addr) (m c : Nat) (news : List Value) (hx : a.eval x = .slice (some ad) m c) (hl : news.length = m * size) (hnews : ∀ j u, news[j]? = some u → w.cell? (ad.add j) = some u) (h1 : ∀ u ∈ news, u.oneCell' = true)
    (h63 : n + m ≤ maxLen) (hbytes : (n + m) * bytes ≤ 140737488355328) (hbase : base ≤ w.heap.size) (hm : 0 < m)
    (h : ∀ v' w', w'.ownsRow base e size v' (n + m) (xs ++ news) → w.grownBy w' v.ownBlock → AppAt w v v' (n + m) → K (a.put o.dst v') w') :
    if Region.wanted o (yielded ops a.tmps) = true then Oper.wp P o a w K Q else E := by
  rw [if_pos (by simp [Region.wanted, hgd])]
  exact wp_append_where w s x t ho base e i z size bytes ht hi hz hsize hby hzs hsz v n xs hs hown ad m c news hx hl hnews h1 h63 hbytes hbase hm h

theorem bytes_oneC (l : List UInt8) : ∀ v ∈ Lib.byteCells l, v.oneCell' = true := by
  intro u hu
  simp only [Lib.byteCells, List.mem_map] at hu
  obtain ⟨_, _, rfl⟩ := hu
  rfl

theorem step_append_own0 {P : Program} {ops : Array Oper} {o : Oper} {a : Act} {w : World} {K : Act → World → Prop} {Q : Exit → Act → World → Prop} {E : Prop} (hgd : o.guard = none) (s x : Operand) (t : TypeId)
    (ho : o.op = .call { callee := .builtin .append, args := #[s, x], argTypes := #[t, t] })
    (base : Nat) (e : TypeId) (i : TypeInfo) (z : Value) (size bytes : Nat) (ht : P.underlying t = some (.slice e)) (hi : P.info? e = some i) (hz : i.zero = some z)
    (hsize : i.size = size) (hby : i.bytes = bytes) (hzs : z.cells.size = size) (hsz : 0 < size)
    (v : Value) (n : Nat) (xs : List Value) (hs : a.eval s = v) (hown : w.ownsRow base e size v n xs)
    (ad : Addr) (m c : Nat) (news : List Value) (hx : a.eval x = .slice (some ad) m c) (hl : news.length = m * size) (hnews : ∀ j u, news[j]? = some u → w.cell? (ad.add j) = some u) (h1 : ∀ u ∈ news, u.oneCell' = true)
    (h63 : n + m ≤ maxLen) (hbytes : (n + m) * bytes ≤ 140737488355328) (hbase : base ≤ w.heap.size)
    (h : ∀ v' w', w'.ownsRow base e size v' (n + m) (xs ++ news) → w.grownBy w' v.ownBlock → (v' = .slice none 0 0 ↔ v = .slice none 0 0 ∧ m = 0) → K (a.put o.dst v') w') :
    if Region.wanted o (yielded ops a.tmps) = true then Oper.wp P o a w K Q else E := by
  rw [if_pos (by simp [Region.wanted, hgd])]
  exact wp_append_own w s x t ho base e i z size bytes ht hi hz hsize hby hzs hsz v n xs hs hown ad m c news hx hl hnews h1 h63 hbytes hbase h

end Go.Proofs.YtplabofdcnpcpaaDoor

namespace Go.Proofs.YtplabofdcnpcpaaDoor
open Go.RowKit

theorem n_within_mod (n m : Int) (hm : 1 ≤ m) : 0 - m < n.tmod m ∧ n.tmod m < m := by
  have h1 := Int.tmod_lt_of_pos n (b := m) (by omega)
  have h2 := Int.tmod_lt_of_pos (-n) (b := m) (by omega)
  rw [Int.neg_tmod] at h2
  omega

/-- A number brought into lo .. hi. -/
def n_withinI (n lo hi : Int) : Int := if n.tmod (hi - lo + 1) < 0 then lo + (n.tmod (hi - lo + 1) + hi - lo + 1) else lo + n.tmod (hi - lo + 1)

theorem n_withinI_bounds (n lo hi : Int) (h : lo ≤ hi) : lo ≤ n_withinI n lo hi ∧ n_withinI n lo hi ≤ hi := by
  have := n_within_mod n (hi - lo + 1) (by omega)
  unfold n_withinI
  split <;> omega

end Go.Proofs.YtplabofdcnpcpaaDoor

namespace Go.Proofs.YtplabofdcnpcpaaDoor
open Go.RowKit

theorem SlB.some {w : World} {a : Option Addr} {len cap : Nat} {l : List UInt8} (h : SlB w (.slice a len cap) l) (h0 : 0 < l.length) : ∃ x, a = some x ∧ len = l.length ∧ ∀ j (hj : j < l.length), w.cell? (x.add j) = some (.int .u8 (l[j].toNat : Int)) := by
  rcases h with ⟨c, e, rfl⟩ | ⟨x, c, e, hc⟩
  · simp at h0
  · obtain ⟨rfl, rfl, rfl⟩ := Value.slice.inj e
    exact ⟨x, rfl, rfl, hc⟩

theorem SlB.length {w : World} {a : Option Addr} {len cap : Nat} {l : List UInt8} (h : SlB w (.slice a len cap) l) : len = l.length := by
  rcases h with ⟨c, e, rfl⟩ | ⟨x, c, e, hc⟩
  · obtain ⟨_, rfl, _⟩ := Value.slice.inj e
    rfl
  · obtain ⟨_, rfl, _⟩ := Value.slice.inj e
    rfl

theorem byte_ne {a b : UInt8} (h : a ≠ b) : ((a.toNat : Int) != (b.toNat : Int)) = true := by
  rw [bne_iff_ne]
  intro e
  exact h (UInt8.toNat_inj.1 (by omega))

theorem byteCells_get (l : List UInt8) (j : Nat) (h : j < l.length) : (Lib.byteCells l)[j]? = some (.int .u8 (l[j].toNat : Int)) := by simp [Lib.byteCells, h]

theorem byteCells_set (l : List UInt8) (j : Nat) (c : UInt8) : (Lib.byteCells l).set j (.int .u8 (c.toNat : Int)) = Lib.byteCells (l.set j c) := by simp [Lib.byteCells, List.map_set]

theorem byteCells_rep (n : Nat) : Lib.byteCells (List.replicate n 0) = List.replicate n (.int .u8 0) := by simp [Lib.byteCells]

theorem byteCells_one_cell (l : List UInt8) : ∀ v ∈ Lib.byteCells l, v.oneCell' = true := by
  intro v hv
  simp only [Lib.byteCells, List.mem_map] at hv
  obtain ⟨b, _, rfl⟩ := hv
  rfl

theorem roomy_step (x : List UInt8) (c : UInt8) (k : Nat) (h : k < 80) : (x ++ (List.replicate k c ++ List.replicate (80 - k) 0)).set (x.length + k) c = x ++ (List.replicate (k + 1) c ++ List.replicate (80 - (k + 1)) 0) := by
  rw [List.set_append_right _ _ (by omega), List.set_append_right _ _ (by simp)]
  have e1 : x.length + k - x.length - (List.replicate k c).length = 0 := by simp
  have e2 : List.replicate (80 - k) (0 : UInt8) = 0 :: List.replicate (80 - (k + 1)) 0 := by
    rw [← List.replicate_succ]; congr 1; omega
  rw [e1, e2, List.replicate_succ', List.append_assoc]
  rfl

end Go.Proofs.YtplabofdcnpcpaaDoor

namespace Go.Proofs.YtplabofdcnpcpaaDoor
open Go.RowKit

theorem setCell_idle {w : World} {p i : Nat} {cs : Array Value} {T : TypeId} {v : Value} (hp : w.heap[p]? = some (.cells cs T (0, 0))) (h : cs.setIfInBounds i v = cs) (q : Addr) : (w.setCell ⟨p, i, none⟩ v).cell? q = w.cell? q := by
  refine World.cell?_of_block ?_
  by_cases hq : q.block = p
  · rw [hq, heap_setCell_same w p i cs T v hp, h, hp]
  · exact heap_setCell_other w ⟨p, i, none⟩ q.block v hq

end Go.Proofs.YtplabofdcnpcpaaDoor

namespace Go.Proofs.YtplabofdcnpcpaaDoor
open Go.RowKit

theorem not_xor (W a : Nat) (h : a < 2 ^ W) : (2 ^ W - 1) ^^^ a = 2 ^ W - 1 - a := by
  have h1 : (BitVec.allOnes W ^^^ BitVec.ofNat W a).toNat = (~~~ (BitVec.ofNat W a)).toNat := by rw [BitVec.allOnes_xor]
  rw [BitVec.toNat_xor, BitVec.toNat_not, BitVec.toNat_allOnes, BitVec.toNat_ofNat, Nat.mod_eq_of_lt h] at h1
  exact h1

theorem rot_lt {W x n : Nat} (hx : x < 2 ^ W) : rotV W x n < 2 ^ W :=
  Nat.or_lt_two_pow (Nat.lt_of_le_of_lt (Nat.div_le_self _ _) hx) (Nat.mod_lt _ (Nat.two_pow_pos _))
theorem sm_lt {W a b c x : Nat} (hx : x < 2 ^ W) : smV W a b c x < 2 ^ W :=
  Nat.xor_lt_two_pow (Nat.xor_lt_two_pow (rot_lt hx) (rot_lt hx)) (Nat.lt_of_le_of_lt (Nat.div_le_self _ _) hx)
theorem gr_lt {W a b c x : Nat} (hx : x < 2 ^ W) : grV W a b c x < 2 ^ W :=
  Nat.xor_lt_two_pow (Nat.xor_lt_two_pow (rot_lt hx) (rot_lt hx)) (rot_lt hx)
theorem and_lt_l {W a b : Nat} (ha : a < 2 ^ W) : a &&& b < 2 ^ W := Nat.lt_of_le_of_lt Nat.and_le_left ha
theorem ch_lt {W a b c : Nat} (ha : a < 2 ^ W) : chV W a b c < 2 ^ W :=
  Nat.xor_lt_two_pow (and_lt_l ha) (and_lt_l (by have := Nat.two_pow_pos W; omega))
theorem mj_lt {W a b c : Nat} (ha : a < 2 ^ W) (hb : b < 2 ^ W) : mjV a b c < 2 ^ W :=
  Nat.xor_lt_two_pow (Nat.xor_lt_two_pow (and_lt_l ha) (and_lt_l ha)) (and_lt_l hb)

theorem or_byte (x c : Nat) (hc : c < 256) : x * 256 ||| c = x * 256 + c := by
  have := Nat.shiftLeft_add_eq_or_of_lt (i := 8) (b := c) hc x
  rw [Nat.shiftLeft_eq] at this
  exact this.symm

theorem beN_lt : ∀ (l : List UInt8) (w m : Nat), w < 256 ^ m → beN w l < 256 ^ (m + l.length)
  | [], _, _, h => h
  | c :: r, w, m, h => by
    have hc := c.toNat_lt
    have h2 := beN_lt r (w * 256 + c.toNat) (m + 1) (by rw [Nat.pow_succ]; omega)
    rw [beN, List.length_cons, show m + (r.length + 1) = m + 1 + r.length by omega]
    exact h2

end Go.Proofs.YtplabofdcnpcpaaDoor

namespace Go.Proofs.YtplabofdcnpcpaaDoor
open Go.RowKit

def cW (K : IntKind) (l : List Nat) : List Value := l.map fun (n : Nat) => .int K (n : Int)

theorem cW_len (K : IntKind) (l : List Nat) : (cW K l).length = l.length := by simp [cW]
theorem cW_one (K : IntKind) (l : List Nat) : ∀ v ∈ cW K l, v.oneCell' = true := by
  intro v hv
  obtain ⟨n, _, rfl⟩ := List.mem_map.1 hv
  rfl

/-- The block g holds these numbers. -/
def Rw (w : World) (g : Nat) (K : IntKind) (t : TypeId) (l : List Nat) : Prop := w.heap[g]? = some (.cells (cW K l).toArray t (0, 0))

theorem Rw.lt {w : World} {g : Nat} {K : IntKind} {t : TypeId} {l : List Nat} (h : Rw w g K t l) : g < w.heap.size := (Array.getElem?_eq_some_iff.1 h).1
theorem Rw.kept {w w' : World} {g : Nat} {K : IntKind} {t : TypeId} {l : List Nat} (h : Rw w g K t l) (hb : Below w.heap.size w w') : Rw w' g K t l := row_kept h hb
theorem Rw.drew {w : World} {g : Nat} {K : IntKind} {t : TypeId} {l : List Nat} (h : Rw w g K t l) : Rw w.drew g K t l := h
theorem Rw.cell {w : World} {g : Nat} {K : IntKind} {t : TypeId} {l : List Nat} (h : Rw w g K t l) (i : Nat) (hi : i < l.length) : w.cell? ⟨g, i, none⟩ = some (.int K (l.getD i 0 : Nat)) := by
  rw [cell_of_row w g i _ t _ h]
  simp [cW, hi]
theorem Rw.free {w : World} {g : Nat} {K : IntKind} {t : TypeId} {l : List Nat} (h : Rw w g K t l) (i : Nat) : w.frozen? ⟨g, i, none⟩ = false := by
  have h' : w.heap[g]? = some (.cells (cW K l).toArray t (0, 0)) := h
  simp [World.frozen?, h']
theorem Rw.set {w : World} {g : Nat} {K : IntKind} {t : TypeId} {l : List Nat} (h : Rw w g K t l) (i n : Nat) : Rw (w.setCell ⟨g, i, none⟩ (.int K (n : Int))) g K t (l.set i n) := by
  have := Lib.heap_setCell_same h (i := i) (.int K (n : Int))
  unfold Rw
  rw [this]
  congr 2
  simp [cW, List.map_set]
theorem Rw.far {w : World} {g b j : Nat} {K : IntKind} {t : TypeId} {l : List Nat} {x : Value} (h : Rw w g K t l) (hne : g ≠ b) : Rw (w.setCell ⟨b, j, none⟩ x) g K t l := by
  unfold Rw
  rw [Below.heap_setCell w ⟨b, j, none⟩ x g hne]
  exact h
theorem Rw.new (w : World) (K : IntKind) (t : TypeId) (l : List Nat) : Rw (w.alloc (.cells (cW K l).toArray t)) w.heap.size K t l := heap_alloc_new w _
theorem Rw.laid {w : World} {g : Nat} {K : IntKind} {t : TypeId} {l : List Nat} {A : Array Value} (hg : g = w.heap.size) (hA : A = (cW K l).toArray) : Rw (w.alloc (.cells A t)) g K t l := by
  subst hg hA; exact heap_alloc_new w _
theorem Rw.more {w : World} {g : Nat} {K : IntKind} {t : TypeId} {l : List Nat} (h : Rw w g K t l) (o : Obj) : Rw (w.alloc o) g K t l := h.kept ((Below.refl _ _).alloc (Nat.le_refl _) _)
theorem Rw.there {w : World} {g : Nat} {K : IntKind} {t : TypeId} {l : List Nat} (h : Rw w g K t l) (n : Nat) (hn : n = l.length) : w.there g 0 n := there_row h (by simp [cW_len, hn])
theorem Rw.range {w : World} {g : Nat} {K : IntKind} {t : TypeId} {l : List Nat} (h : Rw w g K t l) : w.rangeAt g 0 (cW K l) := range_row h

/-- Such a block is set as a whole. -/
theorem Rw.put {w : World} {g : Nat} {K : IntKind} {t : TypeId} {l : List Nat} (h : Rw w g K t l) (m : List Nat) (hm : m.length = l.length) : Rw (w.setCells g 0 (cW K m)) g K t m := by
  have key : ∀ (m a b : List Nat) (w : World), b.length = m.length → Rw w g K t (a ++ b) → Rw (w.setCells g a.length (cW K m)) g K t (a ++ m) := by
    intro m
    induction m with
    | nil => intro a b w hb h; obtain rfl := List.eq_nil_of_length_eq_zero hb; exact h
    | cons x r ih =>
      intro a b w hb h
      cases b with
      | nil => simp at hb
      | cons y b =>
        have e := h.set a.length x
        have e2 : (a ++ y :: b).set a.length x = (a ++ [x]) ++ b := by simp
        rw [e2] at e
        have := ih (a ++ [x]) b _ (by simpa using hb) e
        simpa [cW, World.setCells] using this
  simpa using key m [] l w hm.symm h

def fillV (l : List Nat) (k n : Nat) : List Nat := l.take k ++ List.replicate (n - k) 0
theorem fill_len (l : List Nat) (k n : Nat) (hk : k ≤ n) (hl : l.length = n) : (fillV l k n).length = n := by simp [fillV]; omega
theorem fill_zero (l : List Nat) (n : Nat) : fillV l 0 n = List.replicate n 0 := by simp [fillV]
theorem fill_all (l : List Nat) (n : Nat) (hl : l.length = n) : fillV l n n = l := by simp [fillV, ← hl]
theorem fill_step (l : List Nat) (k n : Nat) (hk : k < n) (hl : l.length = n) (x : Nat) (hx : l.getD k 0 = x) : (fillV l k n).set k x = fillV l (k + 1) n := by
  have hkl : k < l.length := by omega
  have e : n - k = (n - (k + 1)) + 1 := by omega
  unfold fillV
  rw [e, List.replicate_succ, List.set_append_right _ _ (by simp; omega), show k - (l.take k).length = 0 by simp; omega, List.set_cons_zero, List.take_add_one]
  have : l[k]?.toList = [x] := by rw [← hx]; simp [hkl]
  rw [this]; simp
theorem fill_get (l : List Nat) (k n i : Nat) (hi : i < k) (hkl : k ≤ l.length) : (fillV l k n).getD i 0 = l.getD i 0 := by
  unfold fillV
  have h1 : i < (l.take k).length := by simp; omega
  have h2 : i < l.length := by omega
  simp [List.getD, List.getElem?_append_left h1, hi]

def mixV (F S : List Nat) (j : Nat) : List Nat := F.take j ++ S.drop j
theorem mix_zero (F S : List Nat) : mixV F S 0 = S := by simp [mixV]
theorem mix_all (F S : List Nat) (n : Nat) (hF : F.length = n) (hS : S.length = n) : mixV F S n = F := by simp [mixV, ← hF]; omega
theorem mix_len (F S : List Nat) (j n : Nat) (hF : F.length = n) (hS : S.length = n) (hj : j ≤ n) : (mixV F S j).length = n := by simp [mixV]; omega
theorem mix_at (F S : List Nat) (j n : Nat) (hF : F.length = n) (hS : S.length = n) (hj : j < n) : (mixV F S j).getD j 0 = S.getD j 0 := by
  unfold mixV
  simp only [List.getD]
  rw [List.getElem?_append_right (by simp; omega)]
  simp
  rw [show j + (j - min j F.length) = j by omega]
theorem mix_step (F S : List Nat) (j n x : Nat) (hF : F.length = n) (hS : S.length = n) (hj : j < n) (hx : F.getD j 0 = x) : (mixV F S j).set j x = mixV F S (j + 1) := by
  unfold mixV
  rw [List.set_append_right _ _ (by simp; omega), show j - (F.take j).length = 0 by simp; omega, List.drop_eq_getElem_cons (by omega : j < S.length), List.set_cons_zero, List.take_add_one]
  have : F[j]?.toList = [x] := by rw [← hx]; simp [show j < F.length by omega]
  rw [this]; simp

/-- What is handed back out of such a block. -/
theorem Rw.result {P : Program} {fn : Func} {p : Tmp} {ty : TypeId} {d : TypeDesc} (h : fn.results = #[.cell p ty]) (tmps : Array Value) (w : World) (b : Nat) (K : IntKind) (t : TypeId) (l : List Nat) (hp : tmps.getD p undef = .pointer (some ⟨b, 0, none⟩)) (hc : Rw w b K t l)
    (hu : P.underlying ty = some d) (hd : d.isRow = true) (hi : (P.info? ty).map (·.size) = some (cW K l).length) : (results fn tmps).run P w = .ok (.agg (cW K l).toArray) w := by
  rw [Array.getD_eq_getD_getElem?] at hp
  simp only [results, h]
  simp [Sem.run_bind, Result.andThen, hp, asAddr, run_loadVar_mid w b 0 ty (cW K l) d hc.range hu hd hi]

theorem wrap_i64_id (x : Int) (h1 : -9223372036854775808 ≤ x) (h2 : x < 9223372036854775808) : IntKind.i64.wrap x = x := by
  simp [IntKind.wrap, IntKind.bits, IntKind.signed]; omega

theorem far_cell {w : World} {a : Addr} {b j : Nat} {x v : Value} (h : w.cell? a = some v) (hne : a.block ≠ b) : (w.setCell ⟨b, j, none⟩ x).cell? a = some v := by
  rw [← h]
  unfold World.cell?
  rw [Below.heap_setCell w ⟨b, j, none⟩ x a.block hne]

theorem Below.both {B : Nat} {X Y : World} (h : Below B X Y) (a : Addr) (u : Value) : Below B (X.setCell a u) (Y.setCell a u) :=
  ⟨h.os, h.tape, h.output, by simpa [World.setCell] using h.size, fun k hk => by simp only [World.setCell, Array.getElem?_modify, h.block k hk]⟩

/-- X is as wr was, but for the cell a, which holds what it held, or u. -/
def But1 (wr : World) (a : Addr) (u : Value) (X : World) : Prop := Below wr.heap.size (wr.setCell a u) (X.setCell a u)

theorem But1.start (wr : World) (a : Addr) (u : Value) : But1 wr a u wr.drew := ⟨rfl, rfl, rfl, Nat.le_refl _, fun k hk => rfl⟩
theorem size_setCell (w : World) (a : Addr) (u : Value) : (w.setCell a u).heap.size = w.heap.size := by simp [World.setCell]
theorem But1.size {wr X : World} {a : Addr} {u : Value} (h : But1 wr a u X) : wr.heap.size ≤ X.heap.size := by
  have := Below.size h
  rwa [size_setCell, size_setCell] at this
theorem But1.next {wr X Y : World} {a : Addr} {u : Value} (h : But1 wr a u X) (hb : Below X.heap.size X Y) : But1 wr a u Y :=
  Below.trans h ((Below.both hb a u).mono h.size)
theorem twice (w : World) (a : Addr) (u : Value) : (w.setCell a u).setCell a u = w.setCell a u := by
  unfold World.setCell
  congr 1
  apply Array.ext_getElem?
  intro i
  simp only [Array.getElem?_modify]
  split
  · cases w.heap[i]? with
    | none => rfl
    | some o =>
      cases o with
      | cells c e f => cases hs : a.spot <;> simp
      | _ => rfl
  · rfl
theorem But1.put {wr X : World} {a : Addr} {u : Value} (h : But1 wr a u X) : But1 wr a u (X.setCell a u) := by
  unfold But1
  rw [twice]
  exact h
theorem But1.fin {wr X : World} {a : Addr} {u : Value} (h : But1 wr a u (X.setCell a u)) : Below (wr.setCell a u).heap.size (wr.setCell a u) (X.setCell a u) := by
  unfold But1 at h
  rw [twice] at h
  rw [size_setCell]
  exact h
theorem But1.cell {wr X : World} {a : Addr} {u v : Value} (h : But1 wr a u X) {p : Addr} (hp : wr.cell? p = some v) (hne : a ≠ p) : X.cell? p = some v := by
  have h1 := Below.cell h (p := p) (World.block_lt_of_cell? wr p hp)
  rw [World.cell?_setCell_other _ _ _ _ hne, World.cell?_setCell_other _ _ _ _ hne] at h1
  rw [h1]; exact hp

theorem kept_both {X Y : World} {a : Addr} {v : Value} (h : X.cell? a = some v) (g : X.frozen? a = false) (hb : Below X.heap.size X Y) : Y.cell? a = some v ∧ Y.frozen? a = false :=
  ⟨kept_cell h hb, (hb.frozen (World.block_lt_of_cell? X a h)).trans g⟩

/-- An index of an array whose elements are one cell each. -/
theorem idx_arr {P : Program} (t : TypeId) (n g i : Nat) (I : Int) (w : World) (h : P.underlying t = some (.array (P.arrayLen t) (P.elem t))) (hn : P.arrayLen t = n) (hs : (sizeOf (P.elem t)).run P w = .ok 1 w) (hI : I = (i : Int)) (hi : i < n) :
    (Instr.indexAt t (.pointer (some ⟨g, 0, none⟩)) (.int .i64 I)).run P w = .ok (.pointer (some ⟨g, i, none⟩)) w := by
  subst hI
  rw [run_indexAt_array (h := h), if_pos ⟨by omega, by rw [hn]; omega⟩, hs]
  simp [Result.andThen, Addr.add_lit]

def sqr : List Nat := [7640891576956012808, 13503953896175478587, 4354685564936845355, 11912009170470909681, 5840696475078001361, 11170449401992604703, 2270897969802886507, 6620516959819538809, 14680500436340154072, 7105036623409894663, 10473403895298186519, 1526699215303891257, 7436329637833083697, 10282925794625328401, 15784041429090275239, 5167115440072839076]
def cbr : List Nat := [4794697086780616226, 8158064640168781261, 13096744586834688815, 16840607885511220156, 4131703408338449720, 6480981068601479193, 10538285296894168987, 12329834152419229976, 15566598209576043074, 1334009975649890238, 2608012711638119052, 6128411473006802146, 8268148722764581231, 9286055187155687089, 11230858885718282805, 13951009754708518548, 16472876342353939154, 17275323862435702243, 1135362057144423861, 2597628984639134821, 3308224258029322869, 5365058923640841347, 6679025012923562964, 8573033837759648693, 10970295158949994411, 12119686244451234320, 12683024718118986047, 13788192230050041572, 14330467153632333762, 15395433587784984357, 489312712824947311, 1452737877330783856, 2861767655752347644, 3322285676063803686, 5560940570517711597, 5996557281743188959, 7280758554555802590, 8532644243296465576, 9350256976987008742, 10552545826968843579, 11727347734174303076, 12113106623233404929, 14000437183269869457, 14369950271660146224, 15101387698204529176, 15463397548674623760, 17586052441742319658, 1182934255886127544, 1847814050463011016, 2177327727835720531, 2830643537854262169, 3796741975233480872, 4115178125766777443, 5681478168544905931, 6601373596472566643, 7507060721942968483, 8399075790359081724, 8693463985226723168, 9568029438360202098, 10144078919501101548, 10430055236837252648, 11840083180663258601, 13761210420658862357, 14299343276471374635, 14566680578165727644, 15097957966210449927, 16922976911328602910, 17689382322260857208, 500013540394364858, 748580250866718886, 1242879168328830382, 1977374033974150939, 2944078676154940804, 3659926193048069267, 4368137639120453308, 4836135668995329356, 5532061633213252278, 6448918945643986474, 6902733635092675308, 7801388544844847127]

theorem sqr_lt : ∀ i, sqr.getD i 0 < 18446744073709551616 := by
  have h : ∀ x ∈ sqr, x < 18446744073709551616 := by decide +kernel
  intro i
  rcases Nat.lt_or_ge i sqr.length with hi | hi
  · simp only [List.getD, List.getElem?_eq_getElem hi, Option.getD_some]; exact h _ (List.getElem_mem hi)
  · simp only [List.getD, List.getElem?_eq_none hi, Option.getD_none]; decide
theorem cbr_lt : ∀ i, cbr.getD i 0 < 18446744073709551616 := by
  have h : ∀ x ∈ cbr, x < 18446744073709551616 := by decide +kernel
  intro i
  rcases Nat.lt_or_ge i cbr.length with hi | hi
  · simp only [List.getD, List.getElem?_eq_getElem hi, Option.getD_some]; exact h _ (List.getElem_mem hi)
  · simp only [List.getD, List.getElem?_eq_none hi, Option.getD_none]; decide

end Go.Proofs.YtplabofdcnpcpaaDoor

namespace Go.Proofs.YtplabofdcnpcpaaDoor
open Go.RowKit

/-- The region of that number. -/
def regionOf (n : Nat) : Code → Option Code
  | .region id ops d => if id = n then some (.region id ops d) else none
  | .seq a b => match regionOf n a with
    | some c => some c
    | none => regionOf n b
  | .block _ c => regionOf n c
  | .loop c => regionOf n c
  | .scope c => regionOf n c
  | .cond _ a b => match regionOf n a with
    | some c => some c
    | none => regionOf n b
  | _ => none

/-- The bodies of all loops, in the text's order, those outside ahead of those inside them. -/
def loopsOf : Code → List Code
  | .seq a b => loopsOf a ++ loopsOf b
  | .block _ c => loopsOf c
  | .loop c => c :: loopsOf c
  | .scope c => loopsOf c
  | .cond _ a b => loopsOf a ++ loopsOf b
  | _ => []

/-- What leaves a loop by its own test. -/
def exit0 (K : Act → World → Prop) : Exit → Act → World → Prop
  | .exit 0, a, w => K a w
  | _, _, _ => False
def exit2 (K : Act → World → Prop) : Exit → Act → World → Prop
  | .exit 2, a, w => K a w
  | _, _, _ => False

theorem wp_cut0 {P : Program} {c : Code} {Q : Exit → Act → World → Prop} {a : Act} {w : World} (h : c.wp P (exit0 fun a w => Q (.exit 0) a w) a w) : c.wp P Q a w :=
  Code.wp_mono (fun e a w h => by unfold exit0 at h; split at h <;> first | exact h | exact h.elim) h
theorem wp_cut2 {P : Program} {c : Code} {Q : Exit → Act → World → Prop} {a : Act} {w : World} (h : c.wp P (exit2 fun a w => Q (.exit 2) a w) a w) : c.wp P Q a w :=
  Code.wp_mono (fun e a w h => by unfold exit2 at h; split at h <;> first | exact h | exact h.elim) h

theorem wp_cut {P : Program} {c : Code} {Q : Exit → Act → World → Prop} {a : Act} {w : World} (h : c.wp P (Exit.then (fun a w => Q .normal a w) fun _ _ _ => False) a w) : c.wp P Q a w :=
  Code.wp_mono (fun e a w h => by cases e <;> first | exact h | exact h.elim) h

end Go.Proofs.YtplabofdcnpcpaaDoor

namespace Go.Proofs.YtplabofdcnpcpaaDoor
open Go.RowKit

theorem wp_append_slw {P : Program} (w : World) {o : Oper} {a : Act} {K : Act → World → Prop} {Q : Exit → Act → World → Prop} (s x : Operand) (t : TypeId)
    (ho : o.op = .call { callee := .builtin .append, args := #[s, x], argTypes := #[t, t] })
    (B : Nat) (e : TypeId) (i : TypeInfo) (z : Value) (ht : P.underlying t = some (.slice e)) (hi : P.info? e = some i) (hz : i.zero = some z) (hsz : i.size = 1) (hby : i.bytes = 24) (hzs : z.cells.size = 1)
    (v : Value) (us : List Value) (hs : a.eval s = v) (hv : SlV w B e v us) (ad : Addr) (c : Nat) (u : Value) (hx : a.eval x = .slice (some ad) 1 c) (hu : w.cell? (ad.add 0) = some u) (h1 : u.oneCell' = true) (hn : us.length ≤ 100000) (hB : B ≤ w.heap.size)
    (h : ∀ v' w', SlV w' B e v' (us ++ [u]) → w.grownBy w' v.ownBlock → (v'.ownBlock = v.ownBlock ∨ ∃ k, v'.ownBlock = some k ∧ w.heap.size ≤ k) → K (a.put o.dst v') w') : o.wp P a w K Q := by
  obtain ⟨v', w', hr, h2, h3, h4⟩ := run_append_slv (P := P) w B t o.type e i z ht hi hz hsz hby hzs v us hv ad c u hu h1 hn hB
  unfold Oper.wp
  simp [execOp, ho, resolve, invoke, builtin, hs, hx, hr, Result.andThen]
  exact h v' w' h2 h3 h4

theorem wpList_append_slw {P : Program} (w : World) {ops : Array Oper} {rest : List Oper} {o : Oper} {a : Act} {Q : Exit → Act → World → Prop} (hgd : o.guard = none) (s x : Operand) (t : TypeId)
    (ho : o.op = .call { callee := .builtin .append, args := #[s, x], argTypes := #[t, t] })
    (B : Nat) (e : TypeId) (i : TypeInfo) (z : Value) (ht : P.underlying t = some (.slice e)) (hi : P.info? e = some i) (hz : i.zero = some z) (hsz : i.size = 1) (hby : i.bytes = 24) (hzs : z.cells.size = 1)
    (v : Value) (us : List Value) (hs : a.eval s = v) (hv : SlV w B e v us) (ad : Addr) (c : Nat) (u : Value) (hx : a.eval x = .slice (some ad) 1 c) (hu : w.cell? (ad.add 0) = some u) (h1 : u.oneCell' = true) (hn : us.length ≤ 100000) (hB : B ≤ w.heap.size)
    (h : ∀ v' w', SlV w' B e v' (us ++ [u]) → w.grownBy w' v.ownBlock → (v'.ownBlock = v.ownBlock ∨ ∃ k, v'.ownBlock = some k ∧ w.heap.size ≤ k) → wpList P ops Q rest (a.put o.dst v') w') : wpList P ops Q (o :: rest) a w :=
  wpList_plain hgd fun _ hK => wp_append_slw w s x t ho B e i z ht hi hz hsz hby hzs v us hs hv ad c u hx hu h1 hn hB fun v' w' h2 h3 h4 => hK _ _ (h v' w' h2 h3 h4)

theorem step_append_slw {P : Program} {ops : Array Oper} {o : Oper} {a : Act} {w : World} {K : Act → World → Prop} {Q : Exit → Act → World → Prop} {E : Prop} (hgd : o.guard = none) (s x : Operand) (t : TypeId)
    (ho : o.op = .call { callee := .builtin .append, args := #[s, x], argTypes := #[t, t] })
    (B : Nat) (e : TypeId) (i : TypeInfo) (z : Value) (ht : P.underlying t = some (.slice e)) (hi : P.info? e = some i) (hz : i.zero = some z) (hsz : i.size = 1) (hby : i.bytes = 24) (hzs : z.cells.size = 1)
    (v : Value) (us : List Value) (hs : a.eval s = v) (hv : SlV w B e v us) (ad : Addr) (c : Nat) (u : Value) (hx : a.eval x = .slice (some ad) 1 c) (hu : w.cell? (ad.add 0) = some u) (h1 : u.oneCell' = true) (hn : us.length ≤ 100000) (hB : B ≤ w.heap.size)
    (h : ∀ v' w', SlV w' B e v' (us ++ [u]) → w.grownBy w' v.ownBlock → (v'.ownBlock = v.ownBlock ∨ ∃ k, v'.ownBlock = some k ∧ w.heap.size ≤ k) → K (a.put o.dst v') w') :
    if Region.wanted o (yielded ops a.tmps) = true then Oper.wp P o a w K Q else E := by
  rw [if_pos (by simp [Region.wanted, hgd])]
  exact wp_append_slw w s x t ho B e i z ht hi hz hsz hby hzs v us hs hv ad c u hx hu h1 hn hB h

/-- Two lists that share no memory. -/
def AptV (a b : Value) : Prop := a.ownBlock = none ∨ a.ownBlock ≠ b.ownBlock

theorem SlV.alloc0 {w : World} {B : Nat} {T : TypeId} {v : Value} {us : List Value} (h : SlV w B T v us) (o : Obj) : SlV (w.alloc o) B T v us := h.same fun k hk => Lib.alloc_old w o k (h.lt k hk).2

theorem SlV.kind {w : World} {B : Nat} {T : TypeId} {v : Value} {us : List Value} (h : SlV w B T v us) (g : Nat) (hg : v.ownBlock = some g) : ∃ cur, w.heap[g]? = some (Obj.cells cur T (0, 0)) := by
  rcases h with ⟨rfl, rfl⟩ | ⟨g', o, c, cur, rfl, _, hg', _⟩
  · simp [Value.ownBlock] at hg
  · simp [Value.ownBlock] at hg
    subst hg
    exact ⟨cur, hg'⟩

theorem kind_nf {w : World} {k p : Nat} {a b : Array Value} {S T : TypeId} {f g : Nat × Nat} (h1 : w.heap[k]? = some (.cells a S f)) (h2 : w.heap[p]? = some (.cells b T g)) (hne : S ≠ T) : k ≠ p := fun e => by
  rw [e, h2] at h1
  injection h1 with h1
  injection h1 with _ h1 _
  exact hne h1.symm

def cS (X : List ByteArray) : List Value := X.map Value.string
theorem cS_len (X : List ByteArray) : (cS X).length = X.length := by simp [cS]
theorem cS_one (X : List ByteArray) : ∀ u ∈ cS X, u.oneCell' = true := by
  intro u hu
  obtain ⟨x, _, rfl⟩ := List.mem_map.1 hu
  rfl

/-- A list of n places of K texts each, at any place of a row of its own. -/
def KpL (K : Nat) (T : TypeId) (w : World) (B : Nat) (v : Value) (n : Nat) (X : List ByteArray) : Prop :=
  X.length = n * K ∧ ((v = .slice none 0 0 ∧ n = 0) ∨ ∃ g o c cur, v = .slice (some ⟨g, o, none⟩) n c ∧ B ≤ g ∧ w.heap[g]? = some (.cells cur T (0, 0)) ∧ n ≤ c ∧ c ≤ maxLen ∧ o + c * K ≤ cur.size ∧ ∀ j (hj : j < X.length), cur[o + j]? = some (.string X[j]))

theorem KpL.nil (K : Nat) (T : TypeId) (w : World) (B : Nat) : KpL K T w B (.slice none 0 0) 0 [] := ⟨by simp, .inl ⟨rfl, rfl⟩⟩

theorem KpL.slice {K : Nat} {T : TypeId} {w : World} {B : Nat} {v : Value} {n : Nat} {X : List ByteArray} (h : KpL K T w B v n X) : ∃ a c, v = .slice a n c ∧ n ≤ c ∧ c ≤ maxLen := by
  rcases h.2 with ⟨rfl, rfl⟩ | ⟨g, o, c, cur, rfl, _, _, h1, h2, _⟩
  · exact ⟨none, 0, rfl, Nat.le_refl _, by decide⟩
  · exact ⟨_, c, rfl, h1, h2⟩

theorem KpL.kind {K : Nat} {T : TypeId} {w : World} {B : Nat} {v : Value} {n : Nat} {X : List ByteArray} (h : KpL K T w B v n X) (g : Nat) (hg : v.ownBlock = some g) : ∃ cur, w.heap[g]? = some (Obj.cells cur T (0, 0)) := by
  rcases h.2 with ⟨rfl, rfl⟩ | ⟨g', o, c, cur, rfl, _, hg', _⟩
  · simp [Value.ownBlock] at hg
  · simp [Value.ownBlock] at hg
    subst hg
    exact ⟨cur, hg'⟩

theorem KpL.lt {K : Nat} {T : TypeId} {w : World} {B : Nat} {v : Value} {n : Nat} {X : List ByteArray} (h : KpL K T w B v n X) : ∀ k, v.ownBlock = some k → B ≤ k ∧ k < w.heap.size := by
  intro k hk
  rcases h.2 with ⟨rfl, rfl⟩ | ⟨g, o, c, cur, rfl, hB, hg, _⟩
  · simp [Value.ownBlock] at hk
  · simp [Value.ownBlock] at hk
    subst hk
    exact ⟨hB, (Array.getElem?_eq_some_iff.1 hg).1⟩

theorem KpL.same {K : Nat} {T : TypeId} {w w' : World} {B : Nat} {v : Value} {n : Nat} {X : List ByteArray} (h : KpL K T w B v n X) (hk : ∀ k, v.ownBlock = some k → w'.heap[k]? = w.heap[k]?) : KpL K T w' B v n X := by
  refine ⟨h.1, ?_⟩
  rcases h.2 with h | ⟨g, o, c, cur, rfl, hB, hg, h1⟩
  · exact .inl h
  · exact .inr ⟨g, o, c, cur, rfl, hB, (hk g rfl).trans hg, h1⟩

theorem KpL.below {K : Nat} {T : TypeId} {w w' : World} {B : Nat} {v : Value} {n : Nat} {X : List ByteArray} (h : KpL K T w B v n X) (hb : Below w.heap.size w w') : KpL K T w' B v n X := h.same fun k hk => hb.block k (h.lt k hk).2

theorem KpL.lower {K : Nat} {T : TypeId} {w : World} {B B' : Nat} {v : Value} {n : Nat} {X : List ByteArray} (h : KpL K T w B v n X) (hB : B' ≤ B) : KpL K T w B' v n X := by
  refine ⟨h.1, ?_⟩
  rcases h.2 with h | ⟨g, o, c, cur, rfl, hb, h1⟩
  · exact .inl h
  · exact .inr ⟨g, o, c, cur, rfl, Nat.le_trans hB hb, h1⟩

/-- The places, one by one. -/
theorem KpL.cell {K : Nat} {T : TypeId} {w : World} {B : Nat} {a : Option Addr} {c n : Nat} {X : List ByteArray} (h : KpL K T w B (.slice a n c) n X) (j : Nat) (hj : j < n) : ∃ g o, a = some ⟨g, o, none⟩ ∧ ∀ t (ht : t < K), w.cell? ⟨g, o + j * K + t, none⟩ = some (.string (X.getD (j * K + t) ⟨#[]⟩)) := by
  rcases h.2 with ⟨e, rfl⟩ | ⟨g, o, c', cur, e, _, hg, _, _, _, h4⟩
  · omega
  · injection e with e1 _ _
    refine ⟨g, o, e1, fun t ht => ?_⟩
    have hlt : j * K + t < X.length := by
      rw [h.1]
      have : (j + 1) * K ≤ n * K := Nat.mul_le_mul_right K (by omega)
      rw [Nat.add_mul] at this
      omega
    rw [Lib.cell_of_heap hg, Nat.add_assoc]
    rw [show X.getD (j * K + t) ⟨#[]⟩ = X[j * K + t] by simp [List.getD, hlt]]
    exact h4 _ hlt

theorem KpL.cell1 {T : TypeId} {w : World} {B : Nat} {a : Option Addr} {c n : Nat} {X : List ByteArray} (h : KpL 1 T w B (.slice a n c) n X) (j : Nat) (hj : j < n) : ∃ g o, a = some ⟨g, o, none⟩ ∧ w.cell? ⟨g, o + j, none⟩ = some (.string (X.getD j ⟨#[]⟩)) := by
  obtain ⟨g, o, e, h1⟩ := h.cell j hj
  have := h1 0 (by decide)
  rw [Nat.mul_one, Nat.add_zero, Nat.add_zero] at this
  exact ⟨g, o, e, this⟩

theorem KpL.cell2 {T : TypeId} {w : World} {B : Nat} {a : Option Addr} {c n : Nat} {X : List ByteArray} (h : KpL 2 T w B (.slice a n c) n X) (j : Nat) (hj : j < n) : ∃ g o, a = some ⟨g, o, none⟩ ∧ w.cell? ⟨g, o + j * 2, none⟩ = some (.string (X.getD (j * 2) ⟨#[]⟩)) ∧ w.cell? ⟨g, o + j * 2 + 1, none⟩ = some (.string (X.getD (j * 2 + 1) ⟨#[]⟩)) := by
  obtain ⟨g, o, e, h1⟩ := h.cell j hj
  exact ⟨g, o, e, h1 0 (by decide), h1 1 (by decide)⟩

theorem own_kp {K : Nat} {T : TypeId} {w : World} {B : Nat} {v : Value} {n : Nat} {X : List ByteArray} (h : w.ownsRow B T K v n (cS X)) : KpL K T w B v n X := by
  have h1 := h.1
  rw [cS_len] at h1
  refine ⟨h1, ?_⟩
  rcases h.2 with ⟨hv, hn⟩ | ⟨g, cap, cur, rfl, hg, hrow, hnc, hcm, hcs, htake⟩
  · exact .inl ⟨hv, hn⟩
  · refine .inr ⟨g, 0, cap, cur, rfl, hg, hrow, hnc, hcm, by omega, fun j hj => ?_⟩
    have := h.cellAt (g := g) j (by rw [← h1]; exact hj)
    rw [Lib.cell_of_heap hrow] at this
    rw [Nat.zero_add, this]
    simp [cS, hj]

theorem slv_kp {T : TypeId} {w : World} {B : Nat} {v : Value} {X : List ByteArray} (h : SlV w B T v (cS X)) : KpL 1 T w B v X.length X := by
  refine ⟨by simp, ?_⟩
  rcases h with ⟨rfl, e⟩ | ⟨g, o, c, cur, rfl, hB, hg, h1, h2, h3, h4⟩
  · have : X = [] := by simpa [cS] using e
    subst this
    exact .inl ⟨rfl, rfl⟩
  · rw [cS_len] at h1 ⊢
    refine .inr ⟨g, o, c, cur, rfl, hB, hg, h1, h3, by omega, fun j hj => h4 j _ (by simp [cS, hj])⟩

/-- Nothing is turned but block p and what is of type T. -/
def TurnedBut (T : TypeId) (p : Nat) (w w' : World) : Prop := ∀ k, k < w.heap.size → k ≠ p → (∀ cur fz, w.heap[k]? ≠ some (Obj.cells cur T fz)) → w'.heap[k]? = w.heap[k]?

theorem TurnedBut.refl (T : TypeId) (p : Nat) (w : World) : TurnedBut T p w w := fun _ _ _ _ => rfl
theorem TurnedBut.below {T : TypeId} {p : Nat} {w w' w'' : World} (h : TurnedBut T p w w') (hs : w.heap.size ≤ w'.heap.size) (hb : Below w'.heap.size w' w'') : TurnedBut T p w w'' := fun k hk hp hn => (hb.block k (by omega)).trans (h k hk hp hn)
theorem TurnedBut.trans {T : TypeId} {p : Nat} {w w' w'' : World} (h : TurnedBut T p w w') (hs : w.heap.size ≤ w'.heap.size) (h2 : TurnedBut T p w' w'') : TurnedBut T p w w'' := fun k hk hp hn => (h2 k (by omega) hp (by rw [h k hk hp hn]; exact hn)).trans (h k hk hp hn)
theorem TurnedBut.at {T : TypeId} {p : Nat} {w w' w'' : World} (h : TurnedBut T p w w') (hs : w.heap.size ≤ w'.heap.size) (h2 : ∀ k, k < w'.heap.size → k ≠ p → w''.heap[k]? = w'.heap[k]?) : TurnedBut T p w w'' := fun k hk hp hn => (h2 k (by omega) hp).trans (h k hk hp hn)

/-- Below B, and for blocks of other kinds, all is as it was. -/
def Bt (T : TypeId) (p B : Nat) (w w' : World) : Prop := Below B w w' ∧ TurnedBut T p w w'
theorem Bt.refl (T : TypeId) (p B : Nat) (w : World) : Bt T p B w w := ⟨Below.refl _ _, TurnedBut.refl _ _ _⟩
theorem Bt.step {T : TypeId} {p B : Nat} {w w' w'' : World} (h : Bt T p B w w') (hB : B ≤ w'.heap.size) (hb : Below w'.heap.size w' w'') : Bt T p B w w'' := ⟨h.1.trans (hb.mono hB), h.2.below h.1.size hb⟩
theorem Bt.trans {T : TypeId} {p B : Nat} {w w' w'' : World} (h : Bt T p B w w') (h2 : Bt T p B w' w'') : Bt T p B w w'' := ⟨h.1.trans h2.1, h.2.trans h.1.size h2.2⟩
theorem Bt.drew {T : TypeId} {p B : Nat} {w w' : World} (h : Bt T p B w w') : Bt T p B w w'.drew := ⟨h.1.drew, fun k hk hp hn => h.2 k hk hp hn⟩
theorem Bt.set {T : TypeId} {p B : Nat} {w w' : World} (h : Bt T p B w w') (hp : B ≤ p) (i : Nat) (v : Value) : Bt T p B w (w'.setCell ⟨p, i, none⟩ v) :=
  ⟨h.1.setCell (p := ⟨p, i, none⟩) hp v, h.2.at h.1.size fun k _ hk => heap_setCell_other w' ⟨p, i, none⟩ k v hk⟩
theorem Bt.put {T : TypeId} {p B G : Nat} {w w' : World} {cur : Array Value} {fz : Nat × Nat} (h : Bt T p B w w') (hG : w'.heap[G]? = some (.cells cur T fz)) (hB : B ≤ G) (i : Nat) (v : Value) : Bt T p B w (w'.setCell ⟨G, i, none⟩ v) := by
  refine ⟨h.1.setCell (p := ⟨G, i, none⟩) hB v, fun k hk hp hn => ?_⟩
  have hs := h.2 k hk hp hn
  have hkG : k ≠ G := fun e => by
    rw [e] at hs hn
    exact hn cur fz (hs.symm.trans hG)
  exact (heap_setCell_other w' ⟨G, i, none⟩ k v hkG).trans hs

def exit4b (K : Act → World → Prop) : Exit → Act → World → Prop
  | .exit 4, a, w => K a w
  | _, _, _ => False
theorem wp_cut4b {P : Program} {c : Code} {Q : Exit → Act → World → Prop} {a : Act} {w : World} (h : c.wp P (exit4b fun a w => Q (.exit 4) a w) a w) : c.wp P Q a w :=
  Code.wp_mono (fun e a w h => by unfold exit4b at h; split at h <;> first | exact h | exact h.elim) h

end Go.Proofs.YtplabofdcnpcpaaDoor
