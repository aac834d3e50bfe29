/-
  Words in memory: a block that holds numbers of one kind; the roots that the package's variables hold.
-/
import Derived.Test.YtplabofdcnpcpaaLp
import Derived.Test.YtplabofdcnpcpaaLm
import Derived.Lib.LaidTab
import Derived.Lib.SmallJoins
set_option linter.unusedSimpArgs false
set_option linter.unusedVariables false
namespace Go.Proofs.Ytplabofdcnpcpaa
open Go.RowKit

def cW (K : IntKind) (l : List Nat) : List Value := l.map fun (n : Nat) => .int K (n : Int)

theorem cW_len (K : IntKind) (l : List Nat) : (cW K l).length = l.length := by simp [cW]
theorem cW_one (K : IntKind) (l : List Nat) : ∀ v ∈ cW K l, v.oneCell' = true := by
  intro v hv
  obtain ⟨n, _, rfl⟩ := List.mem_map.1 hv
  rfl

/-- The block g holds these numbers. -/
def Rw (w : World) (g : Nat) (K : IntKind) (t : TypeId) (l : List Nat) : Prop := w.heap[g]? = some (.cells (cW K l).toArray t (0, 0))

theorem Rw.lt {w : World} {g : Nat} {K : IntKind} {t : TypeId} {l : List Nat} (h : Rw w g K t l) : g < w.heap.size := (Array.getElem?_eq_some_iff.1 h).1
theorem Rw.kept {w w' : World} {g : Nat} {K : IntKind} {t : TypeId} {l : List Nat} (h : Rw w g K t l) (hb : Below w.heap.size w w') : Rw w' g K t l := row_kept h hb
theorem Rw.drew {w : World} {g : Nat} {K : IntKind} {t : TypeId} {l : List Nat} (h : Rw w g K t l) : Rw w.drew g K t l := h
theorem Rw.cell {w : World} {g : Nat} {K : IntKind} {t : TypeId} {l : List Nat} (h : Rw w g K t l) (i : Nat) (hi : i < l.length) : w.cell? ⟨g, i, none⟩ = some (.int K (l.getD i 0 : Nat)) := by
  rw [cell_of_row w g i _ t _ h]
  simp [cW, hi]
theorem Rw.free {w : World} {g : Nat} {K : IntKind} {t : TypeId} {l : List Nat} (h : Rw w g K t l) (i : Nat) : w.frozen? ⟨g, i, none⟩ = false := by
  have h' : w.heap[g]? = some (.cells (cW K l).toArray t (0, 0)) := h
  simp [World.frozen?, h']
theorem Rw.set {w : World} {g : Nat} {K : IntKind} {t : TypeId} {l : List Nat} (h : Rw w g K t l) (i n : Nat) : Rw (w.setCell ⟨g, i, none⟩ (.int K (n : Int))) g K t (l.set i n) := by
  have := Lib.heap_setCell_same h (i := i) (.int K (n : Int))
  unfold Rw
  rw [this]
  congr 2
  simp [cW, List.map_set]
theorem Rw.far {w : World} {g b j : Nat} {K : IntKind} {t : TypeId} {l : List Nat} {x : Value} (h : Rw w g K t l) (hne : g ≠ b) : Rw (w.setCell ⟨b, j, none⟩ x) g K t l := by
  unfold Rw
  rw [Below.heap_setCell w ⟨b, j, none⟩ x g hne]
  exact h
theorem Rw.new (w : World) (K : IntKind) (t : TypeId) (l : List Nat) : Rw (w.alloc (.cells (cW K l).toArray t)) w.heap.size K t l := heap_alloc_new w _
theorem Rw.laid {w : World} {g : Nat} {K : IntKind} {t : TypeId} {l : List Nat} {A : Array Value} (hg : g = w.heap.size) (hA : A = (cW K l).toArray) : Rw (w.alloc (.cells A t)) g K t l := by
  subst hg hA; exact heap_alloc_new w _
theorem Rw.more {w : World} {g : Nat} {K : IntKind} {t : TypeId} {l : List Nat} (h : Rw w g K t l) (o : Obj) : Rw (w.alloc o) g K t l := h.kept ((Below.refl _ _).alloc (Nat.le_refl _) _)
theorem Rw.there {w : World} {g : Nat} {K : IntKind} {t : TypeId} {l : List Nat} (h : Rw w g K t l) (n : Nat) (hn : n = l.length) : w.there g 0 n := there_row h (by simp [cW_len, hn])
theorem Rw.range {w : World} {g : Nat} {K : IntKind} {t : TypeId} {l : List Nat} (h : Rw w g K t l) : w.rangeAt g 0 (cW K l) := range_row h

/-- Such a block is set as a whole. -/
theorem Rw.put {w : World} {g : Nat} {K : IntKind} {t : TypeId} {l : List Nat} (h : Rw w g K t l) (m : List Nat) (hm : m.length = l.length) : Rw (w.setCells g 0 (cW K m)) g K t m := by
  have key : ∀ (m a b : List Nat) (w : World), b.length = m.length → Rw w g K t (a ++ b) → Rw (w.setCells g a.length (cW K m)) g K t (a ++ m) := by
    intro m
    induction m with
    | nil => intro a b w hb h; obtain rfl := List.eq_nil_of_length_eq_zero hb; exact h
    | cons x r ih =>
      intro a b w hb h
      cases b with
      | nil => simp at hb
      | cons y b =>
        have e := h.set a.length x
        have e2 : (a ++ y :: b).set a.length x = (a ++ [x]) ++ b := by simp
        rw [e2] at e
        have := ih (a ++ [x]) b _ (by simpa using hb) e
        simpa [cW, World.setCells] using this
  simpa using key m [] l w hm.symm h

def fillV (l : List Nat) (k n : Nat) : List Nat := l.take k ++ List.replicate (n - k) 0
theorem fill_len (l : List Nat) (k n : Nat) (hk : k ≤ n) (hl : l.length = n) : (fillV l k n).length = n := by simp [fillV]; omega
theorem fill_zero (l : List Nat) (n : Nat) : fillV l 0 n = List.replicate n 0 := by simp [fillV]
theorem fill_all (l : List Nat) (n : Nat) (hl : l.length = n) : fillV l n n = l := by simp [fillV, ← hl]
theorem fill_step (l : List Nat) (k n : Nat) (hk : k < n) (hl : l.length = n) (x : Nat) (hx : l.getD k 0 = x) : (fillV l k n).set k x = fillV l (k + 1) n := by
  have hkl : k < l.length := by omega
  have e : n - k = (n - (k + 1)) + 1 := by omega
  unfold fillV
  rw [e, List.replicate_succ, List.set_append_right _ _ (by simp; omega), show k - (l.take k).length = 0 by simp; omega, List.set_cons_zero, List.take_add_one]
  have : l[k]?.toList = [x] := by rw [← hx]; simp [hkl]
  rw [this]; simp
theorem fill_get (l : List Nat) (k n i : Nat) (hi : i < k) (hkl : k ≤ l.length) : (fillV l k n).getD i 0 = l.getD i 0 := by
  unfold fillV
  have h1 : i < (l.take k).length := by simp; omega
  have h2 : i < l.length := by omega
  simp [List.getD, List.getElem?_append_left h1, hi]

def mixV (F S : List Nat) (j : Nat) : List Nat := F.take j ++ S.drop j
theorem mix_zero (F S : List Nat) : mixV F S 0 = S := by simp [mixV]
theorem mix_all (F S : List Nat) (n : Nat) (hF : F.length = n) (hS : S.length = n) : mixV F S n = F := by simp [mixV, ← hF]; omega
theorem mix_len (F S : List Nat) (j n : Nat) (hF : F.length = n) (hS : S.length = n) (hj : j ≤ n) : (mixV F S j).length = n := by simp [mixV]; omega
theorem mix_at (F S : List Nat) (j n : Nat) (hF : F.length = n) (hS : S.length = n) (hj : j < n) : (mixV F S j).getD j 0 = S.getD j 0 := by
  unfold mixV
  simp only [List.getD]
  rw [List.getElem?_append_right (by simp; omega)]
  simp
  rw [show j + (j - min j F.length) = j by omega]
theorem mix_step (F S : List Nat) (j n x : Nat) (hF : F.length = n) (hS : S.length = n) (hj : j < n) (hx : F.getD j 0 = x) : (mixV F S j).set j x = mixV F S (j + 1) := by
  unfold mixV
  rw [List.set_append_right _ _ (by simp; omega), show j - (F.take j).length = 0 by simp; omega, List.drop_eq_getElem_cons (by omega : j < S.length), List.set_cons_zero, List.take_add_one]
  have : F[j]?.toList = [x] := by rw [← hx]; simp [show j < F.length by omega]
  rw [this]; simp

/-- What is handed back out of such a block. -/
theorem Rw.result {P : Program} {fn : Func} {p : Tmp} {ty : TypeId} {d : TypeDesc} (h : fn.results = #[.cell p ty]) (tmps : Array Value) (w : World) (b : Nat) (K : IntKind) (t : TypeId) (l : List Nat) (hp : tmps.getD p undef = .pointer (some ⟨b, 0, none⟩)) (hc : Rw w b K t l)
    (hu : P.underlying ty = some d) (hd : d.isRow = true) (hi : (P.info? ty).map (·.size) = some (cW K l).length) : (results fn tmps).run P w = .ok (.agg (cW K l).toArray) w := by
  rw [Array.getD_eq_getD_getElem?] at hp
  simp only [results, h]
  simp [Sem.run_bind, Result.andThen, hp, asAddr, run_loadVar_mid w b 0 ty (cW K l) d hc.range hu hd hi]

theorem wrap_i64_id (x : Int) (h1 : -9223372036854775808 ≤ x) (h2 : x < 9223372036854775808) : IntKind.i64.wrap x = x := by
  simp [IntKind.wrap, IntKind.bits, IntKind.signed]; omega

theorem far_cell {w : World} {a : Addr} {b j : Nat} {x v : Value} (h : w.cell? a = some v) (hne : a.block ≠ b) : (w.setCell ⟨b, j, none⟩ x).cell? a = some v := by
  rw [← h]
  unfold World.cell?
  rw [Below.heap_setCell w ⟨b, j, none⟩ x a.block hne]

theorem Below.both {B : Nat} {X Y : World} (h : Below B X Y) (a : Addr) (u : Value) : Below B (X.setCell a u) (Y.setCell a u) :=
  ⟨h.os, h.tape, h.output, by simpa [World.setCell] using h.size, fun k hk => by simp only [World.setCell, Array.getElem?_modify, h.block k hk]⟩

/-- X is as wr was, but for the cell a, which holds what it held, or u. -/
def But1 (wr : World) (a : Addr) (u : Value) (X : World) : Prop := Below wr.heap.size (wr.setCell a u) (X.setCell a u)

theorem But1.start (wr : World) (a : Addr) (u : Value) : But1 wr a u wr.drew := ⟨rfl, rfl, rfl, Nat.le_refl _, fun k hk => rfl⟩
theorem size_setCell (w : World) (a : Addr) (u : Value) : (w.setCell a u).heap.size = w.heap.size := by simp [World.setCell]
theorem But1.size {wr X : World} {a : Addr} {u : Value} (h : But1 wr a u X) : wr.heap.size ≤ X.heap.size := by
  have := Below.size h
  rwa [size_setCell, size_setCell] at this
theorem But1.next {wr X Y : World} {a : Addr} {u : Value} (h : But1 wr a u X) (hb : Below X.heap.size X Y) : But1 wr a u Y :=
  Below.trans h ((Below.both hb a u).mono h.size)
theorem twice (w : World) (a : Addr) (u : Value) : (w.setCell a u).setCell a u = w.setCell a u := by
  unfold World.setCell
  congr 1
  apply Array.ext_getElem?
  intro i
  simp only [Array.getElem?_modify]
  split
  · cases w.heap[i]? with
    | none => rfl
    | some o =>
      cases o with
      | cells c e f => cases hs : a.spot <;> simp
      | _ => rfl
  · rfl
theorem But1.put {wr X : World} {a : Addr} {u : Value} (h : But1 wr a u X) : But1 wr a u (X.setCell a u) := by
  unfold But1
  rw [twice]
  exact h
theorem But1.fin {wr X : World} {a : Addr} {u : Value} (h : But1 wr a u (X.setCell a u)) : Below (wr.setCell a u).heap.size (wr.setCell a u) (X.setCell a u) := by
  unfold But1 at h
  rw [twice] at h
  rw [size_setCell]
  exact h
theorem But1.cell {wr X : World} {a : Addr} {u v : Value} (h : But1 wr a u X) {p : Addr} (hp : wr.cell? p = some v) (hne : a ≠ p) : X.cell? p = some v := by
  have h1 := Below.cell h (p := p) (World.block_lt_of_cell? wr p hp)
  rw [World.cell?_setCell_other _ _ _ _ hne, World.cell?_setCell_other _ _ _ _ hne] at h1
  rw [h1]; exact hp

theorem kept_both {X Y : World} {a : Addr} {v : Value} (h : X.cell? a = some v) (g : X.frozen? a = false) (hb : Below X.heap.size X Y) : Y.cell? a = some v ∧ Y.frozen? a = false :=
  ⟨kept_cell h hb, (hb.frozen (World.block_lt_of_cell? X a h)).trans g⟩

/-- An index of an array whose elements are one cell each. -/
theorem idx_arr {P : Program} (t : TypeId) (n g i : Nat) (I : Int) (w : World) (h : P.underlying t = some (.array (P.arrayLen t) (P.elem t))) (hn : P.arrayLen t = n) (hs : (sizeOf (P.elem t)).run P w = .ok 1 w) (hI : I = (i : Int)) (hi : i < n) :
    (Instr.indexAt t (.pointer (some ⟨g, 0, none⟩)) (.int .i64 I)).run P w = .ok (.pointer (some ⟨g, i, none⟩)) w := by
  subst hI
  rw [run_indexAt_array (h := h), if_pos ⟨by omega, by rw [hn]; omega⟩, hs]
  simp [Result.andThen, Addr.add_lit]

def sqr : List Nat := [7640891576956012808, 13503953896175478587, 4354685564936845355, 11912009170470909681, 5840696475078001361, 11170449401992604703, 2270897969802886507, 6620516959819538809, 14680500436340154072, 7105036623409894663, 10473403895298186519, 1526699215303891257, 7436329637833083697, 10282925794625328401, 15784041429090275239, 5167115440072839076]
def cbr : List Nat := [4794697086780616226, 8158064640168781261, 13096744586834688815, 16840607885511220156, 4131703408338449720, 6480981068601479193, 10538285296894168987, 12329834152419229976, 15566598209576043074, 1334009975649890238, 2608012711638119052, 6128411473006802146, 8268148722764581231, 9286055187155687089, 11230858885718282805, 13951009754708518548, 16472876342353939154, 17275323862435702243, 1135362057144423861, 2597628984639134821, 3308224258029322869, 5365058923640841347, 6679025012923562964, 8573033837759648693, 10970295158949994411, 12119686244451234320, 12683024718118986047, 13788192230050041572, 14330467153632333762, 15395433587784984357, 489312712824947311, 1452737877330783856, 2861767655752347644, 3322285676063803686, 5560940570517711597, 5996557281743188959, 7280758554555802590, 8532644243296465576, 9350256976987008742, 10552545826968843579, 11727347734174303076, 12113106623233404929, 14000437183269869457, 14369950271660146224, 15101387698204529176, 15463397548674623760, 17586052441742319658, 1182934255886127544, 1847814050463011016, 2177327727835720531, 2830643537854262169, 3796741975233480872, 4115178125766777443, 5681478168544905931, 6601373596472566643, 7507060721942968483, 8399075790359081724, 8693463985226723168, 9568029438360202098, 10144078919501101548, 10430055236837252648, 11840083180663258601, 13761210420658862357, 14299343276471374635, 14566680578165727644, 15097957966210449927, 16922976911328602910, 17689382322260857208, 500013540394364858, 748580250866718886, 1242879168328830382, 1977374033974150939, 2944078676154940804, 3659926193048069267, 4368137639120453308, 4836135668995329356, 5532061633213252278, 6448918945643986474, 6902733635092675308, 7801388544844847127]

theorem sqr_lt : ∀ i, sqr.getD i 0 < 18446744073709551616 := by
  have h : ∀ x ∈ sqr, x < 18446744073709551616 := by decide +kernel
  intro i
  rcases Nat.lt_or_ge i sqr.length with hi | hi
  · simp only [List.getD, List.getElem?_eq_getElem hi, Option.getD_some]; exact h _ (List.getElem_mem hi)
  · simp only [List.getD, List.getElem?_eq_none hi, Option.getD_none]; decide
theorem cbr_lt : ∀ i, cbr.getD i 0 < 18446744073709551616 := by
  have h : ∀ x ∈ cbr, x < 18446744073709551616 := by decide +kernel
  intro i
  rcases Nat.lt_or_ge i cbr.length with hi | hi
  · simp only [List.getD, List.getElem?_eq_getElem hi, Option.getD_some]; exact h _ (List.getElem_mem hi)
  · simp only [List.getD, List.getElem?_eq_none hi, Option.getD_none]; decide

end Go.Proofs.Ytplabofdcnpcpaa
