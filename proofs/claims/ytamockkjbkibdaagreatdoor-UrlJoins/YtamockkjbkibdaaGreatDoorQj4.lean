/-
  Walks and plain facts that this claim leans on, put together out of 7 texts: Yn, Era, Uz, Yf, Erc, Erd, Erh.
-/
import Derived.Test.YtamockkjbkibdaaGreatDoorProg
import Derived.Test.YtamockkjbkibdaaGreatDoorQa1
import Derived.Test.YtamockkjbkibdaaGreatDoorQa2
import Derived.Test.YtamockkjbkibdaaGreatDoorQa3
import Derived.Test.YtamockkjbkibdaaGreatDoorQa4
import Derived.Test.YtamockkjbkibdaaGreatDoorQa5
import Derived.Test.YtamockkjbkibdaaGreatDoorQa6
import Derived.Test.YtamockkjbkibdaaGreatDoorQa7
import Derived.Test.YtamockkjbkibdaaGreatDoorQa8
import Derived.Test.YtamockkjbkibdaaGreatDoorQa9
import Derived.Test.YtamockkjbkibdaaGreatDoorQa10
import Derived.Test.YtamockkjbkibdaaGreatDoorQa11
import Derived.Test.YtamockkjbkibdaaGreatDoorQa12
import Derived.Test.YtamockkjbkibdaaGreatDoorQa13
import Derived.Test.YtamockkjbkibdaaGreatDoorQa14
import Derived.Test.YtamockkjbkibdaaGreatDoorQa15
import Derived.Test.YtamockkjbkibdaaGreatDoorQa16
import Derived.Test.YtamockkjbkibdaaGreatDoorQa17
import Derived.Test.YtamockkjbkibdaaGreatDoorQa18
import Derived.Test.YtamockkjbkibdaaGreatDoorQa19
import Derived.Test.YtamockkjbkibdaaGreatDoorQa20
import Derived.Test.YtamockkjbkibdaaGreatDoorQa21
import Derived.Test.YtamockkjbkibdaaGreatDoorQa22
import Derived.Test.YtamockkjbkibdaaGreatDoorQa23
import Derived.Test.YtamockkjbkibdaaGreatDoorQa24
import Derived.Test.YtamockkjbkibdaaGreatDoorQa25
import Derived.Test.YtamockkjbkibdaaGreatDoorQa26
import Derived.Test.YtamockkjbkibdaaGreatDoorQa27
import Derived.Test.YtamockkjbkibdaaGreatDoorQa28
import Derived.Test.YtamockkjbkibdaaGreatDoorQj3
import Derived.Lib.IndexMore
import Derived.Lib.Join
import Derived.Lib.LastIndexByte
import Derived.WalkKit
import Derived.Lib.Strings
import Derived.Lib.UnsafeStr
import Derived.Laws.IdiomStrings
import Derived.Laws.AppendOwn
import Derived.Laws.BitsAllLaws
import Derived.Lib.Bytealg
import Derived.Lib.BufferMore
import Derived.Shelf.Strings.Builder1
import Derived.Shelf.Strings.Builder2
import Derived.Shelf.Strings.OnBuilder
import Derived.Shelf.Strings.Trim
import Derived.Shelf.Small.Utf8
import Derived.Shelf.Small.Strs
import Derived.Shelf.Small.Wraps
import Derived.Shelf.Strings.BuilderF
import Derived.Shelf.Strings.BuilderK
import Derived.Shelf.Strings.BuilderRune
import Derived.Shelf.Utf8.AppendRune
import Derived.Shelf.Utf8.AppendRunePlain
import Derived.Shelf.Strings.Builder2Cap
import Derived.Shelf.Strconv.Itoa0
import Derived.Shelf.Strconv.Itoa1
import Derived.Shelf.LaysM
import Derived.Shelf.Strconv.Itoa2
import Derived.Shelf.Strconv.Itoa3
import Derived.Shelf.Strings.Search1
import Derived.Shelf.Strings.Search2
import Derived.Shelf.Strings.Search3
import Derived.Shelf.Strings.Cut
import Derived.Shelf.Strings.Count
import Derived.Shelf.Strings.Shaped
import Derived.Shelf.Strings.LastIndex
import Derived.Shelf.Strings.Prefix
import Derived.Shelf.Strings.Split
import Derived.Shelf.Strings.Replace
import Derived.Shelf.Strings.Runes
import Derived.Shelf.Strings.IndexAny
import Derived.Shelf.Strings.AsciiSet
import Derived.Shelf.Strings.IndexAnyAll
import Derived.Shelf.Unicode.DecodeSlow
import Derived.Ground.Names2Prog
import Derived.Shelf.Slices.Clone
import Derived.Ground.SlgnProg
import Derived.Shelf.SlicesE.Clone
import Derived.Lib.IndexAny
import Derived.Lib.Replace
import Derived.Lib.TrimByte
import Derived.Lib.ItoaNum
import Derived.WalkSpells
import Derived.WalkLawsBesides
import Derived.Lib.AppendIntMem
import Derived.Lib.SmallJoins
import Derived.WalkSmall
import Derived.WalkMore
import Derived.Deep.LoopGhost
import Derived.OwnWalk
import Derived.Laws.CopyOwn
import Derived.Laws.ResultCell
import Derived.Deep.MidRow
import Derived.Deep.RegionWith
import Derived.Lib.FrozenHead2
import Derived.Lib.OthersKept
import Derived.Lib.Builder
import Derived.Lib.SlTrimSet
import Derived.LoopN
import Derived.RegionTactic
import Derived.Deep.QuietTactic
import Derived.BigQuiet
import Derived.Laws.OwnMore
import Derived.Scope
import Derived.ScopeJumps
import Derived.Laws.RangeAny
import Derived.Lib.DecodeN
import Derived.Laws.BytesString
import Derived.Deep.WholeRow
import Derived.BigRegion
import Derived.Deep.RegionLaw
import Derived.Lib.AppendStr
import Derived.Deep.RegionHeld
import Derived.Deep.Cut
import Derived.Lib.BufferRead
import Derived.Lib.RuneBytes
import Derived.Laws.AppendOwnNone
set_option linter.unusedSimpArgs false
set_option linter.unusedVariables false

namespace Go.Proofs.YtamockkjbkibdaaGreatDoor
def Lets (T : List UInt8) : Prop := T ≠ [] ∧ ∀ c ∈ T, 97 ≤ c.toNat ∧ c.toNat ≤ 122

theorem Lets.no {T : List UInt8} (h : Lets T) : 47 ∉ T ∧ 58 ∉ T ∧ 37 ∉ T := ⟨fun e => (small_facts 47 (h.2 47 e)).2.2.2.1 rfl, fun e => (small_facts 58 (h.2 58 e)).2.2.2.2.1 rfl, fun e => (small_facts 37 (h.2 37 e)).2.2.2.2.2.1 rfl⟩

theorem Lets.unpct {T : List UInt8} (h : Lets T) : unpct T = T := unpct_plain T h.no.2.2

theorem Lets.pct {T : List UInt8} (h : Lets T) : pct 5 T = T := by
 have key : ∀ l : List UInt8, (∀ c ∈ l, 97 ≤ c.toNat ∧ c.toNat ≤ 122) → Go.Proofs.YtamockkjbkibdaaGreatDoor.pct 5 l = l := by
  intro l
  induction l with
  | nil => intro _; rfl
  | cons c l ih =>
   intro hl
   unfold Go.Proofs.YtamockkjbkibdaaGreatDoor.pct at ih ⊢
   rw [List.flatMap_cons, ih fun d hd => hl d (by simp [hd])]
   unfold pct1
   rw [(small_facts c (hl c (by simp))).2.2.2.2.2.2.2.1]
   rfl
 exact key T h.2

theorem Lets.dots {T : List UInt8} (h : Lets T) : dotsV T = 0 := by
 unfold dotsV
 rw [h.unpct]
 have h46 : 46 ∉ T := fun e => (small_facts 46 (h.2 46 e)).2.2.1 rfl
 rw [if_neg (fun e => h46 (by rw [e]; simp)), if_neg (fun e => h46 (by rw [e]; simp))]

end Go.Proofs.YtamockkjbkibdaaGreatDoor

namespace Go.Proofs.YtamockkjbkibdaaGreatDoor
def textL (s : List UInt8) : List UInt8 := match readV s none with
 | .ok u => textV u
 | .error _ => []

def joinedL (s base : List UInt8) : List UInt8 := match readV s (some (adrOf (readV base none))) with
 | .ok u => textV u
 | .error _ => []

theorem d_1 : dotsV [46] = 1 ∧ dotsV [46, 46] = 2 ∧ dotsV [37, 50, 69, 37, 50, 101] = 2 ∧ dotsV [37, 50, 101] = 1 := by decide +kernel

end Go.Proofs.YtamockkjbkibdaaGreatDoor

namespace Go.Proofs.YtamockkjbkibdaaGreatDoor
open Go.RowKit

theorem bareV_le (u : Adr) (hf : Fine u) : (bareV u).length ≤ 8000000 := by
 obtain ⟨h1, ⟨h2, h3, h4, h5⟩, ⟨h6, h7, h8⟩, h9, h10⟩ := hf
 have a1 := authT_le u h3 h4 h5
 have a2 := pathT_le u h7 h8
 have a3 : (if u.hasQuery then 63 :: u.query else ([] : List UInt8)).length ≤ 1000001 := by split <;> simp <;> omega
 unfold bareV
 simp only [List.length_append, List.length_cons]
 omega

set_option maxHeartbeats 2000000 in
set_option maxRecDepth 100000 in
theorem text_any (u : Adr) (pv : Value) (w : World) (hg : Gd w) (hp : PathAt w pv u.path) (hf : Fine u) :
  Calls Tryz.prog 20 #[adrVal u pv] w fun e w' => e = .returned (.string ⟨(textV u).toArray⟩) ∧ Below w.heap.size w w' := by
 have hsl : IsSl pv := by
  rcases hp with ⟨rfl, _⟩ | ⟨b, cap, rfl, _⟩
  ·exact ⟨_, _, _, rfl⟩
  ·exact ⟨_, _, _, rfl⟩
 obtain ⟨BT, hBT⟩ : ∃ X : ByteArray, X = ⟨(bareV u).toArray⟩ := ⟨_, rfl⟩
 have HBa : Hid (∀ w : World, Gd w → PathAt w pv u.path → Calls Tryz.prog 57 #[adrVal u pv] w fun e w' => e = .returned (.string BT) ∧ Below w.heap.size w w') := fun w hg hp => by rw [hBT]; exact bare_any u pv w hg hp hf
 have hBTs : BT.size ≤ 8000000 := by rw [hBT, Lib.size_eq]; exact bareV_le u hf
 have HBT := hid (show BT.data.toList = bareV u by rw [hBT])
 obtain ⟨h1, ⟨h2, h3, h4, h5⟩, ⟨h6, h7, h8⟩, h9, h10⟩ := hf
 clear hBT
 have HG := hid hg
 have HPa := hid hp
 clear hg hp
 obtain ⟨a0, n0, c0, rfl⟩ := hsl
 obtain ⟨FR, hFR⟩ : ∃ X : ByteArray, X = ⟨u.fragment.toArray⟩ := ⟨_, rfl⟩
 obtain ⟨hfr, hhf⟩ : ∃ b, b = u.hasFragment := ⟨_, rfl⟩
 have hFs : FR.size ≤ 1000000 := by rw [hFR, Lib.size_eq]; exact h10
 obtain ⟨x0, x1, x2, x3, x4, x5, x6, x8, x10, hx⟩ : ∃ x0 x1 x2 x3 x4 x5 x6 x8 x10, adrCells u (.slice a0 n0 c0) = [x0, x1, x2, x3, x4, x5, x6, .slice a0 n0 c0, x8, .string FR, x10, .bool hfr] := ⟨_, _, _, _, _, _, _, _, _, by rw [hFR, hhf]; rfl⟩
 have HV := hid (show textV u = BT.data.toList ++ (if hfr then 35 :: FR.data.toList else []) by rw [HBT.out, hFR, hhf]; rfl)
 have hva : adrVal u (.slice a0 n0 c0) = .agg #[x0, x1, x2, x3, x4, x5, x6, .slice a0 n0 c0, x8, .string FR, x10, .bool hfr] := by unfold adrVal; rw [hx]
 rw [hva] at HBa ⊢
 clear hx hva hFR hhf h1 h2 h3 h4 h5 h6 h7 h8 h9 h10 HBT
 have hA : (w.alloc (.cells #[x0, x1, x2, x3, x4, x5, x6, .slice a0 n0 c0, x8, .string FR, x10, .bool hfr] 24)).heap[w.heap.size]? = some (.cells #[x0, x1, x2, x3, x4, x5, x6, .slice a0 n0 c0, x8, .string FR, x10, .bool hfr] 24 (0, 0)) := heap_alloc_new w _
 have hb : Below w.heap.size w (w.alloc (.cells #[x0, x1, x2, x3, x4, x5, x6, .slice a0 n0 c0, x8, .string FR, x10, .bool hfr] 24)) := (Below.refl _ w).alloc (Nat.le_refl _) _
 obtain ⟨W, hW⟩ : ∃ W, W = w.alloc (.cells #[x0, x1, x2, x3, x4, x5, x6, .slice a0 n0 c0, x8, .string FR, x10, .bool hfr] 24) := ⟨_, rfl⟩
 rw [← hW] at hA hb
 have HW := hid hW.symm
 have h12 : Twelve W w.heap.size (x0) (x1) (x2) (x3) (x4) (x5) (x6) (.slice a0 n0 c0) (x8) (.string FR) (x10) (.bool hfr) W := ⟨Below.refl _ _, Lib.cell_of_heap hA 0, Lib.cell_of_heap hA 1, Lib.cell_of_heap hA 2, Lib.cell_of_heap hA 3, Lib.cell_of_heap hA 4, Lib.cell_of_heap hA 5, Lib.cell_of_heap hA 6, Lib.cell_of_heap hA 7, Lib.cell_of_heap hA 8, Lib.cell_of_heap hA 9, Lib.cell_of_heap hA 10, Lib.cell_of_heap hA 11⟩
 have HB := hid hb
 have HGW := hid (HG.out.kept hb)
 have HPW := hid (HPa.out.kept hb)
 have HK := hid (fun (X Y : World) (h : Twelve W w.heap.size (x0) (x1) (x2) (x3) (x4) (x5) (x6) (.slice a0 n0 c0) (x8) (.string FR) (x10) (.bool hfr) X) (hb : Below X.heap.size X Y) => h.kept hb)
 clear hW hb hA
 cases hfr with
 | true =>
  go_enter Tryz.func20, Tryz.ntmps20
  go_wp2
  rw [HW.out]
  unfold Twelve at h12 HK
  go_region_held (fun wx => Below W.heap.size W wx ∧ wx.cell? ⟨w.heap.size, 0, none⟩ = some (x0) ∧ wx.cell? ⟨w.heap.size, 1, none⟩ = some (x1) ∧ wx.cell? ⟨w.heap.size, 2, none⟩ = some (x2) ∧ wx.cell? ⟨w.heap.size, 3, none⟩ = some (x3) ∧ wx.cell? ⟨w.heap.size, 4, none⟩ = some (x4) ∧ wx.cell? ⟨w.heap.size, 5, none⟩ = some (x5) ∧ wx.cell? ⟨w.heap.size, 6, none⟩ = some (x6) ∧ wx.cell? ⟨w.heap.size, 7, none⟩ = some (.slice a0 n0 c0) ∧ wx.cell? ⟨w.heap.size, 8, none⟩ = some (x8) ∧ wx.cell? ⟨w.heap.size, 9, none⟩ = some (.string FR) ∧ wx.cell? ⟨w.heap.size, 10, none⟩ = some (x10) ∧ wx.cell? ⟨w.heap.size, 11, none⟩ = some (.bool true))
   (first | exact HK.out _ _ h12 (Below.refl _ W).drew | (go_split_ands; exact ⟨by assumption, by assumption, by assumption, by assumption, by assumption, by assumption, by assumption, by assumption, by assumption, by assumption, by assumption, by assumption, by assumption⟩) | exact HK.out _ _ (by assumption) (by assumption) | exact HK.out _ _ (by go_split_ands; exact ⟨by assumption, by assumption, by assumption, by assumption, by assumption, by assumption, by assumption, by assumption, by assumption, by assumption, by assumption, by assumption, by assumption⟩) (by assumption))
   (first
    | (go_at_call 57; refine (HBa.out _ (HGW.out.kept (by (try dsimp only at *); go_split_ands; assumption)) (HPW.out.kept (by (try dsimp only at *); go_split_ands; assumption))).mono ?_; rintro e wa ⟨rfl, hba⟩))
  all_goals
   (try dsimp only at *)
   go_split_ands
   go_wp2
   go_ret
   refine ⟨ret_str' (ba_ext ?_), below2 HB.out (by assumption)⟩
   rw [HV.out]
   simp
 | false =>
  go_enter Tryz.func20, Tryz.ntmps20
  go_wp2_with fail
  rw [HW.out]
  refine (HBa.out _ HGW.out HPW.out).mono ?_
  rintro e wa ⟨rfl, hba⟩
  have HB2 := hid (below2 HB.out hba)
  clear h12 hba
  go_wp2
  go_ret
  refine ⟨ret_str' (ba_ext ?_), HB2.out⟩
  rw [HV.out]
  simp

end Go.Proofs.YtamockkjbkibdaaGreatDoor

namespace Go.Proofs.YtamockkjbkibdaaGreatDoor
open Go.RowKit

theorem Slim.fine {n : Nat} {u : Adr} (h : Slim n u) (hn : n ≤ 1000000) : Fine u := by
 obtain ⟨h1, h2, h3, h4, h5, h6, h7, h8⟩ := h
 have a1 := slL_len u.path
 have a2 := slL_flat u.path
 exact ⟨h1, ⟨by omega, by omega, by omega, by omega⟩, ⟨by omega, by omega, by omega⟩, by omega, by omega⟩

theorem joinV_slim {n : Nat} {u v b : Adr} {r : List UInt8} (h : Slim n u) (hb : Slim n b) (hr : (slL b.path).length + 3 * r.length + 1003 ≤ n) (e : joinV u r b = .ok v) : Slim n v := by
 have hsl : (slashedV b.scheme r).length = r.length := by
  unfold slashedV; split
  ·exact slash_len r
  ·rfl
 obtain ⟨h1, h2, h3, h4, h5, h6, h7, h8⟩ := h
 have hb' := hb
 obtain ⟨b1, b2, b3, b4, b5, b6, b7, b8⟩ := hb
 unfold joinV at e
 simp only at e
 split at e
 ·refine startV_slim (n := n) (r := slashedV b.scheme r) ?_ (by omega) e
  exact ⟨h1, b2, h3, h4, h5, h6, h7, h8⟩
 ·split at e
  ·injection e with e
   subst e
   refine withPath_slim ⟨b1, b2, b3, b4, b5, h6, h7, h8⟩ ?_
   simp only [slL_nil, List.length_nil]; omega
  ·split at e
   ·injection e with e
    subst e
    refine withPath_slim ⟨b1, b2, b3, b4, b5, h6, h7, h8⟩ ?_
    have := slL_drop b.path
    omega
   ·injection e with e
    subst e
    refine withQuery_slim ⟨b1, b2, b3, b4, b5, b6, b7, h8⟩ (by omega)

theorem join_slim {s : List UInt8} {b u : Adr} {n : Nat} (hb : Slim n b) (hn : n ≤ 100000) (e : readV s (some b) = .ok u) : Slim (n + 20000) u := by
 unfold readV at e
 split at e
 ·cases e
 ·simp only at e
  have hl := begin_le s
  split at e
  ·exact startV_slim (begin_slim s _ (by omega)) (by omega) e
  ·split at e
   ·cases e
   ·refine joinV_slim (begin_slim s _ (by omega)) (hb.mono (by omega)) ?_ e
    have := hb.2.2.2.2.2.1
    omega

theorem parse_fine {s : List UInt8} {u : Adr} (e : readV s none = .ok u) : Fine u := (parse_slim e).fine (by omega)

end Go.Proofs.YtamockkjbkibdaaGreatDoor

namespace Go.Proofs.YtamockkjbkibdaaGreatDoor
open Go.RowKit

theorem path_sl {w : World} {v : Value} {L : List (List UInt8)} (h : PathAt w v L) : IsSl v := by
 rcases h with ⟨rfl, _⟩ | ⟨b, cap, rfl, _⟩
 ·exact ⟨_, _, _, rfl⟩
 ·exact ⟨_, _, _, rfl⟩

theorem adr_cells (A : Adr) (a : Option Addr) (n c : Nat) : ∃ s0 s1 s2 s3 b4 i5 b6 s8 s9 b10 b11, adrCells A (.slice a n c) = [.string s0, .string s1, .string s2, .string s3, .bool b4, .int .i64 i5, .bool b6, .slice a n c, .string s8, .string s9, .bool b10, .bool b11] := ⟨_, _, _, _, _, _, _, _, _, _, _, rfl⟩

set_option maxHeartbeats 2000000 in
set_option maxRecDepth 100000 in
theorem ujoin_any (s : ByteArray) (B : Adr) (bv : Value) (w : World) (hg : Gd w) (hs : s.size ≤ 100000) (hP : PathAt w bv B.path) (hPl : B.path.length ≤ 100000) :
  Calls Tryz.prog 17 #[.string s, adrVal B bv] w (ReadPost (readV s.data.toList (some B)) w) := by
 obtain ⟨pa, pn, pc, rfl⟩ := path_sl hP
 obtain ⟨s0, s1, s2, s3, b4, i5, b6, s8, s9, b10, b11, hx⟩ := adr_cells B pa pn pc
 have hva : adrVal B (.slice pa pn pc) = .agg #[.string s0, .string s1, .string s2, .string s3, .bool b4, .int .i64 i5, .bool b6, .slice pa pn pc, .string s8, .string s9, .bool b10, .bool b11] := by unfold adrVal; rw [hx]
 rw [hva]
 obtain ⟨W1, hW1⟩ : ∃ W1, (w.alloc (.cells #[.string s0, .string s1, .string s2, .string s3, .bool b4, .int .i64 i5, .bool b6, .slice pa pn pc, .string s8, .string s9, .bool b10, .bool b11] 24)) = W1 := ⟨_, rfl⟩
 have hb1 : Below w.heap.size w W1 := by rw [← hW1]; exact (Below.refl _ w).alloc (Nat.le_refl _) _
 have hs1 : W1.heap.size = w.heap.size + 1 := by rw [← hW1]; simp
 have hA1 : AdrIn W1 w.heap.size B (.slice pa pn pc) := by
  unfold AdrIn
  rw [hx, ← hW1]
  exact heap_alloc_new w _
 obtain ⟨W2, hW2⟩ : ∃ W2, (W1.alloc (.cells (adrCells Adr.zero (.slice none 0 0)).toArray 24)) = W2 := ⟨_, rfl⟩
 have hb2 : Below W1.heap.size W1 W2 := by rw [← hW2]; exact (Below.refl _ W1).alloc (Nat.le_refl _) _
 have hA2 := hA1.kept hb2
 have hZ2 : AdrIn W2 (w.heap.size + 1) Adr.zero (.slice none 0 0) := by rw [← hs1, ← hW2]; exact heap_alloc_new W1 _
 have hB2 := below2 hb1 hb2
 have HB2 := hid hB2
 have HZ2 := hid hZ2
 generalize hr : readV s.data.toList (some B) = r
 have HRd := hid (read_base s w.heap.size B (.slice pa pn pc) W2 (hg.kept hB2) hs hA2 (hP.kept hB2) hPl)
 rw [hr] at HRd
 have hW2' : (W1.alloc (.cells #[.string ⟨#[]⟩, .string ⟨#[]⟩, .string ⟨#[]⟩, .string ⟨#[]⟩, .bool false, .int .i64 0, .bool false, .slice none 0 0, .string ⟨#[]⟩, .string ⟨#[]⟩, .bool false, .bool false] 24)) = W2 := hW2
 clear hb1 hA1 hb2 hA2 hZ2 hB2 hg hP hx hva hW2 hr
 go_enter Tryz.func17, Tryz.ntmps17
 go_wp2_with fail
 refine HRd.out.mono ?_
 rintro e w3 ⟨pv, rfl, hown, hb3⟩
 have h3 := HZ2.out.kept hb3
 have HB3 := hid (below2 HB2.out hb3)
 have HO3 := hid (ownsRow_lower hown HB2.out.size)
 have hsl := own_sl hown
 have hth : w3.there (w.heap.size + 1) 0 (adrCells (adrOf r) pv).toArray.size := h3.there
 have H3 := hid h3
 clear h3 hb3 hown
 go_wp2_with (refine wpList_store_mid rfl 24 (.tmp 4) (.tmp 8) rfl (w.heap.size + 1) 0 (adrCells (adrOf r) pv).toArray ?h1 ?h2 ?h3 ?h4 ?h5 ?h6)
 case h1 => rfl
 case h2 => rfl
 case h4 => exact sizeUa _ _
 case h5 => exact all_oneCell_toArray (adrCells_one _ _ hsl)
 case h3 => exact hth
 exact bodyPost_ret (results_u2 rfl _ _ (w.heap.size + 1) (adrOf r) pv rfl (range_row H3.out.store)) rfl ⟨pv, rfl, own_cells HO3.out H3.out _ _, below_setCells (Nat.le_succ _) _ _ _ HB3.out⟩

end Go.Proofs.YtamockkjbkibdaaGreatDoor

namespace Go.Proofs.YtamockkjbkibdaaGreatDoor
open Go.RowKit

theorem adr_twelve {W : World} {b : Nat} {A : Adr} {ua : Option Addr} {un uc : Nat} {u0 u1 u2 u3 : ByteArray} {u4 : Bool} {u5 : Int} {u6 : Bool} {u8 u9 : ByteArray} {u10 u11 : Bool} (hx : adrCells A (.slice ua un uc) = [.string u0, .string u1, .string u2, .string u3, .bool u4, .int .i64 u5, .bool u6, .slice ua un uc, .string u8, .string u9, .bool u10, .bool u11]) (h : AdrIn W b A (.slice ua un uc)) :
  W.cell? ⟨b, 0, none⟩ = some (.string u0) ∧ W.cell? ⟨b, 1, none⟩ = some (.string u1) ∧ W.cell? ⟨b, 2, none⟩ = some (.string u2) ∧ W.cell? ⟨b, 3, none⟩ = some (.string u3) ∧ W.cell? ⟨b, 4, none⟩ = some (.bool u4) ∧ W.cell? ⟨b, 5, none⟩ = some (.int .i64 u5) ∧ W.cell? ⟨b, 6, none⟩ = some (.bool u6) ∧ W.cell? ⟨b, 7, none⟩ = some (.slice ua un uc) ∧ W.cell? ⟨b, 8, none⟩ = some (.string u8) ∧ W.cell? ⟨b, 9, none⟩ = some (.string u9) ∧ W.cell? ⟨b, 10, none⟩ = some (.bool u10) ∧ W.cell? ⟨b, 11, none⟩ = some (.bool u11) := by
 have f : ∀ j v, [.string u0, .string u1, .string u2, .string u3, .bool u4, .int .i64 u5, .bool u6, .slice ua un uc, .string u8, .string u9, .bool u10, .bool u11][j]? = some v → W.cell? ⟨b, j, none⟩ = some v := fun j v hj => h.cell j v (by rw [hx]; exact hj)
 exact ⟨f 0 _ rfl, f 1 _ rfl, f 2 _ rfl, f 3 _ rfl, f 4 _ rfl, f 5 _ rfl, f 6 _ rfl, f 7 _ rfl, f 8 _ rfl, f 9 _ rfl, f 10 _ rfl, f 11 _ rfl⟩

theorem read_err {s : List UInt8} {e : Int} (h : readV s none = .error e) : e = 3 ∨ e = 10 ∨ e = 11 ∨ e = 12 := by
 unfold readV at h
 split at h
 ·injection h with h; exact .inl h.symm
 ·simp only at h
  split at h
  ·injection h with h; exact .inr (.inr (.inr h.symm))
  ·rcases startV_err h with h | h
   ·exact .inr (.inl h)
   ·exact .inr (.inr (.inl h))

theorem join_err {s : List UInt8} {b : Adr} {e : Int} (h : readV s (some b) = .error e) : e = 3 ∨ e = 10 ∨ e = 11 ∨ e = 12 := by
 have hs : ∀ {u r}, startV u r = .error e → e = 3 ∨ e = 10 ∨ e = 11 ∨ e = 12 := fun h => by
  rcases startV_err h with h | h
  ·exact .inr (.inl h)
  ·exact .inr (.inr (.inl h))
 unfold readV at h
 split at h
 ·injection h with h; exact .inl h.symm
 ·simp only at h
  split at h
  ·exact hs h
  ·split at h
   ·injection h with h; exact .inr (.inr (.inr h.symm))
   ·unfold joinV at h
    simp only at h
    split at h
    ·exact hs h
    ·split at h
     ·cases h
     ·split at h
      ·cases h
      ·cases h

theorem err_ne {e : Int} (h : e = 3 ∨ e = 10 ∨ e = 11 ∨ e = 12) : (e == 0) = false := by
 rcases h with rfl | rfl | rfl | rfl <;> rfl

theorem err_bne {e : Int} (h : e = 3 ∨ e = 10 ∨ e = 11 ∨ e = 12) : (e != 0) = true := by
 rcases h with rfl | rfl | rfl | rfl <;> rfl

theorem zero_slim : Slim 20000 Adr.zero := by
 unfold Slim Adr.zero
 simp [slL]

set_option maxHeartbeats 2000000 in
set_option maxRecDepth 100000 in
theorem text3_any (s : ByteArray) (w : World) (hg : Gd w) (hs : s.size ≤ 100000) :
  Calls Tryz.prog 45 #[.string s] w fun e w' => e = .returned (.string ⟨(textL s.data.toList).toArray⟩) ∧ Below w.heap.size w w' := by
 have HPa := hid (uparse_any s w hg hs)
 have HG := hid hg
 cases hr : readV s.data.toList none with
 | error x =>
  have HV := hid (show textL s.data.toList = [] by unfold textL; rw [hr])
  have hx0 := err_ne (read_err hr)
  have hx1 := err_bne (read_err hr)
  rw [hr] at HPa
  unfold ReadPost at HPa
  simp only [numOf] at HPa
  obtain ⟨A, hA⟩ : ∃ A, adrOf (.error x) = A := ⟨_, rfl⟩
  rw [hA] at HPa
  clear hr hA hg
  go_enter Tryz.func45, Tryz.ntmps45
  go_wp2_with fail
  refine HPa.out.mono ?_
  rintro e w1 ⟨pv, rfl, hown, hb1⟩
  obtain ⟨ua, un, uc, rfl⟩ := own_sl hown
  obtain ⟨u0, u1, u2, u3, u4, u5, u6, u8, u9, u10, u11, hxu⟩ := adr_cells A ua un uc
  have hvu : adrVal A (.slice ua un uc) = .agg #[.string u0, .string u1, .string u2, .string u3, .bool u4, .int .i64 u5, .bool u6, .slice ua un uc, .string u8, .string u9, .bool u10, .bool u11] := by unfold adrVal; rw [hxu]
  rw [hvu]
  obtain ⟨W2, hW2⟩ : ∃ X, (w1.alloc (.cells #[.string u0, .string u1, .string u2, .string u3, .bool u4, .int .i64 u5, .bool u6, .slice ua un uc, .string u8, .string u9, .bool u10, .bool u11] 24)) = X := ⟨_, rfl⟩
  have hbW2 : Below w1.heap.size w1 W2 := by rw [← hW2]; exact (Below.refl _ w1).alloc (Nat.le_refl _) _
  have hsW2 : W2.heap.size = w1.heap.size + 1 := by rw [← hW2]; simp
  have hAW2 : AdrIn W2 w1.heap.size A (.slice ua un uc) := by
   unfold AdrIn
   rw [hxu, ← hW2]
   exact heap_alloc_new w1 _
  have HB2 := hid (below2 hb1 hbW2)
  clear hown hb1 hbW2 hAW2 hxu hvu
  go_wp2_with fail
  go_ret
  exact ⟨by rw [HV.out]; rfl, HB2.out⟩
 | ok A =>
  have HV := hid (show textL s.data.toList = textV A by unfold textL; rw [hr])
  have HF := hid (parse_fine hr)
  rw [hr] at HPa
  unfold ReadPost at HPa
  simp only [numOf, adrOf] at HPa
  clear hr hg
  go_enter Tryz.func45, Tryz.ntmps45
  go_wp2_with fail
  refine HPa.out.mono ?_
  rintro e w1 ⟨pv, rfl, hown, hb1⟩
  obtain ⟨ua, un, uc, rfl⟩ := own_sl hown
  obtain ⟨u0, u1, u2, u3, u4, u5, u6, u8, u9, u10, u11, hxu⟩ := adr_cells A ua un uc
  have hvu : adrVal A (.slice ua un uc) = .agg #[.string u0, .string u1, .string u2, .string u3, .bool u4, .int .i64 u5, .bool u6, .slice ua un uc, .string u8, .string u9, .bool u10, .bool u11] := by unfold adrVal; rw [hxu]
  rw [hvu]
  obtain ⟨W2, hW2⟩ : ∃ X, (w1.alloc (.cells #[.string u0, .string u1, .string u2, .string u3, .bool u4, .int .i64 u5, .bool u6, .slice ua un uc, .string u8, .string u9, .bool u10, .bool u11] 24)) = X := ⟨_, rfl⟩
  have hbW2 : Below w1.heap.size w1 W2 := by rw [← hW2]; exact (Below.refl _ w1).alloc (Nat.le_refl _) _
  have hsW2 : W2.heap.size = w1.heap.size + 1 := by rw [← hW2]; simp
  have hAW2 : AdrIn W2 w1.heap.size A (.slice ua un uc) := by
   unfold AdrIn
   rw [hxu, ← hW2]
   exact heap_alloc_new w1 _
  have hpa := (own_path hown).kept hbW2
  have HB2 := hid (below2 hb1 hbW2)
  have HT := hid (text_any A (.slice ua un uc) W2 (HG.out.kept HB2.out) hpa HF.out)
  rw [hvu] at HT
  obtain ⟨y0, y1, y2, y3, y4, y5, y6, y7, y8, y9, y10, y11⟩ := adr_twelve hxu hAW2
  clear hown hb1 hbW2 hAW2 hxu hvu hpa
  go_wp2_with (go_at_call 20; refine HT.out.mono ?_; rintro e w3 ⟨rfl, hb3⟩)
  go_ret
  exact ⟨by rw [HV.out]; rfl, below2 HB2.out hb3⟩

theorem parse_slim0 (s : List UInt8) : Slim 20000 (adrOf (readV s none)) := by
 cases h : readV s none with
 | error e => exact zero_slim
 | ok u => exact parse_slim h

theorem slim_path {n : Nat} {u : Adr} (h : Slim n u) (hn : n ≤ 100000) : u.path.length ≤ 100000 := by
 have := slL_len u.path
 have h2 : (slL u.path).length ≤ n := by unfold Slim at h; exact h.2.2.2.2.2.1
 omega

set_option maxHeartbeats 4000000 in
set_option maxRecDepth 100000 in
theorem joined3_any (s b : ByteArray) (w : World) (hg : Gd w) (hs : s.size ≤ 100000) (hbs : b.size ≤ 100000) :
  Calls Tryz.prog 46 #[.string s, .string b] w fun e w' => e = .returned (.string ⟨(joinedL s.data.toList b.data.toList).toArray⟩) ∧ Below w.heap.size w w' := by
 have HPa := hid (rparse3_any b w hbs)
 have HG := hid hg
 have hsl0 := parse_slim0 b.data.toList
 have HV0 := hid (show joinedL s.data.toList b.data.toList = (match readV s.data.toList (some (adrOf (readV b.data.toList none))) with | .ok u => textV u | .error _ => []) from rfl)
 unfold ReadPost at HPa
 obtain ⟨x0, hx0⟩ : ∃ x, numOf (readV b.data.toList none) = x := ⟨_, rfl⟩
 rw [hx0] at HPa
 obtain ⟨B, hB⟩ : ∃ A, adrOf (readV b.data.toList none) = A := ⟨_, rfl⟩
 rw [hB] at HPa hsl0 HV0
 have HPl := hid (slim_path hsl0 (by omega))
 have HSl := hid hsl0
 clear hB hg hsl0 hx0
 cases hr : readV s.data.toList (some B) with
 | error x =>
  have HV := hid (show joinedL s.data.toList b.data.toList = [] by rw [HV0.out, hr])
  have HR := hid hr
  have hx0 := err_ne (join_err hr)
  have hx1 := err_bne (join_err hr)
  clear hr HV0
  go_enter Tryz.func46, Tryz.ntmps46
  go_wp2_with fail
  refine HPa.out.mono ?_
  rintro e w1 ⟨pv, rfl, hown, hb1⟩
  obtain ⟨ua, un, uc, rfl⟩ := own_sl hown
  obtain ⟨u0, u1, u2, u3, u4, u5, u6, u8, u9, u10, u11, hxu⟩ := adr_cells B ua un uc
  have hvu : adrVal B (.slice ua un uc) = .agg #[.string u0, .string u1, .string u2, .string u3, .bool u4, .int .i64 u5, .bool u6, .slice ua un uc, .string u8, .string u9, .bool u10, .bool u11] := by unfold adrVal; rw [hxu]
  rw [hvu]
  obtain ⟨W2, hW2⟩ : ∃ X, (w1.alloc (.cells #[.string u0, .string u1, .string u2, .string u3, .bool u4, .int .i64 u5, .bool u6, .slice ua un uc, .string u8, .string u9, .bool u10, .bool u11] 24)) = X := ⟨_, rfl⟩
  have hbW2 : Below w1.heap.size w1 W2 := by rw [← hW2]; exact (Below.refl _ w1).alloc (Nat.le_refl _) _
  have hsW2 : W2.heap.size = w1.heap.size + 1 := by rw [← hW2]; simp
  have hAW2 : AdrIn W2 w1.heap.size B (.slice ua un uc) := by
   unfold AdrIn
   rw [hxu, ← hW2]
   exact heap_alloc_new w1 _
  have hpa := (own_path hown).kept hbW2
  have HB2 := hid (below2 hb1 hbW2)
  have HJ := hid (ujoin_any s B (.slice ua un uc) W2 (HG.out.kept HB2.out) hs hpa HPl.out)
  rw [hvu, HR.out] at HJ
  unfold ReadPost at HJ
  obtain ⟨y0, y1, y2, y3, y4, y5, y6, y7, y8, y9, y10, y11⟩ := adr_twelve hxu hAW2
  clear hown hb1 hbW2 hAW2 hxu hvu hpa
  simp only [numOf] at HJ
  obtain ⟨A, hA⟩ : ∃ A, adrOf (.error x) = A := ⟨_, rfl⟩
  rw [hA] at HJ
  clear hA
  go_wp2_with fail
  refine HJ.out.mono ?_
  rintro e w3 ⟨qv, rfl, hown3, hb3⟩
  obtain ⟨va, vn, vc, rfl⟩ := own_sl hown3
  obtain ⟨v0, v1, v2, v3, v4, v5, v6, v8, v9, v10, v11, hxv⟩ := adr_cells A va vn vc
  have hvv : adrVal A (.slice va vn vc) = .agg #[.string v0, .string v1, .string v2, .string v3, .bool v4, .int .i64 v5, .bool v6, .slice va vn vc, .string v8, .string v9, .bool v10, .bool v11] := by unfold adrVal; rw [hxv]
  rw [hvv]
  obtain ⟨W4, hW4⟩ : ∃ X, (w3.alloc (.cells #[.string v0, .string v1, .string v2, .string v3, .bool v4, .int .i64 v5, .bool v6, .slice va vn vc, .string v8, .string v9, .bool v10, .bool v11] 24)) = X := ⟨_, rfl⟩
  have hbW4 : Below w3.heap.size w3 W4 := by rw [← hW4]; exact (Below.refl _ w3).alloc (Nat.le_refl _) _
  have hsW4 : W4.heap.size = w3.heap.size + 1 := by rw [← hW4]; simp
  have hAW4 : AdrIn W4 w3.heap.size A (.slice va vn vc) := by
   unfold AdrIn
   rw [hxv, ← hW4]
   exact heap_alloc_new w3 _
  have HB4 := hid (below2 HB2.out (below2 hb3 hbW4))
  clear hown3 hb3 hbW4 hAW4 hxv hvv
  go_wp2_with fail
  go_ret
  exact ⟨by rw [HV.out]; rfl, HB4.out⟩
 | ok A =>
  have HV := hid (show joinedL s.data.toList b.data.toList = textV A by rw [HV0.out, hr])
  have HR := hid hr
  have HF := hid ((join_slim HSl.out (by omega) hr).fine (by omega))
  clear hr HV0
  go_enter Tryz.func46, Tryz.ntmps46
  go_wp2_with fail
  refine HPa.out.mono ?_
  rintro e w1 ⟨pv, rfl, hown, hb1⟩
  obtain ⟨ua, un, uc, rfl⟩ := own_sl hown
  obtain ⟨u0, u1, u2, u3, u4, u5, u6, u8, u9, u10, u11, hxu⟩ := adr_cells B ua un uc
  have hvu : adrVal B (.slice ua un uc) = .agg #[.string u0, .string u1, .string u2, .string u3, .bool u4, .int .i64 u5, .bool u6, .slice ua un uc, .string u8, .string u9, .bool u10, .bool u11] := by unfold adrVal; rw [hxu]
  rw [hvu]
  obtain ⟨W2, hW2⟩ : ∃ X, (w1.alloc (.cells #[.string u0, .string u1, .string u2, .string u3, .bool u4, .int .i64 u5, .bool u6, .slice ua un uc, .string u8, .string u9, .bool u10, .bool u11] 24)) = X := ⟨_, rfl⟩
  have hbW2 : Below w1.heap.size w1 W2 := by rw [← hW2]; exact (Below.refl _ w1).alloc (Nat.le_refl _) _
  have hsW2 : W2.heap.size = w1.heap.size + 1 := by rw [← hW2]; simp
  have hAW2 : AdrIn W2 w1.heap.size B (.slice ua un uc) := by
   unfold AdrIn
   rw [hxu, ← hW2]
   exact heap_alloc_new w1 _
  have hpa := (own_path hown).kept hbW2
  have HB2 := hid (below2 hb1 hbW2)
  have HJ := hid (ujoin_any s B (.slice ua un uc) W2 (HG.out.kept HB2.out) hs hpa HPl.out)
  rw [hvu, HR.out] at HJ
  unfold ReadPost at HJ
  obtain ⟨y0, y1, y2, y3, y4, y5, y6, y7, y8, y9, y10, y11⟩ := adr_twelve hxu hAW2
  clear hown hb1 hbW2 hAW2 hxu hvu hpa
  simp only [numOf, adrOf] at HJ
  go_wp2_with fail
  refine HJ.out.mono ?_
  rintro e w3 ⟨qv, rfl, hown3, hb3⟩
  obtain ⟨va, vn, vc, rfl⟩ := own_sl hown3
  obtain ⟨v0, v1, v2, v3, v4, v5, v6, v8, v9, v10, v11, hxv⟩ := adr_cells A va vn vc
  have hvv : adrVal A (.slice va vn vc) = .agg #[.string v0, .string v1, .string v2, .string v3, .bool v4, .int .i64 v5, .bool v6, .slice va vn vc, .string v8, .string v9, .bool v10, .bool v11] := by unfold adrVal; rw [hxv]
  rw [hvv]
  obtain ⟨W4, hW4⟩ : ∃ X, (w3.alloc (.cells #[.string v0, .string v1, .string v2, .string v3, .bool v4, .int .i64 v5, .bool v6, .slice va vn vc, .string v8, .string v9, .bool v10, .bool v11] 24)) = X := ⟨_, rfl⟩
  have hbW4 : Below w3.heap.size w3 W4 := by rw [← hW4]; exact (Below.refl _ w3).alloc (Nat.le_refl _) _
  have hsW4 : W4.heap.size = w3.heap.size + 1 := by rw [← hW4]; simp
  have hAW4 : AdrIn W4 w3.heap.size A (.slice va vn vc) := by
   unfold AdrIn
   rw [hxv, ← hW4]
   exact heap_alloc_new w3 _
  have hpa := (own_path hown3).kept hbW4
  have HB4 := hid (below2 HB2.out (below2 hb3 hbW4))
  have HT := hid (text_any A (.slice va vn vc) W4 (HG.out.kept HB4.out) hpa HF.out)
  rw [hvv] at HT
  clear y0 y1 y2 y3 y4 y5 y6 y7 y8 y9 y10 y11
  obtain ⟨z0, z1, z2, z3, z4, z5, z6, z7, z8, z9, z10, z11⟩ := adr_twelve hxv hAW4
  clear hown3 hb3 hbW4 hAW4 hxv hvv hpa
  go_wp2_with (go_at_call 20; refine HT.out.mono ?_; rintro e w5 ⟨rfl, hb5⟩)
  go_ret
  exact ⟨by rw [HV.out]; rfl, below2 HB4.out hb5⟩

theorem kn3_1 : textL [72, 84, 84, 80, 58, 47, 47, 117, 58, 112, 64, 69, 88, 46, 99, 111, 109, 58, 56, 48, 47, 97, 47, 46, 46, 47, 98, 32, 99, 63, 113, 39, 35, 102] = [104, 116, 116, 112, 58, 47, 47, 117, 58, 112, 64, 101, 120, 46, 99, 111, 109, 47, 98, 37, 50, 48, 99, 63, 113, 37, 50, 55, 35, 102] := by decide +kernel

theorem kn3_2 : joinedL [46, 46, 47, 120] [104, 116, 116, 112, 58, 47, 47, 104, 47, 97, 47, 98, 47, 99] = [104, 116, 116, 112, 58, 47, 47, 104, 47, 97, 47, 120] := by decide +kernel

theorem text3_at (s t : ByteArray) (h : textL s.data.toList = t.data.toList) (hs : s.size ≤ 100000) (w : World) (hg : Gd w) :
  Calls Tryz.prog 45 #[.string s] w fun e w' => e = .returned (.string t) ∧ Below w.heap.size w w' := by
 have := text3_any s w hg hs
 rw [h] at this
 exact this

theorem joined3_at (s b t : ByteArray) (h : joinedL s.data.toList b.data.toList = t.data.toList) (hs : s.size ≤ 100000) (hb : b.size ≤ 100000) (w : World) (hg : Gd w) :
  Calls Tryz.prog 46 #[.string s, .string b] w fun e w' => e = .returned (.string t) ∧ Below w.heap.size w w' := by
 have := joined3_any s b w hg hs hb
 rw [h] at this
 exact this

set_option maxHeartbeats 2000000 in
set_option maxRecDepth 100000 in
theorem known3_any (w : World) (hg : Gd w) :
  Calls Tryz.prog 14 #[] w fun e w' => e = .returned (.bool true) ∧ Below w.heap.size w w' := by
 have HG := hid hg
 have HT := hid (fun (X : World) (hX : Gd X) => text3_at ⟨#[72, 84, 84, 80, 58, 47, 47, 117, 58, 112, 64, 69, 88, 46, 99, 111, 109, 58, 56, 48, 47, 97, 47, 46, 46, 47, 98, 32, 99, 63, 113, 39, 35, 102]⟩ ⟨#[104, 116, 116, 112, 58, 47, 47, 117, 58, 112, 64, 101, 120, 46, 99, 111, 109, 47, 98, 37, 50, 48, 99, 63, 113, 37, 50, 55, 35, 102]⟩ kn3_1 (by decide) X hX)
 have HJ := hid (fun (X : World) (hX : Gd X) => joined3_at ⟨#[46, 46, 47, 120]⟩ ⟨#[104, 116, 116, 112, 58, 47, 47, 104, 47, 97, 47, 98, 47, 99]⟩ ⟨#[104, 116, 116, 112, 58, 47, 47, 104, 47, 97, 47, 120]⟩ kn3_2 (by decide) (by decide) X hX)
 have HO := hid (fun (X : World) => own_any ⟨#[119, 115, 115]⟩ X)
 have HSp := hid (fun (X : World) => special_any ⟨#[100, 97, 116, 97]⟩ X)
 rw [show ownV (⟨#[119, 115, 115]⟩ : ByteArray).data.toList = 443 by decide] at HO
 rw [show specV (⟨#[100, 97, 116, 97]⟩ : ByteArray).data.toList = false by decide] at HSp
 clear hg
 go_enter Tryz.func14, Tryz.ntmps14
 go_wp2_with fail
 refine (HT.out _ HG.out).mono ?_
 rintro e w1 ⟨rfl, hb1⟩
 have HB1 := hid hb1
 clear hb1
 go_wp2_with fail
 refine (HJ.out _ (HG.out.kept HB1.out)).mono ?_
 rintro e w2 ⟨rfl, hb2⟩
 have HB2 := hid (below2 HB1.out hb2)
 clear hb2
 go_wp2_with (first | (go_at_call 47; refine (HO.out _).mono ?_; rintro e w3 ⟨rfl, rfl⟩) | (go_at_call 48; refine (HSp.out _).mono ?_; rintro e w3 ⟨rfl, rfl⟩))
 go_ret
 exact ⟨rfl, HB2.out⟩

end Go.Proofs.YtamockkjbkibdaaGreatDoor

namespace Go.Proofs.YtamockkjbkibdaaGreatDoor
def seeC (c : UInt8) : Bool := decide (33 ≤ c.toNat) && decide (c.toNat ≤ 126)

def seeB (c : UInt8) : Bool := decide (32 ≤ c.toNat) && decide (c.toNat ≤ 126)

def hoC (c : UInt8) : Bool := seeC c && (c != 35 && (c != 47 && (c != 63 && (c != 64 && c != 92))))

theorem u8_all {P : UInt8 → Bool} (h : ∀ n < 256, P (UInt8.ofNat n) = true) (c : UInt8) : P c = true := by
 have := h c.toNat c.toNat_lt
 rwa [show UInt8.ofNat c.toNat = c by simp] at this

theorem pct1_see (c : UInt8) : ((pct1 2 c).all seeC && ((pct1 3 c).all seeC && ((pct1 4 c).all seeC && ((pct1 5 c).all seeC && ((pct1 6 c).all seeC && (pct1 1 c).all seeB))))) = true :=
 u8_all (P := fun c => ((pct1 2 c).all seeC && ((pct1 3 c).all seeC && ((pct1 4 c).all seeC && ((pct1 5 c).all seeC && ((pct1 6 c).all seeC && (pct1 1 c).all seeB)))))) (by decide +kernel) c

theorem pct_all (k : Int) (P : UInt8 → Bool) (h : ∀ c, (pct1 k c).all P = true) (l : List UInt8) : ∀ c ∈ pct k l, P c = true := fun c hc => by
 unfold pct at hc
 obtain ⟨d, -, hd⟩ := List.mem_flatMap.1 hc
 exact List.all_eq_true.1 (h d) c hd

theorem pct_see (k : Int) (hk : k = 2 ∨ k = 3 ∨ k = 4 ∨ k = 5 ∨ k = 6) (l : List UInt8) : ∀ c ∈ pct k l, seeC c = true := by
 apply pct_all
 intro c
 have := pct1_see c
 simp only [Bool.and_eq_true] at this
 rcases hk with rfl | rfl | rfl | rfl | rfl
 ·exact this.1
 ·exact this.2.1
 ·exact this.2.2.1
 ·exact this.2.2.2.1
 ·exact this.2.2.2.2.1

theorem pct_seeB (l : List UInt8) : ∀ c ∈ pct 1 l, seeB c = true := by
 apply pct_all
 intro c
 have := pct1_see c
 simp only [Bool.and_eq_true] at this
 exact this.2.2.2.2.2



theorem digC_ho (n : Nat) (h : n < 16) : hoC (digC n) = true := by
 have : ∀ n < 16, hoC (digC n) = true := by decide +kernel
 exact this n h

theorem digsN_ho : ∀ (f n : Nat) (acc : List UInt8), (∀ c ∈ acc, hoC c = true) → ∀ c ∈ digsN 16 f n acc, hoC c = true
 | 0, n, acc, h => h
 | f + 1, n, acc, h => by
  rw [digsN]
  split
  ·intro c hc
   rcases List.mem_cons.1 hc with rfl | hc
   ·exact digC_ho n (by omega)
   ·exact h c hc
  ·exact digsN_ho f _ _ fun c hc => by
    rcases List.mem_cons.1 hc with rfl | hc
    ·exact digC_ho _ (Nat.mod_lt _ (by omega))
    ·exact h c hc

theorem joined_ho : ∀ (x : List Nat), ∀ c ∈ joined x, hoC c = true
 | [] => by rw [joined_nil]; simp
 | [n] => by rw [joined_one]; exact digsN_ho 4 n [] (by simp)
 | a :: b :: l => by
  rw [joined_cons]
  intro c hc
  rcases List.mem_append.1 hc with hc | hc
  ·exact digsN_ho 4 a [] (by simp) c hc
  ·rcases List.mem_append.1 hc with hc | hc
   ·obtain rfl := List.mem_singleton.1 hc; decide
   ·exact joined_ho (b :: l) c hc

theorem text6_ho (x : List Nat) : ∀ c ∈ text6 x, hoC c = true := by
 unfold text6
 split
 ·exact joined_ho x
 ·intro c hc
  rcases List.mem_append.1 hc with hc | hc
  ·exact joined_ho _ c hc
  ·rcases List.mem_append.1 hc with hc | hc
   ·rcases List.mem_cons.1 hc with rfl | hc
    ·decide
    ·obtain rfl := List.mem_singleton.1 hc; decide
   ·exact joined_ho _ c hc

theorem dec8_ho (n : Nat) (h : n < 256) : ∀ c ∈ dec8 n, hoC c = true := by
 have : ∀ n < 256, ∀ c ∈ dec8 n, hoC c = true := by decide +kernel
 exact this n h

theorem text4_ho (n : Nat) : ∀ c ∈ text4 n, hoC c = true := by
 unfold text4
 intro c hc
 have hm : ∀ k : Nat, k % 256 < 256 := fun k => Nat.mod_lt _ (by decide)
 rcases List.mem_append.1 hc with hc | hc
 ·exact dec8_ho _ (hm _) c hc
 ·rcases List.mem_cons.1 hc with rfl | hc
  ·decide
  ·rcases List.mem_append.1 hc with hc | hc
   ·exact dec8_ho _ (hm _) c hc
   ·rcases List.mem_cons.1 hc with rfl | hc
    ·decide
    ·rcases List.mem_append.1 hc with hc | hc
     ·exact dec8_ho _ (hm _) c hc
     ·rcases List.mem_cons.1 hc with rfl | hc
      ·decide
      ·exact dec8_ho _ (hm _) c hc

theorem nameB_ho (c : UInt8) (h : nameB c = true) : hoC c = true := by
 have := u8_all (P := fun c => !nameB c || hoC c) (by decide +kernel) c
 simp only [Bool.or_eq_true, Bool.not_eq_true'] at this
 rcases this with h' | h'
 ·rw [h] at h'; cases h'
 ·exact h'

theorem seeB_ho (c : UInt8) (h : seeB c = true) (hf : forb c = false) : hoC c = true := by
 have := u8_all (P := fun c => !seeB c || (forb c || hoC c)) (by decide +kernel) c
 simp only [Bool.or_eq_true, Bool.not_eq_true'] at this
 rcases this with h' | h' | h'
 ·rw [h] at h'; cases h'
 ·rw [hf] at h'; cases h'
 ·exact h'

theorem host_ho {l a : List UInt8} {b : Bool} (h : parseV l b = some a) : ∀ c ∈ a, hoC c = true := by
 unfold parseV at h
 split at h
 ·unfold bracketV at h
  split at h
  ·cases hs : sixV (Lib.trimSuffix (l.drop 1) [93]) with
   | none => rw [hs] at h; cases h
   | some x =>
    rw [hs] at h
    simp only [Option.map_some, Option.some.injEq] at h
    rw [← h]
    intro c hc
    rcases List.mem_cons.1 hc with rfl | hc
    ·decide
    ·rcases List.mem_append.1 hc with hc | hc
     ·exact text6_ho x c hc
     ·obtain rfl := List.mem_singleton.1 hc; decide
  ·cases h
 ·split at h
  ·unfold nameV at h
   split at h
   ·cases h
   ·rename_i hn
    split at h
    ·cases hf : fourV (low (unpct l)) with
     | none => rw [hf] at h; cases h
     | some n =>
      rw [hf] at h
      simp only [Option.map_some, Option.some.injEq] at h
      rw [← h]
      exact text4_ho n
    ·simp only [Option.some.injEq] at h
     rw [← h]
     intro c hc
     have : allN (low (unpct l)) = true := by
      cases he : allN (low (unpct l)) with
      | true => rfl
      | false => exact absurd (.inr (.inl he)) hn
     exact nameB_ho c (List.all_eq_true.1 this c hc)
  ·unfold otherV at h
   split at h
   ·cases h
   ·rename_i hn
    simp only [Option.some.injEq] at h
    have hf := pct_forb l (by simpa using hn)
    rw [h] at hf
    intro c hc
    refine seeB_ho c ?_ ?_
    ·rw [← h] at hc; exact pct_seeB l c hc
    ·cases he : forb c with
     | false => rfl
     | true => rw [List.any_eq_true.2 ⟨c, hc, he⟩] at hf; cases hf

theorem pct5_dot (p : List UInt8) (q : List UInt8) (hq : q = [46] ∨ q = [46, 46]) (h : pct 5 p = q) : p = q := by
 have h1 : ∀ c : UInt8, pct1 5 c ≠ [] ∧ (pct1 5 c).head? = some (if inSetI c.toNat 5 then 37 else c) := fun c => by
  unfold pct1 esc
  split <;> simp [*]
 have h2 : ∀ c : UInt8, (pct1 5 c).head? = some 46 → c = 46 ∧ pct1 5 c = [46] := fun c hc => by
  rw [(h1 c).2] at hc
  split at hc
  ·injection hc with hc; cases hc
  ·injection hc with hc
   subst hc
   exact ⟨rfl, by decide +kernel⟩
 have step : ∀ (p r : List UInt8), pct 5 p = 46 :: r → ∃ p', p = 46 :: p' ∧ pct 5 p' = r := by
  intro p r e
  cases p with
  | nil => cases e
  | cons c p =>
   have e' : pct1 5 c ++ pct 5 p = 46 :: r := e
   have hh : (pct1 5 c).head? = some 46 := by
    cases hc : pct1 5 c with
    | nil => exact absurd hc (h1 c).1
    | cons d t => rw [hc, List.cons_append] at e'; injection e' with e1 e2; rw [e1]; rfl
   obtain ⟨rfl, e2⟩ := h2 c hh
   rw [e2] at e'
   exact ⟨p, rfl, by simpa using e'⟩
 have nil : ∀ p : List UInt8, pct 5 p = [] → p = [] := by
  intro p e
  cases p with
  | nil => rfl
  | cons c p =>
   have e' : pct1 5 c ++ pct 5 p = [] := e
   exact absurd (List.append_eq_nil_iff.1 e').1 (h1 c).1
 rcases hq with rfl | rfl
 ·obtain ⟨p', rfl, e⟩ := step p _ h
  rw [nil p' e]
 ·obtain ⟨p', rfl, e⟩ := step p _ h
  obtain ⟨p2, rfl, e2⟩ := step p' _ e
  rw [nil p2 e2]

def PartOk (p : List UInt8) : Prop := (∀ c ∈ p, seeC c = true) ∧ p ≠ [46] ∧ p ≠ [46, 46]

theorem part_nil : PartOk [] := ⟨by simp, by simp, by simp⟩

theorem part_pct {p : List UInt8} (h : dotsV p = 0) : PartOk (pct 5 p) := by
 refine ⟨pct_see 5 (.inr (.inr (.inr (.inl rfl)))) p, fun e => ?_, fun e => ?_⟩
 ·have := pct5_dot p [46] (.inl rfl) e
  subst this
  rw [d_1.1] at h; cases h
 ·have := pct5_dot p [46, 46] (.inr rfl) e
  subst this
  rw [d_1.2.1] at h; cases h

theorem step_ok {out : List (List UInt8)} {p : List UInt8} {mo : Bool} (h : ∀ q ∈ out, PartOk q) : ∀ q ∈ stepP out p mo, PartOk q := by
 intro q hq
 rcases dotsV_cases p with h0 | h0 | h0
 ·rw [stepP0 h0] at hq
  rcases List.mem_append.1 hq with hq | hq
  ·exact h q hq
  ·obtain rfl := List.mem_singleton.1 hq; exact part_pct h0
 ·cases mo with
  | true => rw [stepP1 h0] at hq; exact h q hq
  | false =>
   rw [stepP1' h0] at hq
   rcases List.mem_append.1 hq with hq | hq
   ·exact h q hq
   ·obtain rfl := List.mem_singleton.1 hq; exact part_nil
 ·cases mo with
  | true => rw [stepP2 h0] at hq; exact h q (List.dropLast_subset _ hq)
  | false =>
   rw [stepP2' h0] at hq
   rcases List.mem_append.1 hq with hq | hq
   ·exact h q (List.dropLast_subset _ hq)
   ·obtain rfl := List.mem_singleton.1 hq; exact part_nil

theorem pathL_ok : ∀ (L out : List (List UInt8)), (∀ q ∈ out, PartOk q) → ∀ q ∈ pathL out L, PartOk q
 | [], out, h => by rw [pathL]; exact h
 | [p], out, h => by rw [pathL_last]; exact step_ok h
 | p :: q :: r, out, h => by
  rw [pathL_more out p (q :: r) (by simp)]
  exact pathL_ok (q :: r) _ (step_ok h)

theorem stepP_ne (out : List (List UInt8)) (p : List UInt8) : stepP out p false ≠ [] := by
 rcases dotsV_cases p with h0 | h0 | h0
 ·rw [stepP0 h0]; simp
 ·rw [stepP1' h0]; simp
 ·rw [stepP2' h0]; simp

theorem pathL_ne : ∀ (L out : List (List UInt8)), L ≠ [] → pathL out L ≠ []
 | [], out, h => absurd rfl h
 | [p], out, h => by rw [pathL_last]; exact stepP_ne _ _
 | p :: q :: r, out, h => by
  rw [pathL_more out p (q :: r) (by simp)]
  exact pathL_ne (q :: r) _ (by simp)

end Go.Proofs.YtamockkjbkibdaaGreatDoor
