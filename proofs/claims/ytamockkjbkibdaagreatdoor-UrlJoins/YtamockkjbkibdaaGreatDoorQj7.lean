/-
  Walks and plain facts that this claim leans on, put together out of 4 texts: Ern3, Ern4, Xh, Ere.
-/
import Derived.Test.YtamockkjbkibdaaGreatDoorProg
import Derived.Test.YtamockkjbkibdaaGreatDoorQa1
import Derived.Test.YtamockkjbkibdaaGreatDoorQa2
import Derived.Test.YtamockkjbkibdaaGreatDoorQa3
import Derived.Test.YtamockkjbkibdaaGreatDoorQa4
import Derived.Test.YtamockkjbkibdaaGreatDoorQa5
import Derived.Test.YtamockkjbkibdaaGreatDoorQa6
import Derived.Test.YtamockkjbkibdaaGreatDoorQa7
import Derived.Test.YtamockkjbkibdaaGreatDoorQa8
import Derived.Test.YtamockkjbkibdaaGreatDoorQa9
import Derived.Test.YtamockkjbkibdaaGreatDoorQa10
import Derived.Test.YtamockkjbkibdaaGreatDoorQa11
import Derived.Test.YtamockkjbkibdaaGreatDoorQa12
import Derived.Test.YtamockkjbkibdaaGreatDoorQa13
import Derived.Test.YtamockkjbkibdaaGreatDoorQa14
import Derived.Test.YtamockkjbkibdaaGreatDoorQa15
import Derived.Test.YtamockkjbkibdaaGreatDoorQa16
import Derived.Test.YtamockkjbkibdaaGreatDoorQa17
import Derived.Test.YtamockkjbkibdaaGreatDoorQa18
import Derived.Test.YtamockkjbkibdaaGreatDoorQa19
import Derived.Test.YtamockkjbkibdaaGreatDoorQa20
import Derived.Test.YtamockkjbkibdaaGreatDoorQa21
import Derived.Test.YtamockkjbkibdaaGreatDoorQa22
import Derived.Test.YtamockkjbkibdaaGreatDoorQa23
import Derived.Test.YtamockkjbkibdaaGreatDoorQa24
import Derived.Test.YtamockkjbkibdaaGreatDoorQa25
import Derived.Test.YtamockkjbkibdaaGreatDoorQa26
import Derived.Test.YtamockkjbkibdaaGreatDoorQa27
import Derived.Test.YtamockkjbkibdaaGreatDoorQa28
import Derived.Test.YtamockkjbkibdaaGreatDoorQj3
import Derived.Test.YtamockkjbkibdaaGreatDoorQj4
import Derived.Test.YtamockkjbkibdaaGreatDoorQj5
import Derived.Test.YtamockkjbkibdaaGreatDoorQj6
import Derived.Deep.Cut
import Derived.Deep.QuietTactic
import Derived.BigQuiet
import Derived.BigRegion
import Derived.Deep.RegionHeld
import Derived.Deep.CutRange
import Derived.Lib.IndexMore
import Derived.Lib.Join
import Derived.Lib.LastIndexByte
import Derived.WalkKit
import Derived.Lib.Strings
import Derived.Lib.UnsafeStr
import Derived.Laws.IdiomStrings
import Derived.Laws.AppendOwn
import Derived.Laws.BitsAllLaws
import Derived.Lib.Bytealg
import Derived.Lib.BufferMore
import Derived.Lib.BufferRead
import Derived.Lib.RuneBytes
import Derived.Laws.RangeAny
import Derived.LoopN
import Derived.RegionTactic
import Derived.Deep.RegionWith
import Derived.OwnWalk
import Derived.Deep.RegionLaw
import Derived.Laws.OwnMore
import Derived.Deep.LoopGhost
import Derived.Shelf.Strings.Builder1
import Derived.Shelf.Strings.Builder2
import Derived.Shelf.Strings.OnBuilder
import Derived.Shelf.Strings.Trim
import Derived.Shelf.Small.Utf8
import Derived.Shelf.Small.Strs
import Derived.Shelf.Small.Wraps
import Derived.Shelf.Strings.BuilderF
import Derived.Shelf.Strings.BuilderK
import Derived.Shelf.Strings.BuilderRune
import Derived.Shelf.Utf8.AppendRune
import Derived.Shelf.Utf8.AppendRunePlain
import Derived.Shelf.Strings.Builder2Cap
import Derived.Shelf.Strconv.Itoa0
import Derived.Shelf.Strconv.Itoa1
import Derived.Shelf.LaysM
import Derived.Shelf.Strconv.Itoa2
import Derived.Shelf.Strconv.Itoa3
import Derived.Shelf.Strings.Search1
import Derived.Shelf.Strings.Search2
import Derived.Shelf.Strings.Search3
import Derived.Shelf.Strings.Cut
import Derived.Shelf.Strings.Count
import Derived.Shelf.Strings.Shaped
import Derived.Shelf.Strings.LastIndex
import Derived.Shelf.Strings.Prefix
import Derived.Shelf.Strings.Split
import Derived.Shelf.Strings.Replace
import Derived.Shelf.Strings.Runes
import Derived.Shelf.Strings.IndexAny
import Derived.Shelf.Strings.AsciiSet
import Derived.Shelf.Strings.IndexAnyAll
import Derived.Shelf.Unicode.DecodeSlow
import Derived.Ground.Names2Prog
import Derived.Shelf.Slices.Clone
import Derived.Ground.SlgnProg
import Derived.Shelf.SlicesE.Clone
import Derived.Laws.AppendOwnNone
import Derived.Scope
import Derived.ScopeJumps
import Derived.WalkMore
import Derived.Lib.IndexAny
import Derived.Lib.Replace
import Derived.Lib.TrimByte
import Derived.Lib.ItoaNum
import Derived.Lib.DecodeN
import Derived.Lib.OthersKept
import Derived.Laws.BytesString
import Derived.Deep.WholeRow
import Derived.Lib.AppendStr
import Derived.WalkSpells
import Derived.WalkLawsBesides
import Derived.Lib.AppendIntMem
import Derived.Lib.SmallJoins
import Derived.WalkSmall
import Derived.Laws.CopyOwn
import Derived.Laws.ResultCell
import Derived.Deep.MidRow
import Derived.Lib.FrozenHead2
import Derived.Lib.Builder
import Derived.Lib.SlTrimSet
import Derived.Below
set_option linter.unusedSimpArgs false
set_option linter.unusedVariables false

namespace Go.Proofs.YtamockkjbkibdaaGreatDoor
theorem withAuth_any (u v : Adr) (r : List UInt8) (hs : u.scheme = v.scheme) (ho : u.opq = v.opq) (hq : u.query = v.query) (hf : u.fragment = v.fragment) (h1 : u.hasQuery = v.hasQuery) (h2 : u.hasFragment = v.hasFragment) : withAuth u r = withAuth v r := by
 obtain ⟨a1, a2, a3, a4, a5, a6, a7, a8, a9, a10, a11, a12⟩ := u
 obtain ⟨b1, b2, b3, b4, b5, b6, b7, b8, b9, b10, b11, b12⟩ := v
 simp only at hs ho hq hf h1 h2
 subst hs ho hq hf h1 h2
 unfold withAuth
 simp only
 cases authV a1 (aheadV [47, 63] r).1 with
 | error e => rfl
 | ok x => rfl

theorem joinV_any (u v : Adr) (x : List UInt8) (B : Adr) (ho : u.opq = v.opq) (hq : u.query = v.query) (hf : u.fragment = v.fragment) (h1 : u.hasQuery = v.hasQuery) (h2 : u.hasFragment = v.hasFragment) : joinV u x B = joinV v x B := by
 obtain ⟨a1, a2, a3, a4, a5, a6, a7, a8, a9, a10, a11, a12⟩ := u
 obtain ⟨b1, b2, b3, b4, b5, b6, b7, b8, b9, b10, b11, b12⟩ := v
 simp only at ho hq hf h1 h2
 subst ho hq hf h1 h2
 unfold joinV
 simp only
 by_cases h : Lib.hasPrefix (slashedV B.scheme x) [47, 47] = true
 ·rw [if_pos h, if_pos h]
  unfold startV
  simp only
  cases specV B.scheme with
  | true =>
   rw [if_pos rfl, if_pos rfl]
   exact withAuth_any _ _ _ rfl rfl rfl rfl rfl rfl
  | false =>
   simp only [Bool.false_eq_true, if_false]
   rw [if_pos h, if_pos h]
   exact withAuth_any _ _ _ rfl rfl rfl rfl rfl rfl
 ·rw [if_neg h, if_neg h]
  unfold withPath pathV
  rfl

theorem slash_cons {c : UInt8} {l : List UInt8} (h : c ≠ 63) : slashV (c :: l) = slC c :: slashV l := by
 unfold slashV aheadV
 simp [h]

theorem slash_q (l : List UInt8) : slashV (63 :: l) = 63 :: l := rfl

def twV (l : List UInt8) : Bool := match l with
 | a :: b :: _ => (a == 47 || a == 92) && (b == 47 || b == 92)
 | _ => false

theorem tw_slash (l : List UInt8) : Lib.hasPrefix (slashV l) [47, 47] = twV l := by
 have k : ∀ c : UInt8, c ≠ 63 → ((47 : UInt8) == slC c) = (c == 47 || c == 92) := fun c hc => by
  have := u8_all (P := fun c => c == 63 || ((47 : UInt8) == slC c) == (c == 47 || c == 92)) (by decide +kernel) c
  simpa [hc] using this
 match l with
 | [] => rfl
 | [a] =>
  by_cases ha : a = 63
  ·subst ha; rfl
  ·rw [slash_cons ha]
   simp [Lib.hasPrefix, List.isPrefixOf, twV, slashV, aheadV]
 | a :: b :: r =>
  by_cases ha : a = 63
  ·subst ha; rfl
  ·rw [slash_cons ha]
   by_cases hb : b = 63
   ·subst hb
    rw [slash_q]
    simp [Lib.hasPrefix, List.isPrefixOf, twV]
   ·rw [slash_cons hb]
    show ((47 : UInt8) == slC a && ((47 : UInt8) == slC b && true)) = _
    rw [k a ha, k b hb]
    simp [twV]

theorem join_none {s : List UInt8} {B U : Adr} {X : List UInt8} (hl : ¬ 4096 < s.length) (hX : (part 35 (cleanV s)).1 = X) (ho : schemeV X = none) (hU : U = { Adr.zero with scheme := B.scheme, fragment := pct 2 (part 35 (cleanV s)).2.1, hasFragment := (part 35 (cleanV s)).2.2 }) : readV s (some B) = nrV U X B := by
 have hb : beginU s = (⟨[], [], [], [], false, -1, false, [], [], pct 2 (part 35 (cleanV s)).2.1, false, (part 35 (cleanV s)).2.2⟩, X) := by unfold beginU; simp only; rw [hX, ho]; rfl
 unfold readV
 rw [if_neg hl]
 simp only
 rw [hb]
 simp only
 rw [if_neg (fun e => e.1 rfl)]
 unfold nrV
 by_cases h : B.opq = true ∧ X ≠ []
 ·rw [if_pos h, if_pos h]
 ·rw [if_neg h, if_neg h, hU]
  exact joinV_any _ _ _ _ rfl rfl rfl rfl rfl

theorem join_some {s : List UInt8} {B U : Adr} {X n bh : List UInt8} (hl : ¬ 4096 < s.length) (hX : (part 35 (cleanV s)).1 = X) (ho : schemeV X = some (n, bh)) (hn : n ≠ []) (hBo : specV B.scheme = true → B.opq = false) (hU : U = { Adr.zero with scheme := B.scheme, fragment := pct 2 (part 35 (cleanV s)).2.1, hasFragment := (part 35 (cleanV s)).2.2 }) :
  ((specV n = false ∨ n ≠ B.scheme ∨ twV bh = true) → readV s (some B) = readV s none) ∧ (specV n = true → n = B.scheme → twV bh = false → readV s (some B) = nrV U bh B) := by
 have hb : beginU s = (⟨n, [], [], [], false, -1, false, [], [], pct 2 (part 35 (cleanV s)).2.1, false, (part 35 (cleanV s)).2.2⟩, bh) := by unfold beginU; simp only; rw [hX, ho]; rfl
 have hr : readV s none = startV (beginU s).1 (beginU s).2 := by
  unfold readV
  rw [if_neg hl]
  simp only
  rw [if_neg (by rw [hb]; exact hn)]
 have hj : readV s (some B) = if n ≠ [] ∧ (specV n = false ∨ n ≠ B.scheme) then startV (beginU s).1 (beginU s).2 else if B.opq = true ∧ bh ≠ [] then .error 12 else joinV (beginU s).1 bh B := by
  unfold readV
  rw [if_neg hl]
  simp only
  rw [hb]
 refine ⟨fun h => ?_, fun h1 h2 h3 => ?_⟩
 ·rw [hj, hr]
  by_cases hc : specV n = false ∨ n ≠ B.scheme
  ·rw [if_pos ⟨hn, hc⟩]
  ·have hs : specV n = true := by cases e : specV n with | true => rfl | false => exact absurd (.inl e) hc
   have he : n = B.scheme := by
    by_cases e : n = B.scheme
    ·exact e
    ·exact absurd (.inr e) hc
   have ht : twV bh = true := by
    rcases h with h | h | h
    ·exact absurd (.inl h) hc
    ·exact absurd (.inr h) hc
    ·exact h
   have hsB : specV B.scheme = true := by rw [← he]; exact hs
   rw [if_neg (fun e => hc e.2), if_neg (fun e => by rw [hBo hsB] at e; cases e.1)]
   rw [hb]
   simp only
   unfold joinV
   simp only
   have e1 : slashedV B.scheme bh = slashV bh := by unfold slashedV; rw [if_pos hsB]
   rw [e1, tw_slash, ht, if_pos rfl]
   unfold startV
   simp only
   rw [hs, hsB, if_pos rfl, if_pos rfl, slash_idem, he]
 ·rw [hj, if_neg (fun e => by rcases e.2 with e | e; rw [h1] at e; cases e; exact e h2)]
  unfold nrV
  by_cases h : B.opq = true ∧ bh ≠ []
  ·rw [if_pos h, if_pos h]
  ·rw [if_neg h, if_neg h, hU, hb]
   exact joinV_any _ _ _ _ rfl rfl rfl rfl rfl

end Go.Proofs.YtamockkjbkibdaaGreatDoor

namespace Go.Proofs.YtamockkjbkibdaaGreatDoor
open Go.RowKit

set_option maxHeartbeats 16000000 in
set_option maxRecDepth 100000 in
theorem rjoin3_any (s : ByteArray) (B : Adr) (bv : Value) (w : World) (hs : s.size ≤ 100000) (hP : PathAt w bv B.path) (hPl : B.path.length ≤ 100000) (hBo : specV B.scheme = true → B.opq = false) :
  Calls Tryz.prog 18 #[.string s, adrVal B bv] w (ReadPost (readV s.data.toList (some B)) w) := by
 have HPa := hid hP
 obtain ⟨da, dn, dc, rfl⟩ := path_sl hP
 obtain ⟨d0, d1, d2, d3, d4, d5, d6, d8, d9, d10, d11, hxd, e0, -, -, -, -, -, -, -, -, -, -⟩ := adr_named4 B da dn dc
 have hvd : adrVal B (.slice da dn dc) = .agg #[.string d0, .string d1, .string d2, .string d3, .bool d4, .int .i64 d5, .bool d6, .slice da dn dc, .string d8, .string d9, .bool d10, .bool d11] := by unfold adrVal; rw [hxd]
 have HVd := hid hvd
 have HXd := hid hxd
 have HE0 := hid e0
 rw [hvd]
 obtain ⟨W1, hW1⟩ : ∃ X, (w.alloc (.cells #[.string d0, .string d1, .string d2, .string d3, .bool d4, .int .i64 d5, .bool d6, .slice da dn dc, .string d8, .string d9, .bool d10, .bool d11] 24)) = X := ⟨_, rfl⟩
 have hbW1 : Below w.heap.size w W1 := by rw [← hW1]; exact (Below.refl _ w).alloc (Nat.le_refl _) _
 have hsW1 : W1.heap.size = w.heap.size + 1 := by rw [← hW1]; simp
 have hAW1 : AdrIn W1 w.heap.size B (.slice da dn dc) := by
  unfold AdrIn
  rw [hxd, ← hW1]
  exact heap_alloc_new w _
 obtain ⟨W2, hW2⟩ : ∃ Z, W1.alloc (.cells (adrCells Adr.zero (.slice none 0 0)).toArray 24) = Z := ⟨_, rfl⟩
 have hbW2 : Below W1.heap.size W1 W2 := by rw [← hW2]; exact (Below.refl _ W1).alloc (Nat.le_refl _) _
 have hR2 : AdrIn W2 (w.heap.size + 1) Adr.zero (.slice none 0 0) := by rw [← hsW1, ← hW2]; exact heap_alloc_new W1 _
 have hsW2 : W2.heap.size = w.heap.size + 2 := by rw [← hW2]; simp [hsW1]
 have hD2 := hAW1.kept hbW2
 have HB2 := hid (below2 hbW1 hbW2)
 have HR2 := hid hR2
 have HD2 := hid hD2
 have hW2' : W1.alloc (.cells #[.string ⟨#[]⟩, .string ⟨#[]⟩, .string ⟨#[]⟩, .string ⟨#[]⟩, .bool false, .int .i64 0, .bool false, .slice none 0 0, .string ⟨#[]⟩, .string ⟨#[]⟩, .bool false, .bool false] 24) = W2 := hW2
 by_cases hlong : 4096 < s.size
 ·have hl' : (4096 : Int) < (s.size : Int) := by omega
  have HN := hid (show readV s.data.toList (some B) = .error 3 by unfold readV; rw [if_pos (by rw [← Lib.size_eq]; exact hlong)])
  clear hW2 hvd hxd e0 hbW1 hAW1 hbW2 hR2 hsW2 hD2 hP hlong
  go_enter Tryz.func18, Tryz.ntmps18
  go_wp2_with (refine wpList_store_mid rfl 24 (.tmp 4) (.tmp 16) rfl (w.heap.size + 1) 0 (adrCells Adr.zero (.slice none 0 0)).toArray rfl rfl HR2.out.there (sizeUa _ _) (all_oneCell_toArray (adrCells_one _ _ ⟨_, _, _, rfl⟩)) ?_)
  refine bodyPost_ret (results_u2 rfl _ _ (w.heap.size + 1) Adr.zero (.slice none 0 0) rfl (range_row HR2.out.store)) rfl ⟨.slice none 0 0, ?_, ?_, below_setCells (Nat.le_succ _) _ _ _ HB2.out⟩
  ·rw [HN.out]; rfl
  ·rw [HN.out]; exact own_nil _ _ _
 ·have hl' : ¬ (4096 : Int) < (s.size : Int) := by omega
  have hnl : ¬ 4096 < s.data.toList.length := by rw [← Lib.size_eq]; exact hlong
  obtain ⟨W3, hW3⟩ : ∃ Z, W2.alloc (.cells (adrCells Adr.zero (.slice none 0 0)).toArray 24) = Z := ⟨_, rfl⟩
  have hbW3 : Below W2.heap.size W2 W3 := by rw [← hW3]; exact (Below.refl _ W2).alloc (Nat.le_refl _) _
  have hU3 : AdrIn W3 (w.heap.size + 2) Adr.zero (.slice none 0 0) := by rw [← hsW2, ← hW3]; exact heap_alloc_new W2 _
  have hW3' : W2.alloc (.cells #[.string ⟨#[]⟩, .string ⟨#[]⟩, .string ⟨#[]⟩, .string ⟨#[]⟩, .bool false, .int .i64 0, .bool false, .slice none 0 0, .string ⟨#[]⟩, .string ⟨#[]⟩, .bool false, .bool false] 24) = W3 := hW3
  have HUa := hid hU3
  have HRa := hid (HR2.out.kept hbW3)
  have HDa := hid (HD2.out.kept hbW3)
  have HBa := hid (below2 HB2.out hbW3)
  obtain ⟨C, hC⟩ : ∃ X : ByteArray, X = ⟨(cleanV s.data.toList).toArray⟩ := ⟨_, rfl⟩
  have hCl : C.data.toList = cleanV s.data.toList := by rw [hC]
  have hCs : C.size ≤ 100000 := by rw [hC]; exact size_le (clean_le _) hs
  have hpl := part_le 35 C.data.toList
  obtain ⟨X, hX⟩ : ∃ X : ByteArray, X = ⟨(part 35 C.data.toList).1.toArray⟩ := ⟨_, rfl⟩
  have hXl : X.data.toList = (part 35 C.data.toList).1 := by rw [hX]
  have hXs : X.size ≤ 100000 := by rw [hX]; exact size_le hpl.1 hCs
  obtain ⟨F, hF⟩ : ∃ F, F = pct 2 (part 35 C.data.toList).2.1 := ⟨_, rfl⟩
  obtain ⟨hf, hhf⟩ : ∃ F, F = (part 35 C.data.toList).2.2 := ⟨_, rfl⟩
  obtain ⟨U, hU⟩ : ∃ U : Adr, U = { Adr.zero with scheme := B.scheme, fragment := F, hasFragment := hf } := ⟨_, rfl⟩
  have HUe := hid hU
  have HCl : Hid (∀ w : World, Calls Tryz.prog 52 #[.string s] w fun e w' => e = .returned (.string C) ∧ w = w') := fun w => by rw [hC]; exact rclean_any s w (by omega)
  have HSp : Hid (∀ (w : World) (b : Nat), AdrIn w b Adr.zero (.slice none 0 0) → Calls Tryz.prog 51 #[.pointer (some ⟨b, 0, none⟩), .string C] w fun e w' => e = .returned (.string X) ∧ Only b w w' ∧ AdrIn w' b { Adr.zero with fragment := F, hasFragment := hf } (.slice none 0 0)) := fun w b h => by
   have := rsplit_any C b Adr.zero (.slice none 0 0) w hCs h ⟨rfl, rfl⟩
   rw [← hX, ← hF, ← hhf] at this
   exact this
  obtain ⟨o, ho⟩ : ∃ o, o = schemeV X.data.toList := ⟨_, rfl⟩
  have HSc : Hid (∀ w : World, Calls Tryz.prog 53 #[.string X] w fun e w' => e = .returned (schP o) ∧ Below w.heap.size w w') := fun w => by rw [ho]; exact rscheme_any X w (by omega)
  have hX2 : (part 35 (cleanV s.data.toList)).1 = X.data.toList := by rw [hXl, hCl]
  have hU2 : U = { Adr.zero with scheme := B.scheme, fragment := pct 2 (part 35 (cleanV s.data.toList)).2.1, hasFragment := (part 35 (cleanV s.data.toList)).2.2 } := by rw [hU, hF, hhf, hCl]
  have HNo := hid (show o = none → readV s.data.toList (some B) = nrV U X.data.toList B from fun h => join_none hnl hX2 (ho.symm.trans h) hU2)
  have HSo := hid (show ∀ n bh, o = some (n, bh) → ((specV n = false ∨ n ≠ B.scheme ∨ twV bh = true) → readV s.data.toList (some B) = readV s.data.toList none) ∧ (specV n = true → n = B.scheme → twV bh = false → readV s.data.toList (some B) = nrV U bh B) ∧ bh.length ≤ 100000 from fun n bh h => by
   have h2 := schemeV_ne (ho.symm.trans h)
   obtain ⟨a, b⟩ := join_some hnl hX2 (ho.symm.trans h) h2.1 hBo hU2
   refine ⟨a, b, ?_⟩
   have := h2.2.2
   rw [← Lib.size_eq] at this
   omega)
  have HPr := hid (fun w => rparse3_any s w hs)
  unfold ReadPost at HPr
  clear hC hCl hpl hX hXl hF hhf ho hX2 hU2 hnl hlong hU hW2 hW3 hvd hxd e0 hbW1 hAW1 hbW2 hR2 hD2 hP hbW3 hU3
  go_enter Tryz.func18, Tryz.ntmps18
  go_wp2_with fail
  refine (HCl.out _).mono ?_
  rintro e wz ⟨rfl, hwz⟩
  rw [← hwz]
  clear hwz
  go_wp2_with fail
  refine (HSp.out _ _ HUa.out).mono ?_
  rintro e w2 ⟨rfl, ho2, h2⟩
  have HRb := hid (show AdrIn w2 (w.heap.size + 1) Adr.zero (.slice none 0 0) by
   have := HRa.out
   unfold AdrIn at this ⊢
   rw [ho2.1.block _ (by omega)]; exact this)
  have HDb := hid (show AdrIn w2 w.heap.size B (.slice da dn dc) by
   have := HDa.out
   unfold AdrIn at this ⊢
   rw [ho2.1.block _ (by omega)]; exact this)
  have HBb := hid (HBa.out.trans (ho2.1.mono (by omega)))
  have H2 := hid h2
  clear ho2 h2 hW2' hW3' hsW1 hsW2
  go_wp2_with fail
  refine (HSc.out _).mono ?_
  rintro e w3 ⟨rfl, hb3⟩
  have H3 := hid (H2.out.kept hb3)
  have HR3 := hid (HRb.out.kept hb3)
  have HD3 := hid (HDb.out.kept hb3)
  have HB3 := hid (below2 HBb.out hb3)
  clear hb3 HCl HSp HSc HUa HRa HDa HBa HRb HDb HBb H2 HR2 HD2 HB2
  cases o with
  | none =>
   have HNR := hid (HNo.out rfl)
   rw [show schP none = .tuple #[.string ⟨#[]⟩, .string ⟨#[]⟩, .bool false] from rfl]
   have c0 := H3.out.cell 0 _ rfl
   have f0 := H3.out.frozen 0
   have y0 : w3.cell? ⟨w.heap.size, 0, none⟩ = some (.string d0) := HD3.out.cell 0 _ (by rw [HXd.out]; rfl)
   obtain ⟨w4, hw4⟩ : ∃ Z, w3.setCell ⟨w.heap.size + 2, 0, none⟩ (.string d0) = Z := ⟨_, rfl⟩
   have HU4 := hid (show AdrIn w4 (w.heap.size + 2) U (.slice none 0 0) by rw [← hw4, HUe.out]; exact H3.out.set 0 _ (by rw [← HE0.out]; rfl))
   have HD4 := hid (show AdrIn w4 w.heap.size B (.slice da dn dc) by rw [← hw4]; exact HD3.out.set_other (by omega) 0 _)
   have HR4 := hid (show AdrIn w4 (w.heap.size + 1) Adr.zero (.slice none 0 0) by rw [← hw4]; exact HR3.out.set_other (by omega) 0 _)
   have HB4 := hid (show Below w.heap.size w w4 by rw [← hw4]; exact HB3.out.setCell (p := ⟨w.heap.size + 2, 0, none⟩) (by show w.heap.size ≤ w.heap.size + 2; omega) _)
   have HNr := hid (rnear_any X (w.heap.size + 2) U (.slice none 0 0) B (.slice da dn dc) w4 hXs HU4.out (by rw [HUe.out]; exact ⟨rfl, rfl⟩) (by rw [HUe.out]) (by rw [HUe.out]; exact ⟨rfl, rfl, rfl⟩) ⟨_, _, _, rfl⟩ (fun Z hZ => HPa.out.kept (HB4.out.trans (hZ.mono (by omega)))) hPl)
   rw [← HNR.out, HVd.out] at HNr
   obtain ⟨r, hr⟩ : ∃ r, readV s.data.toList (some B) = r := ⟨_, rfl⟩
   rw [hr] at HNr
   have HN := hid hr
   have HEr := hid (show ∀ ee, r = .error ee → ((ee : Int) != 0) = true from fun ee h => err_bne (join_err (hr.trans h)))
   clear hr
   obtain ⟨z0, z1, z2, z3, z4, z5, z6, z7, z8, z9, z10, z11⟩ := adr_twelve HXd.out HD4.out
   go_upto_region 12 with fail
   clear hw4 c0 f0 y0
   go_wp2_with fail
   refine HNr.out.mono ?_
   rintro e w5 ⟨rfl, hb5, h5⟩
   have HR5 := hid (show AdrIn w5 (w.heap.size + 1) Adr.zero (.slice none 0 0) by
    have := HR4.out
    unfold AdrIn at this ⊢
    rw [hb5.block _ (by omega)]; exact this)
   have HB5 := hid (HB4.out.trans (hb5.mono (by omega)))
   have HS4 := hid HB4.out.size
   have H5 := hid h5
   clear hb5 h5 z0 z1 z2 z3 z4 z5 z6 z7 z8 z9 z10 z11 HNr
   cases r with
   | error ee =>
    have hne : ((ee : Int) != 0) = true := HEr.out ee rfl
    rw [show numOf (.error ee) = ee from rfl]
    go_wp2_with (refine wpList_store_mid rfl 24 (.tmp 4) (.tmp 75) rfl (w.heap.size + 1) 0 (adrCells Adr.zero (.slice none 0 0)).toArray rfl rfl HR5.out.there (sizeUa _ _) (all_oneCell_toArray (adrCells_one _ _ ⟨_, _, _, rfl⟩)) ?_)
    refine bodyPost_ret (results_u2 rfl _ _ (w.heap.size + 1) Adr.zero (.slice none 0 0) rfl (range_row HR5.out.store)) rfl ⟨.slice none 0 0, ?_, ?_, below_setCells (Nat.le_succ _) _ _ _ HB5.out⟩
    ·rw [HN.out]; rfl
    ·rw [HN.out]; exact own_nil _ _ _
   | ok V =>
    obtain ⟨pv5, hA5, hO5⟩ := H5.out V rfl
    obtain ⟨va, vn, vc, rfl⟩ := own_sl hO5
    obtain ⟨v0, v1, v2, v3, v4, v5, v6, v8, v9, v10, v11, hxv⟩ := adr_cells V va vn vc
    have HXv := hid hxv
    have HO5 := hid (own_weak hO5 HS4.out)
    rw [show numOf (.ok V) = 0 from rfl]
    obtain ⟨z0, z1, z2, z3, z4, z5, z6, z7, z8, z9, z10, z11⟩ := adr_twelve hxv hA5
    have hone : (#[.string v0, .string v1, .string v2, .string v3, .bool v4, .int .i64 v5, .bool v6, .slice va vn vc, .string v8, .string v9, .bool v10, .bool v11] : Array Value).all (·.oneCell') = true := by
     have := all_oneCell_toArray (adrCells_one V (.slice va vn vc) ⟨_, _, _, rfl⟩)
     rw [hxv] at this
     exact this
    clear hxv hO5 hA5
    go_wp2_with (refine wpList_store_mid rfl 24 (.tmp 4) (.tmp 77) rfl (w.heap.size + 1) 0 #[.string v0, .string v1, .string v2, .string v3, .bool v4, .int .i64 v5, .bool v6, .slice va vn vc, .string v8, .string v9, .bool v10, .bool v11] rfl rfl HR5.out.there (sizeUa V (.slice va vn vc)) hone ?_)
    have hrg := range_row (HR5.out.store (v := V) (qv := .slice va vn vc))
    have hbl := below_setCells (B := w.heap.size) (b := w.heap.size + 1) (Nat.le_succ _) (adrCells V (.slice va vn vc)) 0 _ HB5.out
    have how := own_cells HO5.out HR5.out (adrCells V (.slice va vn vc)) 0
    refine bodyPost_ret (results_u2 rfl _ _ (w.heap.size + 1) V (.slice va vn vc) rfl ?_) rfl ⟨.slice va vn vc, ?_, ?_, ?_⟩
    ·rw [HXv.out] at hrg ⊢; exact hrg
    ·rw [HN.out]; rfl
    ·rw [HN.out]; rw [HXv.out] at how; exact how
    ·rw [HXv.out] at hbl; exact hbl
  | some nb =>
   obtain ⟨n, bh⟩ := nb
   obtain ⟨hA1, hA2, hbl⟩ := HSo.out n bh rfl
   obtain ⟨NB, hNB⟩ : ∃ X : ByteArray, X = ⟨n.toArray⟩ := ⟨_, rfl⟩
   obtain ⟨BB, hBB⟩ : ∃ X : ByteArray, X = ⟨bh.toArray⟩ := ⟨_, rfl⟩
   have hBs : BB.size ≤ 100000 := by rw [hBB]; exact hbl
   have hNl : NB.data.toList = n := by rw [hNB]
   have hBl : BB.data.toList = bh := by rw [hBB]
   rw [show schP (some (n, bh)) = .tuple #[.string NB, .string BB, .bool true] by rw [hNB, hBB]; rfl]
   obtain ⟨tw, htw⟩ : ∃ q, twV BB.data.toList = q := ⟨_, rfl⟩
   obtain ⟨sq, hsq⟩ : ∃ q, specV NB.data.toList = q := ⟨_, rfl⟩
   obtain ⟨sn, hsn⟩ : ∃ q, (NB.toList == d0.toList) = q := ⟨_, rfl⟩
   have nsn : (NB.toList != d0.toList) = !sn := by rw [← hsn]; rfl
   have HSq := hid (fun w => rspecial_any NB w)
   rw [hsq] at HSq
   have HBd := hid (show (sq = false ∨ sn = false ∨ tw = true) → readV s.data.toList (some B) = readV s.data.toList none from fun h => hA1 (by
    rcases h with h | h | h
    ·left; rw [← hNl, hsq]; exact h
    ·right; left
     intro e
     rw [h, Lib.toList_data, Lib.toList_data, hNl, HE0.out] at hsn
     exact absurd e (beq_eq_false_iff_ne.1 hsn)
    ·right; right; rw [← hBl, htw]; exact h))
   have HGd := hid (show sq = true → sn = true → tw = false → readV s.data.toList (some B) = nrV U BB.data.toList B from fun h1 h2 h3 => by
    rw [hBl]
    refine hA2 (by rw [← hNl, hsq]; exact h1) ?_ (by rw [← hBl, htw]; exact h3)
    rw [h2, Lib.toList_data, Lib.toList_data, hNl, HE0.out] at hsn
    exact beq_iff_eq.1 hsn)
   have y0 : w3.cell? ⟨w.heap.size, 0, none⟩ = some (.string d0) := HD3.out.cell 0 _ (by rw [HXd.out]; rfl)
   clear hA1 hA2 hNB hBB hNl hBl hbl hsq HSo HNo
   go_upto_region 7 with fail
   go_cut [11] from 27 to 49 (fun x wx => x = .bool tw ∧ wx = w3)
   case first =>
    by_cases h1 : 1 < BB.size
    ·have h1' : (1 : Int) < (BB.size : Int) := by omega
     have h0s : 0 < BB.size := by omega
     have hform : ∃ r, BB.data.toList = BB[0] :: BB[1] :: r := by
      have hl : 1 < BB.data.toList.length := by rw [← Lib.size_eq]; exact h1
      match hb : BB.data.toList, hl with
      | a :: c :: r, _ =>
       refine ⟨r, ?_⟩
       have e0 : BB[0] = a := by
        have : BB.data.toList[0]? = some a := by rw [hb]; rfl
        rw [List.getElem?_eq_getElem (by rw [hb]; simp)] at this
        exact Option.some.inj this
       have e1 : BB[1] = c := by
        have : BB.data.toList[1]? = some c := by rw [hb]; rfl
        rw [List.getElem?_eq_getElem (by rw [hb]; simp)] at this
        exact Option.some.inj this
       rw [e0, e1]
     obtain ⟨rr, hform⟩ := hform
     by_cases a47 : BB[0] = 47
     ·have e1 : ((BB[0].toNat : Int) == 47) = true := byte_is a47
      by_cases b47 : BB[1] = 47
      ·have e3 : ((BB[1].toNat : Int) == 47) = true := byte_is b47
       have HTw := hid (show tw = true by rw [← htw, hform, a47, b47]; rfl)
       go_wp2_with fail
       go_meet
       exact ⟨by rw [HTw.out], rfl⟩
      ·have e3 : ((BB[1].toNat : Int) == 47) = false := byte_not b47
       by_cases b92 : BB[1] = 92
       ·have e4 : ((BB[1].toNat : Int) == 92) = true := byte_is b92
        have HTw := hid (show tw = true by rw [← htw, hform, a47, b92]; rfl)
        go_wp2_with fail
        go_meet
        exact ⟨by rw [HTw.out], rfl⟩
       ·have e4 : ((BB[1].toNat : Int) == 92) = false := byte_not b92
        have HTw := hid (show tw = false by rw [← htw, hform, a47]; simp [twV, b47, b92])
        go_wp2_with fail
        go_meet
        exact ⟨by rw [HTw.out], rfl⟩
     ·have e1 : ((BB[0].toNat : Int) == 47) = false := byte_not a47
      by_cases a92 : BB[0] = 92
      ·have e2 : ((BB[0].toNat : Int) == 92) = true := byte_is a92
       by_cases b47 : BB[1] = 47
       ·have e3 : ((BB[1].toNat : Int) == 47) = true := byte_is b47
        have HTw := hid (show tw = true by rw [← htw, hform, a92, b47]; rfl)
        go_wp2_with fail
        go_meet
        exact ⟨by rw [HTw.out], rfl⟩
       ·have e3 : ((BB[1].toNat : Int) == 47) = false := byte_not b47
        by_cases b92 : BB[1] = 92
        ·have e4 : ((BB[1].toNat : Int) == 92) = true := byte_is b92
         have HTw := hid (show tw = true by rw [← htw, hform, a92, b92]; rfl)
         go_wp2_with fail
         go_meet
         exact ⟨by rw [HTw.out], rfl⟩
        ·have e4 : ((BB[1].toNat : Int) == 92) = false := byte_not b92
         have HTw := hid (show tw = false by rw [← htw, hform, a92]; simp [twV, b47, b92])
         go_wp2_with fail
         go_meet
         exact ⟨by rw [HTw.out], rfl⟩
      ·have e2 : ((BB[0].toNat : Int) == 92) = false := byte_not a92
       have HTw := hid (show tw = false by rw [← htw, hform]; simp [twV, a47, a92])
       go_wp2_with fail
       go_meet
       exact ⟨by rw [HTw.out], rfl⟩
    ·have h1' : ¬ (1 : Int) < (BB.size : Int) := by omega
     have HTw := hid (show tw = false by
      rw [← htw]
      have hl : ¬ 1 < BB.data.toList.length := by rw [← Lib.size_eq]; exact h1
      match BB.data.toList, hl with
      | [], _ => rfl
      | [a], _ => rfl
      | a :: c :: r, hl => exact absurd (by simp) hl)
     go_wp2_with fail
     go_meet
     exact ⟨by rw [HTw.out], rfl⟩
   case rest =>
    obtain ⟨rfl, hwx⟩ := hcut
    have hwx := hwx.symm
    subst hwx
    clear htw
    go_upto_region 8 with fail
    go_cut [61] from 50 to 60 (fun x wx => x = .bool (!sq || (!sn || tw)) ∧ wx = w3)
    case first =>
     go_wp2_with fail
     refine (HSq.out _).mono ?_
     rintro e wz ⟨rfl, hwz⟩
     rw [← hwz]
     clear hwz
     cases sq with
     | false =>
      go_wp2_with fail
      go_meet
      exact ⟨rfl, rfl⟩
     | true =>
      cases sn with
      | false =>
       go_wp2_with fail
       go_meet
       exact ⟨rfl, rfl⟩
      | true =>
       go_wp2_with fail
       go_meet
       exact ⟨rfl, rfl⟩
    case rest =>
     obtain ⟨rfl, hwx⟩ := hcut
     have hwx := hwx.symm
     subst hwx
     clear y0 nsn
     obtain ⟨bd, hbd⟩ : ∃ q, (!sq || (!sn || tw)) = q := ⟨_, rfl⟩
     rw [hbd]
     cases bd with
     | true =>
      have HN := hid (HBd.out (by revert hbd; cases sq <;> cases sn <;> cases tw <;> simp))
      clear hbd
      go_wp2_with fail
      refine (HPr.out _).mono ?_
      rintro e w5 ⟨pv, rfl, hown, hb5⟩
      obtain ⟨r, hr⟩ : ∃ r, readV s.data.toList none = r := ⟨_, rfl⟩
      rw [hr] at HN hown ⊢
      obtain ⟨va, vn, vc, rfl⟩ := own_sl hown
      obtain ⟨v0, v1, v2, v3, v4, v5, v6, v8, v9, v10, v11, hxv⟩ := adr_cells (adrOf r) va vn vc
      have hvv : adrVal (adrOf r) (.slice va vn vc) = .agg #[.string v0, .string v1, .string v2, .string v3, .bool v4, .int .i64 v5, .bool v6, .slice va vn vc, .string v8, .string v9, .bool v10, .bool v11] := by unfold adrVal; rw [hxv]
      have HXv := hid hxv
      have HVv := hid hvv
      have HR5 := hid (HR3.out.kept hb5)
      have HB5 := hid (below2 HB3.out hb5)
      have HO5 := hid (own_weak hown HB3.out.size)
      have hone : (#[.string v0, .string v1, .string v2, .string v3, .bool v4, .int .i64 v5, .bool v6, .slice va vn vc, .string v8, .string v9, .bool v10, .bool v11] : Array Value).all (·.oneCell') = true := by
       have := all_oneCell_toArray (adrCells_one (adrOf r) (.slice va vn vc) ⟨_, _, _, rfl⟩)
       rw [hxv] at this
       exact this
      rw [hvv]
      clear hr hxv hvv hown hb5
      go_wp2_with (refine wpList_store_mid rfl 24 (.tmp 4) (.tmp 64) rfl (w.heap.size + 1) 0 #[.string v0, .string v1, .string v2, .string v3, .bool v4, .int .i64 v5, .bool v6, .slice va vn vc, .string v8, .string v9, .bool v10, .bool v11] rfl rfl HR5.out.there (sizeUa (adrOf r) (.slice va vn vc)) hone ?_)
      have hrg := range_row (HR5.out.store (v := adrOf r) (qv := .slice va vn vc))
      have hbl := below_setCells (B := w.heap.size) (b := w.heap.size + 1) (Nat.le_succ _) (adrCells (adrOf r) (.slice va vn vc)) 0 _ HB5.out
      have how := own_cells HO5.out HR5.out (adrCells (adrOf r) (.slice va vn vc)) 0
      refine bodyPost_ret (results_u2 rfl _ _ (w.heap.size + 1) (adrOf r) (.slice va vn vc) rfl ?_) rfl ⟨.slice va vn vc, ?_, ?_, ?_⟩
      ·rw [HXv.out] at hrg ⊢; exact hrg
      ·rw [HN.out]; rfl
      ·rw [HN.out]; rw [HXv.out] at how; exact how
      ·rw [HXv.out] at hbl; exact hbl
     | false =>
      have HNR := hid (HGd.out (by revert hbd; cases sq <;> cases sn <;> cases tw <;> simp) (by revert hbd; cases sq <;> cases sn <;> cases tw <;> simp) (by revert hbd; cases sq <;> cases sn <;> cases tw <;> simp))
      clear hbd
      have c0 := H3.out.cell 0 _ rfl
      have f0 := H3.out.frozen 0
      have y0 : w3.cell? ⟨w.heap.size, 0, none⟩ = some (.string d0) := HD3.out.cell 0 _ (by rw [HXd.out]; rfl)
      obtain ⟨w4, hw4⟩ : ∃ Z, w3.setCell ⟨w.heap.size + 2, 0, none⟩ (.string d0) = Z := ⟨_, rfl⟩
      have HU4 := hid (show AdrIn w4 (w.heap.size + 2) U (.slice none 0 0) by rw [← hw4, HUe.out]; exact H3.out.set 0 _ (by rw [← HE0.out]; rfl))
      have HD4 := hid (show AdrIn w4 w.heap.size B (.slice da dn dc) by rw [← hw4]; exact HD3.out.set_other (by omega) 0 _)
      have HR4 := hid (show AdrIn w4 (w.heap.size + 1) Adr.zero (.slice none 0 0) by rw [← hw4]; exact HR3.out.set_other (by omega) 0 _)
      have HB4 := hid (show Below w.heap.size w w4 by rw [← hw4]; exact HB3.out.setCell (p := ⟨w.heap.size + 2, 0, none⟩) (by show w.heap.size ≤ w.heap.size + 2; omega) _)
      have HNr := hid (rnear_any BB (w.heap.size + 2) U (.slice none 0 0) B (.slice da dn dc) w4 hBs HU4.out (by rw [HUe.out]; exact ⟨rfl, rfl⟩) (by rw [HUe.out]) (by rw [HUe.out]; exact ⟨rfl, rfl, rfl⟩) ⟨_, _, _, rfl⟩ (fun Z hZ => HPa.out.kept (HB4.out.trans (hZ.mono (by omega)))) hPl)
      rw [← HNR.out, HVd.out] at HNr
      obtain ⟨r, hr⟩ : ∃ r, readV s.data.toList (some B) = r := ⟨_, rfl⟩
      rw [hr] at HNr
      have HN := hid hr
      have HEr := hid (show ∀ ee, r = .error ee → ((ee : Int) != 0) = true from fun ee h => err_bne (join_err (hr.trans h)))
      clear hr
      obtain ⟨z0, z1, z2, z3, z4, z5, z6, z7, z8, z9, z10, z11⟩ := adr_twelve HXd.out HD4.out
      go_upto_region 12 with fail
      clear hw4 c0 f0 y0
      go_wp2_with fail
      refine HNr.out.mono ?_
      rintro e w5 ⟨rfl, hb5, h5⟩
      have HR5 := hid (show AdrIn w5 (w.heap.size + 1) Adr.zero (.slice none 0 0) by
       have := HR4.out
       unfold AdrIn at this ⊢
       rw [hb5.block _ (by omega)]; exact this)
      have HB5 := hid (HB4.out.trans (hb5.mono (by omega)))
      have HS4 := hid HB4.out.size
      have H5 := hid h5
      clear hb5 h5 z0 z1 z2 z3 z4 z5 z6 z7 z8 z9 z10 z11 HNr
      cases r with
      | error ee =>
       have hne : ((ee : Int) != 0) = true := HEr.out ee rfl
       rw [show numOf (.error ee) = ee from rfl]
       go_wp2_with (refine wpList_store_mid rfl 24 (.tmp 4) (.tmp 75) rfl (w.heap.size + 1) 0 (adrCells Adr.zero (.slice none 0 0)).toArray rfl rfl HR5.out.there (sizeUa _ _) (all_oneCell_toArray (adrCells_one _ _ ⟨_, _, _, rfl⟩)) ?_)
       refine bodyPost_ret (results_u2 rfl _ _ (w.heap.size + 1) Adr.zero (.slice none 0 0) rfl (range_row HR5.out.store)) rfl ⟨.slice none 0 0, ?_, ?_, below_setCells (Nat.le_succ _) _ _ _ HB5.out⟩
       ·rw [HN.out]; rfl
       ·rw [HN.out]; exact own_nil _ _ _
      | ok V =>
       obtain ⟨pv5, hA5, hO5⟩ := H5.out V rfl
       obtain ⟨va, vn, vc, rfl⟩ := own_sl hO5
       obtain ⟨v0, v1, v2, v3, v4, v5, v6, v8, v9, v10, v11, hxv⟩ := adr_cells V va vn vc
       have HXv := hid hxv
       have HO5 := hid (own_weak hO5 HS4.out)
       rw [show numOf (.ok V) = 0 from rfl]
       obtain ⟨z0, z1, z2, z3, z4, z5, z6, z7, z8, z9, z10, z11⟩ := adr_twelve hxv hA5
       have hone : (#[.string v0, .string v1, .string v2, .string v3, .bool v4, .int .i64 v5, .bool v6, .slice va vn vc, .string v8, .string v9, .bool v10, .bool v11] : Array Value).all (·.oneCell') = true := by
        have := all_oneCell_toArray (adrCells_one V (.slice va vn vc) ⟨_, _, _, rfl⟩)
        rw [hxv] at this
        exact this
       clear hxv hO5 hA5
       go_wp2_with (refine wpList_store_mid rfl 24 (.tmp 4) (.tmp 77) rfl (w.heap.size + 1) 0 #[.string v0, .string v1, .string v2, .string v3, .bool v4, .int .i64 v5, .bool v6, .slice va vn vc, .string v8, .string v9, .bool v10, .bool v11] rfl rfl HR5.out.there (sizeUa V (.slice va vn vc)) hone ?_)
       have hrg := range_row (HR5.out.store (v := V) (qv := .slice va vn vc))
       have hbl := below_setCells (B := w.heap.size) (b := w.heap.size + 1) (Nat.le_succ _) (adrCells V (.slice va vn vc)) 0 _ HB5.out
       have how := own_cells HO5.out HR5.out (adrCells V (.slice va vn vc)) 0
       refine bodyPost_ret (results_u2 rfl _ _ (w.heap.size + 1) V (.slice va vn vc) rfl ?_) rfl ⟨.slice va vn vc, ?_, ?_, ?_⟩
       ·rw [HXv.out] at hrg ⊢; exact hrg
       ·rw [HN.out]; rfl
       ·rw [HN.out]; rw [HXv.out] at how; exact how
       ·rw [HXv.out] at hbl; exact hbl

end Go.Proofs.YtamockkjbkibdaaGreatDoor

namespace Go.Proofs.YtamockkjbkibdaaGreatDoor
open Go.RowKit

theorem list_eq_of {α : Type} {A B : List α} (hl : A.length = B.length) (h : ∀ j (h1 : j < A.length) (h2 : j < B.length), A[j] = B[j]) : A = B :=
 List.ext_getElem hl fun j h1 h2 => h j h1 h2

set_option maxHeartbeats 2000000 in
theorem sameT_any (v1 v2 : Value) (L1 L2 : List (List UInt8)) (w : World) (h1 : TxAt w v1 L1) (h2 : TxAt w v2 L2) (hl1 : L1.length ≤ 1000000) (hl2 : L2.length ≤ 1000000) :
  Calls Tryz.prog 56 #[v1, v2] w fun e w' => e = .returned (.bool (decide (L1 = L2))) ∧ Below w.heap.size w w' := by
 obtain ⟨a1, c1, rfl, hc1, hm1, hv1⟩ := h1.view
 obtain ⟨a2, c2, rfl, hc2, hm2, hv2⟩ := h2.view
 have H1 := hid h1
 have H2 := hid h2
 have V1 := hid hv1
 have V2 := hid hv2
 clear h1 h2 hv1 hv2
 by_cases hl : L1.length = L2.length
 ·have hl' : ((L1.length : Int) == (L2.length : Int)) = true := by rw [beq_iff_eq]; omega
  go_enter Tryz.func56, Tryz.ntmps56
  go_wp2
  go_loopw [5] (fun i wr => ∃ k : Nat, k ≤ L1.length ∧ i = .int .i64 k ∧ (∀ j (h1 : j < L1.length) (h2 : j < L2.length), j < k → L1[j] = L2[j]) ∧ Below w.heap.size w wr) (fun i _ => L1.length - (intOf i).toNat)
  case atStart => exact ⟨0, Nat.zero_le _, rfl, fun j _ _ h => absurd h (by omega), Below.refl _ _⟩
  case round =>
   obtain ⟨k, hk, rfl, hall, hb⟩ := hrel
   have HA := hid hall
   clear hall
   by_cases hlt : k < L1.length
   ·have hlt' : (k : Int) < (L1.length : Int) := by omega
    have hlt2' : (k : Int) < (L2.length : Int) := by omega
    obtain ⟨b1, o1, rfl, e1⟩ := V1.out k hlt
    obtain ⟨b2, o2, rfl, e2⟩ := V2.out k (by omega)
    have f1 : wr.cell? ⟨b1, o1 + k, none⟩ = some (.string ⟨L1[k].toArray⟩) := (hb.cell (World.block_lt_of_cell? w _ e1)).trans e1
    have f2 : wr.cell? ⟨b2, o2 + k, none⟩ = some (.string ⟨(L2[k]'(by omega)).toArray⟩) := (hb.cell (World.block_lt_of_cell? w _ e2)).trans e2
    clear e1 e2
    obtain ⟨x, hx⟩ : ∃ x, x = L1[k] := ⟨_, rfl⟩
    obtain ⟨y, hy⟩ : ∃ y, y = L2[k]'(by omega) := ⟨_, rfl⟩
    rw [← hx] at f1
    rw [← hy] at f2
    have HX := hid hx
    have HY := hid hy
    clear hx hy
    by_cases hxy : x = y
    ·subst hxy
     go_wp2
     go_quiet (fail)
     go_wp2
     go_roundw
     case rel =>
      refine ⟨k + 1, by omega, by go_num, fun j h1 h2 hj => ?_, Go.below_drewN hb _⟩
      by_cases he : j = k
      ·subst he; rw [← HX.out, ← HY.out]
      ·exact HA.out j h1 h2 (by omega)
     case measure => simp [intOf]; omega
    ·have hne : (x == y) = false := by simpa using hxy
     have HN := hid (show ¬ L1 = L2 from fun e => hxy (by rw [HX.out, HY.out]; subst e; rfl))
     go_wp2
     go_quiet (fail)
     go_wp2
     go_ret
     exact ⟨ret_bool (by simp [HN.out]), Go.below_drewN hb _⟩
   ·have HE := hid (show L1 = L2 from list_eq_of hl fun j h1 h2 => HA.out j h1 h2 (by omega))
    go_wp2
    go_ret
    exact ⟨ret_bool (by simp [HE.out]), hb⟩
 ·have hl' : ((L1.length : Int) == (L2.length : Int)) = false := by rw [beq_eq_false_iff_ne]; omega
  have HN := hid (show ¬ L1 = L2 from fun e => hl (by rw [e]))
  go_enter Tryz.func56, Tryz.ntmps56
  go_wp2
  go_ret
  exact ⟨ret_bool (by simp [HN.out]), Below.refl _ _⟩

end Go.Proofs.YtamockkjbkibdaaGreatDoor

namespace Go.Proofs.YtamockkjbkibdaaGreatDoor
open Go.RowKit

theorem path_tx {w : World} {v : Value} {L : List (List UInt8)} (h : PathAt w v L) : TxAt w v L := by
 rcases h with ⟨rfl, rfl⟩ | ⟨b, cap, rfl, h2, h3, h4, h5⟩
 ·exact tx_nil _
 ·exact ⟨some ⟨b, 0, none⟩, cap, rfl, h3, h4, fun j hj => ⟨b, 0, rfl, by rw [Nat.zero_add]; exact h5 j hj⟩⟩

set_option maxHeartbeats 8000000 in
set_option maxRecDepth 100000 in
theorem same3_any (A : Adr) (av bv : Value) (w : World) (ha : PathAt w av A.path) (hb : PathAt w bv A.path) (hl : A.path.length ≤ 1000000) :
  Calls Tryz.prog 19 #[adrVal A av, adrVal A bv] w fun e w' => e = .returned (.bool true) ∧ Below w.heap.size w w' := by
 obtain ⟨ua, un, uc, rfl⟩ := path_sl ha
 obtain ⟨va, vn, vc, rfl⟩ := path_sl hb
 obtain ⟨u0, u1, u2, u3, u4, u5, u6, u8, u9, u10, u11, hxu, hxv⟩ : ∃ u0 u1 u2 u3 u4 u5 u6 u8 u9 u10 u11, adrCells A (.slice ua un uc) = [.string u0, .string u1, .string u2, .string u3, .bool u4, .int .i64 u5, .bool u6, .slice ua un uc, .string u8, .string u9, .bool u10, .bool u11] ∧ adrCells A (.slice va vn vc) = [.string u0, .string u1, .string u2, .string u3, .bool u4, .int .i64 u5, .bool u6, .slice va vn vc, .string u8, .string u9, .bool u10, .bool u11] := ⟨_, _, _, _, _, _, _, _, _, _, _, rfl, rfl⟩
 have hvu : adrVal A (.slice ua un uc) = .agg #[.string u0, .string u1, .string u2, .string u3, .bool u4, .int .i64 u5, .bool u6, .slice ua un uc, .string u8, .string u9, .bool u10, .bool u11] := by unfold adrVal; rw [hxu]
 have hvv : adrVal A (.slice va vn vc) = .agg #[.string u0, .string u1, .string u2, .string u3, .bool u4, .int .i64 u5, .bool u6, .slice va vn vc, .string u8, .string u9, .bool u10, .bool u11] := by unfold adrVal; rw [hxv]
 rw [hvu, hvv]
 obtain ⟨W1, hW1⟩ : ∃ X, (w.alloc (.cells #[.string u0, .string u1, .string u2, .string u3, .bool u4, .int .i64 u5, .bool u6, .slice ua un uc, .string u8, .string u9, .bool u10, .bool u11] 24)) = X := ⟨_, rfl⟩
 have hbW1 : Below w.heap.size w W1 := by rw [← hW1]; exact (Below.refl _ w).alloc (Nat.le_refl _) _
 have hsW1 : W1.heap.size = w.heap.size + 1 := by rw [← hW1]; simp
 have hAW1 : AdrIn W1 w.heap.size A (.slice ua un uc) := by
  unfold AdrIn
  rw [hxu, ← hW1]
  exact heap_alloc_new w _
 obtain ⟨W2, hW2⟩ : ∃ X, (W1.alloc (.cells #[.string u0, .string u1, .string u2, .string u3, .bool u4, .int .i64 u5, .bool u6, .slice va vn vc, .string u8, .string u9, .bool u10, .bool u11] 24)) = X := ⟨_, rfl⟩
 have hbW2 : Below W1.heap.size W1 W2 := by rw [← hW2]; exact (Below.refl _ W1).alloc (Nat.le_refl _) _
 have hsW2 : W2.heap.size = W1.heap.size + 1 := by rw [← hW2]; simp
 have hAW2 : AdrIn W2 W1.heap.size A (.slice va vn vc) := by
  unfold AdrIn
  rw [hxv, ← hW2]
  exact heap_alloc_new W1 _
 have HSm := hid (fun (Z : World) (hZ : Below W2.heap.size W2 Z) => sameT_any (.slice ua un uc) (.slice va vn vc) A.path A.path Z (path_tx (((ha.kept hbW1).kept hbW2).kept hZ)) (path_tx (((hb.kept hbW1).kept hbW2).kept hZ)) hl hl)
 rw [show decide (A.path = A.path) = true by simp] at HSm
 have HBW := hid (below2 hbW1 hbW2)
 have hAW1' := hAW1.kept hbW2
 rw [hsW1] at hAW2
 have HCu := hid (fun (Z : World) (hZ : Below W2.heap.size W2 Z) => adr_twelve hxu (hAW1'.kept hZ))
 have HCv := hid (fun (Z : World) (hZ : Below W2.heap.size W2 Z) => adr_twelve hxv (hAW2.kept hZ))
 have HQ0 := hid ((Below.refl W2.heap.size W2).drew)
 clear hAW1 hAW1' hAW2 hxu hxv hvu hvv hbW1 hbW2 ha hb hl
 go_enter Tryz.func19, Tryz.ntmps19
 obtain ⟨y0, y1, y2, y3, y4, y5, y6, y7, y8, y9, y10, y11⟩ := HCu.out W2 (Below.refl _ _)
 obtain ⟨z0, z1, z2, z3, z4, z5, z6, z7, z8, z9, z10, z11⟩ := HCv.out W2 (Below.refl _ _)
 go_wp2_with fail
 refine (HSm.out _ (Below.refl _ _)).mono ?_
 rintro e w3 ⟨rfl, hb3⟩
 clear y0 z0 y1 z1 y2 z2 y3 z3 y4 z4 y5 z5 y6 z6 y7 z7 y8 z8 y9 z9 y10 z10 y11 z11
 obtain ⟨y0, y1, y2, y3, y4, y5, y6, y7, y8, y9, y10, y11⟩ := HCu.out w3 hb3
 obtain ⟨z0, z1, z2, z3, z4, z5, z6, z7, z8, z9, z10, z11⟩ := HCv.out w3 hb3
 go_wp2
 go_ret
 exact ⟨by simp, below2 HBW.out hb3⟩

end Go.Proofs.YtamockkjbkibdaaGreatDoor
