/- Walks and plain facts. -/
import Derived.Test.YtooihpkoplgmbaaGreatDoorProg
import Derived.Test.YtooihpkoplgmbaaGreatDoorQg1
import Derived.Test.YtooihpkoplgmbaaGreatDoorQg2
import Derived.Test.YtooihpkoplgmbaaGreatDoorQg3
import Derived.Test.YtooihpkoplgmbaaGreatDoorQg4
import Derived.Test.YtooihpkoplgmbaaGreatDoorQg5
import Derived.Test.YtooihpkoplgmbaaGreatDoorQg6
import Derived.Test.YtooihpkoplgmbaaGreatDoorQg7
import Derived.Test.YtooihpkoplgmbaaGreatDoorQg8
import Derived.Test.YtooihpkoplgmbaaGreatDoorQg9
import Derived.Test.YtooihpkoplgmbaaGreatDoorQg10
import Derived.Test.YtooihpkoplgmbaaGreatDoorQg11
import Derived.Test.YtooihpkoplgmbaaGreatDoorQg12
import Derived.Test.YtooihpkoplgmbaaGreatDoorQg13
import Derived.Test.YtooihpkoplgmbaaGreatDoorQg14
import Derived.Test.YtooihpkoplgmbaaGreatDoorQg15
import Derived.Test.YtooihpkoplgmbaaGreatDoorQg16
import Derived.Test.YtooihpkoplgmbaaGreatDoorQg17
import Derived.Test.YtooihpkoplgmbaaGreatDoorQg18
import Derived.Test.YtooihpkoplgmbaaGreatDoorQg19
import Derived.Test.YtooihpkoplgmbaaGreatDoorQg20
import Derived.Test.YtooihpkoplgmbaaGreatDoorQg21
import Derived.Test.YtooihpkoplgmbaaGreatDoorQg22
import Derived.Test.YtooihpkoplgmbaaGreatDoorQg23
import Derived.Test.YtooihpkoplgmbaaGreatDoorQg24
import Derived.Test.YtooihpkoplgmbaaGreatDoorQg25
import Derived.Test.YtooihpkoplgmbaaGreatDoorQg26
import Derived.Test.YtooihpkoplgmbaaGreatDoorQg27
import Derived.Test.YtooihpkoplgmbaaGreatDoorQg28
import Derived.Test.YtooihpkoplgmbaaGreatDoorQg29
import Derived.Test.YtooihpkoplgmbaaGreatDoorQg30
import Derived.Test.YtooihpkoplgmbaaGreatDoorQg31
import Derived.Test.YtooihpkoplgmbaaGreatDoorQg32
import Derived.Test.YtooihpkoplgmbaaGreatDoorQg33
import Derived.Test.YtooihpkoplgmbaaGreatDoorQg34
import Derived.Test.YtooihpkoplgmbaaGreatDoorQg35
import Derived.Test.YtooihpkoplgmbaaGreatDoorQg36
import Derived.Laws.RangeAny
import Derived.Lib.DecodeN
import Derived.Lib.OthersKept
import Derived.Lib.IndexBytes
import Derived.Deep.LoopGhost
import Derived.RegionTactic
import Derived.Deep.RegionWith
import Derived.Deep.QuietTactic
import Derived.BigQuiet
import Derived.Laws.Runes
import Derived.Deep.WholeRow
import Derived.Below
import Derived.WalkSmall
import Derived.Laws.OwnMore
import Derived.Deep.RegionHeld
import Derived.Deep.RegionHeldLaw
import Derived.BigRegion
import Derived.Laws.AppendOwn
import Derived.Lib.AppendStr
import Derived.Lib.AppendIntMem
import Derived.Laws.AppendOwnNone
import Derived.Deep.RegionLaw
import Derived.Deep.Cut
import Derived.Deep.CutRange
import Derived.Lib.IndexMore
import Derived.Lib.Join
import Derived.Lib.LastIndexByte
import Derived.WalkKit
import Derived.WalkSpells
import Derived.WalkLawsBesides
import Derived.Laws.CopyOwn
import Derived.Laws.ResultCell
import Derived.Deep.MidRow
import Derived.Lib.LaidTab
import Derived.Lib.SmallJoins
import Derived.Laws.BitsAll
import Derived.Lib.FieldsP
import Derived.Shelf.GgClosure.GivesRunes
import Derived.Lib.Strings
import Derived.Lib.UnsafeStr
import Derived.Laws.IdiomStrings
import Derived.Laws.BitsAllLaws
import Derived.Lib.Bytealg
import Derived.Lib.BufferMore
import Derived.Lib.BufferRead
import Derived.Lib.RuneBytes
import Derived.LoopN
import Derived.OwnWalk
import Derived.Shelf.Strings.Builder1
import Derived.Shelf.Strings.Builder2
import Derived.Shelf.Strings.OnBuilder
import Derived.Shelf.Strings.Trim
import Derived.Shelf.Small.Utf8
import Derived.Shelf.Small.Bits
import Derived.Shelf.Small.Strs
import Derived.Shelf.Small.Wraps
import Derived.Shelf.Strings.BuilderF
import Derived.Shelf.Strings.BuilderK
import Derived.Shelf.Utf8.RuneCount
import Derived.Shelf.Strings.Builder2Cap
import Derived.Shelf.Strconv.Itoa0
import Derived.Shelf.Strconv.Itoa1
import Derived.Shelf.LaysM
import Derived.Shelf.Strconv.Itoa2
import Derived.Shelf.Strconv.Itoa3
import Derived.Shelf.Strings.Search1
import Derived.Shelf.Strings.Search2
import Derived.Shelf.Strings.Search3
import Derived.Shelf.Strings.Cut
import Derived.Shelf.Strings.Count
import Derived.Shelf.Strings.Shaped
import Derived.Shelf.Sort.Plain
import Derived.Shelf.Strings.LastIndex
import Derived.Shelf.Strings.Prefix
import Derived.Shelf.Strings.Split
import Derived.Shelf.Strings.Replace
import Derived.Shelf.Strings.SplitShaped
import Derived.Shelf.Unicode.Decode
import Derived.Shelf.Strings.Runes
import Derived.Shelf.Strings.RuneCount
import Derived.Shelf.Strings.IndexAny
import Derived.Shelf.Strings.AsciiSet
import Derived.Shelf.Strings.IndexAnyAll
import Derived.Shelf.Strings.Explode
import Derived.Shelf.Unicode.DecodeSlow
import Derived.Shelf.Unicode.DecodeAny
import Derived.Shelf.Unicode.DecodeLast
import Derived.Shelf.Strings.FieldsFuncAny
import Derived.Shelf.Strings.FieldsFuncGrows
import Derived.Shelf.Slices.Equal
import Derived.Ground.Names2Prog
import Derived.Shelf.Slices.Clone
import Derived.Shelf.Slices.CompactS
import Derived.Shelf.Slices.Cells
import Derived.Shelf.Slices.In.SortNone
import Derived.Ground.SlgnProg
import Derived.Shelf.SlicesE.Equal
import Derived.Shelf.SlicesE.Clone
import Derived.Scope
import Derived.ScopeJumps
import Derived.WalkMore
import Derived.Lib.IndexAny
import Derived.Lib.Replace
import Derived.Lib.TrimByte
import Derived.Lib.ItoaNum
import Derived.Laws.BytesString
import Derived.Lib.FrozenHead2
import Derived.Lib.Builder
import Derived.Lib.SlTrimSet
import Derived.Shelf.Strings.SlTrimAscii
import Derived.Shelf.Spec.SearchS
import Derived.Sort.Walk0
import Derived.Sort.OwnSorted
import Derived.Laws.EntriesVeiled
import Derived.Deep.CutBlock
set_option linter.unusedSimpArgs false
set_option linter.unusedVariables false
set_option maxHeartbeats 16000000
set_option maxRecDepth 100000

namespace Go.Proofs.YtooihpkoplgmbaaGreatDoor
open Go.RowKit
def sDS : List UInt8 := [100, 101, 102, 97, 117, 108, 116, 45, 115, 114, 99, 32, 39, 110, 111, 110, 99, 101, 45]
def sDS1 : List UInt8 := [100, 101, 102, 97, 117, 108, 116, 45, 115, 114, 99]
def sNo : List UInt8 := [39, 110, 111, 110, 99, 101, 45]
def sSh : List UInt8 := [39, 115, 104, 97, 50, 53, 54, 45]
def sMid : List UInt8 := [39, 32, 39, 115, 104, 97, 50, 53, 54, 45]
def sS25 : List UInt8 := [115, 104, 97, 50, 53, 54, 45]
def srcA (T : List UInt8) : List UInt8 := sNo ++ T ++ [39]
def srcB (T : List UInt8) : List UInt8 := sSh ++ T ++ [39]
def polT (T : List UInt8) : List UInt8 := sDS ++ T ++ sMid ++ T ++ [39]
theorem wrd_byte {T : List UInt8} (h : Wrd T) : ∀ c ∈ T, bl9 c = false /\ c ≠ 59 /\ c ≠ 45 /\ c ≠ 63 := by
 intro c hc
 have h1 := wrd_mem h hc
 have key : ∀ n < 256, (!(decide (97 <= n) && decide (n <= 122)) || (bl9 (UInt8.ofNat n) == false && UInt8.ofNat n != 59 && UInt8.ofNat n != 45 && UInt8.ofNat n != 63)) = true := by decide +kernel
 have := key c.toNat c.toNat_lt
 rw [show UInt8.ofNat c.toNat = c by simp, decide_eq_true h1.1, decide_eq_true h1.2] at this
 simp only [Bool.and_self, Bool.not_true, Bool.false_or, Bool.and_eq_true, beq_iff_eq, bne_iff_ne] at this
 exact ⟨this.1.1.1, this.1.1.2, this.1.2, this.2⟩
theorem wds_word (x r : List UInt8) (h : x ≠ []) (hb : ∀ c ∈ x, bl9 c = false) : wdsF (x ++ 32 :: r) [] = x :: wdsF r [] := by
 rw [wds_skip x (32 :: r) [] hb, List.nil_append, wdsF, if_pos (by decide), if_neg h]
theorem wds_last (x : List UInt8) (h : x ≠ []) (hb : ∀ c ∈ x, bl9 c = false) : wdsF x [] = [x] := by
 have := wds_skip x [] [] hb
 rw [List.append_nil, List.nil_append] at this
 rw [this, wdsF, if_neg h]
theorem ds_byte : ∀ c ∈ sDS1, bl9 c = false /\ c ≠ 59 := by decide
theorem no_byte : ∀ c ∈ sNo, bl9 c = false /\ c ≠ 59 := by decide
theorem sh_byte : ∀ c ∈ sSh, bl9 c = false /\ c ≠ 59 := by decide
theorem s25_byte : ∀ c ∈ sS25, bl9 c = false /\ c ≠ 63 := by decide
theorem src_byte {P T : List UInt8} (hP : ∀ c ∈ P, bl9 c = false /\ c ≠ 59) (h : Wrd T) : ∀ c ∈ P ++ T ++ [39], bl9 c = false /\ c ≠ 59 := by
 intro c hc
 rcases List.mem_append.1 hc with hc | hc
 ·rcases List.mem_append.1 hc with hc | hc
  ·exact hP c hc
  ·exact ⟨(wrd_byte h c hc).1, (wrd_byte h c hc).2.1⟩
 ·rw [List.mem_singleton.1 hc]; decide
theorem polT_form (T : List UInt8) : polT T = sDS1 ++ 32 :: (srcA T ++ 32 :: srcB T) := by
 unfold polT srcA srcB
 rw [show sDS = sDS1 ++ 32 :: sNo from rfl, show sMid = 39 :: 32 :: sSh from rfl]
 simp
theorem pol_words {T : List UInt8} (h : Wrd T) : words9 (polT T) = [sDS1, srcA T, srcB T] := by
 unfold words9
 rw [polT_form, wds_word sDS1 _ (by decide) (fun c hc => (ds_byte c hc).1), wds_word (srcA T) _ (by unfold srcA sNo; simp) (fun c hc => (src_byte no_byte h c hc).1), wds_last (srcB T) (by unfold srcB sSh; simp) (fun c hc => (src_byte sh_byte h c hc).1)]
theorem pol_no59 {T : List UInt8} (h : Wrd T) : (59 : UInt8) ∉ polT T := by
 rw [polT_form]
 intro hm
 rcases List.mem_append.1 hm with hm | hm
 ·exact (ds_byte 59 hm).2 rfl
 ·rcases List.mem_cons.1 hm with hm | hm
  ·exact absurd hm (by decide)
  ·rcases List.mem_append.1 hm with hm | hm
   ·exact (src_byte no_byte h 59 hm).2 rfl
   ·rcases List.mem_cons.1 hm with hm | hm
    ·exact absurd hm (by decide)
    ·exact (src_byte sh_byte h 59 hm).2 rfl
theorem pol_nonces {T : List UInt8} (h : Wrd T) : polV (polT T) = [⟨nDe, [srcA T, srcB T]⟩] := by
 unfold polV
 rw [pcV_none 59 _ (pol_no59 h)]
 show polF [polT T] [] = _
 rw [polF, if_neg (by simp), polF]
 unfold addR ruleV
 rw [pol_words h]
 rfl
theorem one_srcA (u p : Adr) (hops : Int) (T : List UInt8) : oneV u p hops (srcA T) = false := by
 unfold oneV wordR
 rw [if_neg (by unfold srcA sNo; simp), if_neg ?_]
 ·have : Lib.hasPrefix (srcA T) [39] = true := by unfold srcA sNo; simp [Lib.hasPrefix, List.isPrefixOf]
  rw [this]; rfl
 ·intro e
  have e2 : (low (srcA T))[1]? = tSelf[1]? := by rw [e]
  have e3 : (low (srcA T))[1]? = some 110 := rfl
  rw [e3] at e2
  exact absurd e2 (by decide)
theorem one_srcB (u p : Adr) (hops : Int) (T : List UInt8) : oneV u p hops (srcB T) = false := by
 unfold oneV wordR
 rw [if_neg (by unfold srcB sSh; simp), if_neg ?_]
 ·have : Lib.hasPrefix (srcB T) [39] = true := by unfold srcB sSh; simp [Lib.hasPrefix, List.isPrefixOf]
  rw [this]; rfl
 ·intro e
  have e2 : (low (srcB T))[2]? = tSelf[2]? := by rw [e]
  have e3 : (low (srcB T))[2]? = some 104 := rfl
  rw [e3] at e2
  exact absurd e2 (by decide)
theorem line_srcA {T : List UInt8} : lineO (srcA T) = some (srcA T) := by
 have hp : part 45 (srcA T) = ([39, 110, 111, 110, 99, 101], T ++ [39], true) := by
  have := part_some 45 [39, 110, 111, 110, 99, 101] (T ++ [39]) (by decide)
  unfold srcA
  rw [List.append_assoc]
  exact this
 unfold lineO lineV
 rw [hp]
 show some (low [39, 110, 111, 110, 99, 101] ++ 45 :: (T ++ [39])) = _
 rw [show low [39, 110, 111, 110, 99, 101] = [39, 110, 111, 110, 99, 101] by decide]
 unfold srcA
 rw [List.append_assoc]
 rfl
theorem line_srcB {T : List UInt8} : lineO (srcB T) = some (srcB T) := by
 have hp : part 45 (srcB T) = ([39, 115, 104, 97, 50, 53, 54], T ++ [39], true) := by
  have := part_some 45 [39, 115, 104, 97, 50, 53, 54] (T ++ [39]) (by decide)
  unfold srcB
  rw [List.append_assoc]
  exact this
 unfold lineO lineV
 rw [hp]
 show some (low [39, 115, 104, 97, 50, 53, 54] ++ 45 :: (T ++ [39])) = _
 rw [show low [39, 115, 104, 97, 50, 53, 54] = [39, 115, 104, 97, 50, 53, 54] by decide]
 unfold srcB
 rw [List.append_assoc]
 rfl
theorem txts_srcs (T : List UInt8) : txtsV [srcA T, srcB T] = [srcA T, srcB T] := by
 unfold txtsV
 rw [List.filterMap_cons, line_srcA, List.filterMap_cons, line_srcB]
 rfl
theorem item_sha {T : List UInt8} (h : Wrd T) : parse9 (sS25 ++ T) = [⟨256, T, []⟩] := by
 have hb : ∀ c ∈ sS25 ++ T, bl9 c = false /\ c ≠ 63 := fun c hc => by
  rcases List.mem_append.1 hc with hc | hc
  ·exact s25_byte c hc
  ·exact ⟨(wrd_byte h c hc).1, (wrd_byte h c hc).2.2.2⟩
 have h63 : (63 : UInt8) ∉ sS25 ++ T := fun hm => (hb 63 hm).2 rfl
 have hq : part9 63 (sS25 ++ T) = (sS25 ++ T, [], false) := part_none9 63 _ h63
 have hp : part9 45 (sS25 ++ T) = ([115, 104, 97, 50, 53, 54], T, true) := part_some9 45 [115, 104, 97, 50, 53, 54] T (by decide)
 unfold parse9 words9
 rw [wds_last _ (by unfold sS25; simp) (fun c hc => (hb c hc).1), List.filterMap_cons, List.filterMap_nil]
 unfold itemV okV9 nameV9 wantV9 optV9
 rw [hq, hp]
 rfl
theorem sha_item (T : List UInt8) : shaV ⟨256, T, []⟩ = srcB T := by
 unfold shaV srcB
 rw [show Lib.itoa 256 = [50, 53, 54] by decide +kernel]
 rfl
theorem named_none12 (L : List (List UInt8)) : namedV L [] [] = false := by unfold namedV; rfl
theorem named_nonce {T : List UInt8} (h : Wrd T) : namedV [srcA T, srcB T] T [] = true := by
 unfold namedV
 rw [txts_srcs]
 have h1 : (!T.isEmpty) = true := by
  cases T with
  | nil => exact absurd rfl h.1
  | cons a b => rfl
 have h2 : [srcA T, srcB T].contains (nonV T) = true := by
  rw [List.contains_iff_mem]
  exact List.mem_cons_self
 rw [h1, h2]; rfl
theorem named_sha {T : List UInt8} (h : Wrd T) : namedV [srcA T, srcB T] [] (sS25 ++ T) = true := by
 unfold namedV digsV
 rw [txts_srcs, item_sha h]
 have h2 : [srcA T, srcB T].contains (srcB T) = true := by
  rw [List.contains_iff_mem]
  exact List.mem_cons_of_mem _ List.mem_cons_self
 simp only [List.any_cons, List.any_nil, sha_item, h2]
 rfl
theorem vals_de (L : List (List UInt8)) (dt : Int) (h : 1 <= dt /\ dt <= 6) : valsV [⟨nDe, L⟩] (forV dt) = some (L, nDe) := by
 rcases (show dt = 1 ∨ dt = 2 ∨ dt = 3 ∨ dt = 4 ∨ dt = 5 ∨ dt = 6 by omega) with rfl | rfl | rfl | rfl | rfl | rfl <;> rfl
theorem brk_srcs (T : List UInt8) (u p : Adr) (dt hops : Int) (n m : List UInt8) (h : 1 <= dt /\ dt <= 6) : brkV [⟨nDe, [srcA T, srcB T]⟩] u p dt hops n m = if namedV [srcA T, srcB T] n m then none else some nDe := by
 unfold brkV
 rw [vals_de _ dt h]
 refine brkO_some _ _ _ _ _ _ _ _ ?_
 simp only [List.any_cons, List.any_nil, one_srcA, one_srcB, Bool.or_false, Bool.false_or]
theorem chk_srcs {T : List UInt8} (u p : Adr) (dt hops : Int) (n m : List UInt8) (h : 1 <= dt /\ dt <= 6) : chkW [([⟨nDe, [srcA T, srcB T]⟩], false)] u p dt hops n m = if namedV [srcA T, srcB T] (if dt = 2 ∨ dt = 3 then n else []) (if dt = 2 ∨ dt = 3 then m else []) then [] else [⟨0, nDe, toldV12 u p, false⟩] := by
 unfold chkW
 generalize (if dt = 2 ∨ dt = 3 then n else []) = N
 generalize (if dt = 2 ∨ dt = 3 then m else []) = M
 rw [List.zipIdx_cons, List.zipIdx_nil, List.flatMap_cons, List.flatMap_nil, List.append_nil, brk_srcs T u p dt hops _ _ h]
 generalize namedV [srcA T, srcB T] N M = q
 cases q <;> rfl
theorem nonces_len {T : List UInt8} (h : Wrd T) (u p : Adr) (dt hops : Int) (hd : 1 <= dt /\ dt <= 6) :
  (chkW [([⟨nDe, [srcA T, srcB T]⟩], false)] u p dt hops [] []).length = 1 /\
  (chkW [([⟨nDe, [srcA T, srcB T]⟩], false)] u p dt hops T []).length = (if dt = 2 ∨ dt = 3 then 0 else 1) /\
  (chkW [([⟨nDe, [srcA T, srcB T]⟩], false)] u p dt hops [] (sS25 ++ T)).length = (if dt = 2 ∨ dt = 3 then 0 else 1) := by
 rw [chk_srcs u p dt hops _ _ hd, chk_srcs u p dt hops _ _ hd, chk_srcs u p dt hops _ _ hd]
 by_cases hc : dt = 2 ∨ dt = 3
 ·simp only [if_pos hc, named_none12, named_nonce h, named_sha h]
  exact ⟨rfl, rfl, rfl⟩
 ·simp only [if_neg hc, named_none12]
  exact ⟨rfl, rfl, rfl⟩
def PB : List UInt8 := [100, 101, 102, 97, 117, 108, 116, 45, 115, 114, 99, 32, 104, 116, 116, 112, 115, 58, 47, 47, 98, 46, 99, 111, 109]
theorem pb_pol : polV PB = [⟨nDe, [[104, 116, 116, 112, 115, 58, 47, 47, 98, 46, 99, 111, 109]]⟩] := by decide +kernel
theorem pb_one : oneV (adrOf (urlV [104, 116, 116, 112, 115, 58, 47, 47, 98, 46, 99, 111, 109, 47, 120])) pageP 0 [104, 116, 116, 112, 115, 58, 47, 47, 98, 46, 99, 111, 109] = true := by decide +kernel
theorem pb_none (dt : Int) (n m : List UInt8) (h : 1 <= dt /\ dt <= 6) : chkW [(polV PB, false)] (adrOf (urlV [104, 116, 116, 112, 115, 58, 47, 47, 98, 46, 99, 111, 109, 47, 120])) pageP dt 0 n m = [] := by
 unfold chkW
 rw [List.zipIdx_cons, List.zipIdx_nil, List.flatMap_cons, List.flatMap_nil, List.append_nil, pb_pol]
 unfold brkV
 rw [vals_de _ dt h, brkO_some _ _ _ _ _ _ _ true (by simp only [List.any_cons, List.any_nil, pb_one, Bool.true_or])]
 rfl
def PlO (w : World) (v : Value) (Ps : List (List Ru × Bool)) : Prop := ∃ P, w.ownsRow 0 24 2 v Ps.length (cellsP P) /\ RdP w 0 P Ps
theorem PlO.pl {w : World} {v : Value} {Ps : List (List Ru × Bool)} (h : PlO w v Ps) : PlAt w v Ps := by
 obtain ⟨P, h1, h2⟩ := h
 exact own_pl h1 h2
theorem PlO.keptB {w w' : World} {v : Value} {Ps : List (List Ru × Bool)} (h : PlO w v Ps) (hk : ∀ (k : Nat) (cur : Array Value) (T : TypeId) (fz : Nat × Nat), w.heap[k]? = some (Obj.cells cur T fz) -> (T = 24 ∨ T = 67 ∨ T = 9) -> w'.heap[k]? = w.heap[k]?) : PlO w' v Ps := by
 obtain ⟨P, h1, h2⟩ := h
 refine ⟨P, ownsRow_same h1 fun g hg => ?_, h2.keptB fun k cur T fz hc hT => hk k cur T fz hc (.inr hT)⟩
 obtain ⟨cur, hc⟩ := ownsRow_kind h1 g hg
 exact hk _ _ _ _ hc (.inl rfl)
theorem PlO.kept {w w' : World} {v : Value} {Ps : List (List Ru × Bool)} (h : PlO w v Ps) (hb : Below w.heap.size w w') : PlO w' v Ps := h.keptB fun k _ _ _ hk _ => hb.block k (Array.getElem?_eq_some_iff.1 hk).1
theorem PlO.set {w : World} {v : Value} {Ps : List (List Ru × Bool)} (h : PlO w v Ps) {b : Nat} {cur : Array Value} {fz : Nat × Nat} (hb : w.heap[b]? = some (Obj.cells cur 33 fz)) (j : Nat) (x : Value) : PlO (w.setCell ⟨b, j, none⟩ x) v Ps := h.keptB fun k c2 T f2 hk hT => by
 refine heap_setCell_other _ ⟨b, j, none⟩ k _ (fun e => ?_)
 have e : k = b := e
 subst e
 rw [hb] at hk
 injection hk with hk
 injection hk with _ hk _
 rcases hT with rfl | rfl | rfl
 ·exact absurd hk (by decide)
 ·exact absurd hk (by decide)
 ·exact absurd hk (by decide)
def Ltr (T : List UInt8) : Prop := T.all (fun c => decide (97 <= c.toNat) && decide (c.toNat <= 122)) = true
theorem ltr_wrd {T : List UInt8} (h : Ltr T) : Wrd (T ++ [113]) := ⟨by simp, by rw [List.all_append, h]; decide⟩
theorem word_app12 (s : ByteArray) (k : Nat) (h : k < s.size) (T : List UInt8) : (⟨T.toArray⟩ : ByteArray) ++ s.extract k (k + 1) = ⟨(T ++ [s[k]]).toArray⟩ := by
 refine xext ?_
 rw [ByteArray.data_append, Array.toList_append, Lib.extract_data, show k + 1 - k = 1 by omega, drop_cons s k h]
 rfl
theorem PLO12 {w0 w : World} (L : List Ru) (rp : Bool) {v : Value} {Q : List (ByteArray × Value)} (h : w.ownsRow w0.heap.size 67 2 v L.length (cellsR Q)) (hr : RdO w w0.heap.size Q L) : PlO (w.alloc (.cells #[v, .bool rp] 24)) (.slice (some ⟨w.heap.size, 0, none⟩) 1 1) [(L, rp)] := by
 have hb := (Below.refl w.heap.size w).alloc (Nat.le_refl _) (.cells #[v, .bool rp] 24)
 refine ⟨[(v, rp)], World.ownsRow_lit w #[v, .bool rp] 1 (Nat.zero_le _) (by decide) rfl, (RdP.one ?_).low (Nat.zero_le w0.heap.size)⟩
 have ho : OnR w w0.heap.size v L := ⟨Q, h, hr⟩
 exact ho.keptB fun k _ _ _ hk _ => hb.block k (Array.getElem?_eq_some_iff.1 hk).1
theorem app_ba (a b : ByteArray) : (a ++ b).data.toList = a.data.toList ++ b.data.toList := by rw [ByteArray.data_append, Array.toList_append]
theorem guardNonces_walk (s : ByteArray) (dest : Int) (w : World) (hs : s.size <= 140737488351232) (hd : (Lit.int .i64 dest).wf = true) (hg : Gd w) :
  Calls Tryz.prog 5 #[.string s, .int .i64 dest] w fun e w' => e = .returned (.bool true) /\ Below w.heap.size w w' := by
 have HG := hid hg
 have hd2 := bounds_i64 hd
 have hwb := withinI_bounds dest 0 5 (by omega)
 obtain ⟨k0, hk0⟩ : ∃ k, withinI dest 0 5 = k := ⟨_, rfl⟩
 have HWi := hid (fun (Z : World) => within_any dest 0 5 Z hd2.1 hd2.2 (by omega) (by omega) (by omega))
 rw [hk0] at HWi hwb
 obtain ⟨dt, hdt⟩ : ∃ d, 1 + k0 = d := ⟨_, rfl⟩
 have hdr : 1 <= dt /\ dt <= 6 := by omega
 clear hd hg hd2 hk0 hwb
 go_enter Tryz.func5, Tryz.ntmps5
 go_upto_block 0 with fail
 go_cut [5] from 14 to 41 (fun x wx => ∃ T : List UInt8, x = .string ⟨T.toArray⟩ /\ Hid (Ltr T /\ T.length <= 12) /\ wx = w)
 case first =>
  go_wp2_with fail
  go_loop [5, 6] (fun o i => ∃ (k : Nat) (T : List UInt8), k <= s.size /\ i = .int .i64 k /\ o = .string ⟨T.toArray⟩ /\ Hid (Ltr T) /\ T.length <= 12) (fun o i => s.size - (intOf i).toNat)
  case atStart => exact ⟨0, [], Nat.zero_le _, rfl, rfl, rfl, by decide⟩
  case round =>
   obtain ⟨k, T, hk, rfl, rfl, HT, hTl⟩ := hrel
   by_cases hlt : k < s.size
   ·have hlt' : (k : Int) < (s.size : Int) := by omega
    have HW := hid (word_app12 s k hlt T)
    by_cases h12 : T.length < 12
    ·have h12' : (T.length : Int) < 12 := by omega
     have hb := s[k].toNat_lt
     by_cases ha : 97 <= s[k].toNat
     ·by_cases hz : s[k].toNat <= 122
      ·have hwk : k + 1 <= s.size := by omega
       have HN := hid (show Ltr (T ++ [s[k]]) by unfold Ltr; rw [List.all_append, HT.out]; simp [ha, hz])
       go_wp2
       go_round
       case rel => exact ⟨k + 1, T ++ [s[k]], by omega, by go_num, by rw [HW.out], HN.out, by simp; omega⟩
       case measure => simp [intOf]; omega
      ·go_wp2
       go_round
       case rel => exact ⟨k + 1, T, by omega, by go_num, rfl, HT.out, hTl⟩
       case measure => simp [intOf]; omega
     ·have ha' : decide ((97 : Int) <= (s[k].toNat : Int)) = false := by rw [decide_eq_false_iff_not]; omega
      go_wp2
      go_round
      case rel => exact ⟨k + 1, T, by omega, by go_num, rfl, HT.out, hTl⟩
      case measure => simp [intOf]; omega
    ·go_wp2
     go_meet
     exact ⟨T, rfl, ⟨HT.out, hTl⟩, rfl⟩
   ·have hlt' : decide ((k : Int) < (s.size : Int)) = false := by rw [decide_eq_false_iff_not]; omega
    go_wp2
    go_meet
    exact ⟨T, rfl, ⟨HT.out, hTl⟩, rfl⟩
 case rest =>
  obtain ⟨T0, rfl, HT0, hwx⟩ := hcut
  have hwx := hwx.symm
  subst hwx
  have hT0l : T0.length <= 12 := HT0.out.2
  obtain ⟨T, hT⟩ : ∃ T, T0 ++ [113] = T := ⟨_, rfl⟩
  have hWT : Wrd T := by rw [<- hT]; exact ltr_wrd HT0.out.1
  have hTL : T.length <= 13 := by rw [<- hT, List.length_append]; have := HT0.out.2; simp; omega
  obtain ⟨N, hN⟩ : ∃ B : ByteArray, (⟨T0.toArray⟩ : ByteArray) ++ ⟨#[113]⟩ = B := ⟨_, rfl⟩
  have hNl : N.data.toList = T := by rw [<- hN, app_ba, <- hT]
  have hNs : N.size <= 1000000 := by rw [Lib.size_eq, hNl]; omega
  have HN := hid hN
  have HAk := hid (fun (Z : World) => ask12_any (⟨#[104, 116, 116, 112, 115, 58, 47, 47, 98, 46, 99, 111, 109, 47, 120]⟩ : ByteArray) dt Z (by decide))
  unfold AkPost at HAk
  rw [show (⟨#[104, 116, 116, 112, 115, 58, 47, 47, 98, 46, 99, 111, 109, 47, 120]⟩ : ByteArray).data.toList = [104, 116, 116, 112, 115, 58, 47, 47, 98, 46, 99, 111, 109, 47, 120] from rfl] at HAk
  obtain ⟨PT, hPT⟩ : ∃ B : ByteArray, (⟨#[100, 101, 102, 97, 117, 108, 116, 45, 115, 114, 99, 32, 39, 110, 111, 110, 99, 101, 45]⟩ : ByteArray) ++ N ++ (⟨#[39, 32, 39, 115, 104, 97, 50, 53, 54, 45]⟩ : ByteArray) ++ N ++ ⟨#[39]⟩ = B := ⟨_, rfl⟩
  have hPl : PT.data.toList = polT T := by
   rw [<- hPT, app_ba, app_ba, app_ba, app_ba, hNl]
   rfl
  have hPs : PT.size <= 1000000 := by rw [Lib.size_eq, hPl]; unfold polT sDS sMid; simp; omega
  obtain ⟨MB, hMB⟩ : ∃ B : ByteArray, (⟨#[115, 104, 97, 50, 53, 54, 45]⟩ : ByteArray) ++ N = B := ⟨_, rfl⟩
  have hMl : MB.data.toList = sS25 ++ T := by rw [<- hMB, app_ba, hNl]; rfl
  have hMs : MB.size <= 1000000 := by rw [Lib.size_eq, hMl]; unfold sS25; simp; omega
  have HPT := hid hPT
  have HMB := hid hMB
  have HP1 := hid (fun (Z : World) => parse10 PT false Z (by omega))
  have HP2 := hid (fun (Z : World) => parse10 (⟨#[100, 101, 102, 97, 117, 108, 116, 45, 115, 114, 99, 32, 104, 116, 116, 112, 115, 58, 47, 47, 98, 46, 99, 111, 109]⟩ : ByteArray) false Z (by decide))
  rw [show (⟨#[100, 101, 102, 97, 117, 108, 116, 45, 115, 114, 99, 32, 104, 116, 116, 112, 115, 58, 47, 47, 98, 46, 99, 111, 109]⟩ : ByteArray).data.toList = PB from rfl] at HP2
  obtain ⟨kk, hkk⟩ : ∃ k : Nat, (if dt = 2 ∨ dt = 3 then 0 else 1) = k := ⟨_, rfl⟩
  have HLen := hid (nonces_len hWT (adrOf (urlV [104, 116, 116, 112, 115, 58, 47, 47, 98, 46, 99, 111, 109, 47, 120])) pageP dt 0 hdr)
  have HPB := hid (fun n m => pb_none dt n m hdr)
  have hpv := pol_nonces hWT
  rw [<- hPl] at hpv
  have HSL := hid (szl_pol PT.data.toList (by rw [<- Lib.size_eq]; exact hPs))
  have HSM := hid (szl_pol PB (by decide))
  rw [<- hpv] at HLen
  rw [hkk] at HLen
  have hgu := gu_read (List.take 300 [104, 116, 116, 112, 115, 58, 47, 47, 98, 46, 99, 111, 109, 47, 120])
  have HGU := hid (show GuU (adrOf (urlV [104, 116, 116, 112, 115, 58, 47, 47, 98, 46, 99, 111, 109, 47, 120])) from hgu)
  clear hgu
  generalize adrOf (urlV [104, 116, 116, 112, 115, 58, 47, 47, 98, 46, 99, 111, 109, 47, 120]) = U at *
  unfold ParsePost10 at HP1 HP2
  generalize polV PT.data.toList = L at *
  generalize polV PB = M at *
  have HCk := hid (fun (L2 : List Ru) (v pv uv : Value) (n m : ByteArray) (k : Nat) (Z : World) (h1 : Below w.heap.size w Z) (h2 : PlAt Z v [(L2, false)]) (h3 : AskAt Z ⟨pageP, pv, U, uv, dt, 0, n, m⟩) (hz : SzL L2) (h5 : n.size <= 1000000) (h6 : m.size <= 1000000) (h7 : (chkW [(L2, false)] U pageP dt 0 n.data.toList m.data.toList).length = k) => check_at12 v [(L2, false)] ⟨pageP, pv, U, uv, dt, 0, n, m⟩ _ k Z (HG.out.kept h1) h2 (show 1 <= 1000 by decide) (fun q hq => by rw [List.mem_singleton.1 hq]; exact hz) h3 ⟨show GuU pageP from gu_read _, HGU.out, h5, h6⟩ rfl (by rw [chkV_eq]; exact h7))
  obtain ⟨q2, hq2⟩ : ∃ q, (dt == 2) = q := ⟨_, rfl⟩
  obtain ⟨q3, hq3⟩ : ∃ q, (dt == 3) = q := ⟨_, rfl⟩
  have HQ := hid (show (q2 = true -> kk = 0) /\ (q2 = false -> q3 = true -> kk = 0) /\ (q2 = false -> q3 = false -> kk = 1) by
   rw [<- hkk, <- hq2, <- hq3]
   refine ⟨fun h => ?_, fun _ h => ?_, fun h1 h2 => ?_⟩
   ·rw [if_pos (Or.inl (by simpa using h))]
   ·rw [if_pos (Or.inr (by simpa using h))]
   ·rw [if_neg]
    rintro (h | h)
    ·subst h; cases h1
    ·subst h; cases h2)
  have HMl := hid hMl
  have HNl := hid hNl
  have HNs := hid hNs
  have HMs := hid hMs
  clear hT hWT hTL hN hNl hPT hPl hPs hMB hMl hMs hkk hpv HT0
  go_wp2_with fail
  rw [HN.out]
  refine (HWi.out _).mono ?_
  rintro e wz ⟨rfl, hwz⟩
  rw [<- hwz]
  clear hwz
  go_wp2_with fail
  refine (HAk.out _).mono ?_
  rintro e w1 ⟨pv, uv, rfl, hak, hb1⟩
  obtain ⟨pa, pn, pc, ya, yn, yc, hpv, huv⟩ := ask_named12 _ _ hak
  have hpv : pv = .slice pa pn pc := hpv
  have huv : uv = .slice ya yn yc := huv
  subst hpv
  subst huv
  obtain ⟨p0, p1, p2, p3, p4, p5, p6, p8, p9, p10, p11, hxp⟩ := adr_cells pageP pa pn pc
  obtain ⟨y0, y1, y2, y3, y4, y5, y6, y8, y9, y10, y11, hxy⟩ := adr_cells U ya yn yc
  have HXa := hid (show ∀ n m : ByteArray, askCells ⟨pageP, .slice pa pn pc, U, .slice ya yn yc, dt, 0, n, m⟩ = [.string p0, .string p1, .string p2, .string p3, .bool p4, .int .i64 p5, .bool p6, .slice pa pn pc, .string p8, .string p9, .bool p10, .bool p11, .string y0, .string y1, .string y2, .string y3, .bool y4, .int .i64 y5, .bool y6, .slice ya yn yc, .string y8, .string y9, .bool y10, .bool y11, .int .i64 dt, .int .i64 0, .string n, .string m] from fun n m => by
   unfold askCells; dsimp only; rw [hxp, hxy]; rfl)
  have HVa := hid (show ∀ n m : ByteArray, askVal ⟨pageP, .slice pa pn pc, U, .slice ya yn yc, dt, 0, n, m⟩ = .agg #[.string p0, .string p1, .string p2, .string p3, .bool p4, .int .i64 p5, .bool p6, .slice pa pn pc, .string p8, .string p9, .bool p10, .bool p11, .string y0, .string y1, .string y2, .string y3, .bool y4, .int .i64 y5, .bool y6, .slice ya yn yc, .string y8, .string y9, .bool y10, .bool y11, .int .i64 dt, .int .i64 0, .string n, .string m] from fun n m => by unfold askVal; rw [HXa.out])
  have hva : askVal (askOf U (.slice pa pn pc) (.slice ya yn yc) dt) = .agg #[.string p0, .string p1, .string p2, .string p3, .bool p4, .int .i64 p5, .bool p6, .slice pa pn pc, .string p8, .string p9, .bool p10, .bool p11, .string y0, .string y1, .string y2, .string y3, .bool y4, .int .i64 y5, .bool y6, .slice ya yn yc, .string y8, .string y9, .bool y10, .bool y11, .int .i64 dt, .int .i64 0, .string ⟨#[]⟩, .string ⟨#[]⟩] := HVa.out ⟨#[]⟩ ⟨#[]⟩
  rw [hva]
  clear hva hxp hxy
  obtain ⟨Wz, hWz⟩ : ∃ X, (w1.alloc (.cells #[.string ⟨#[]⟩, .string ⟨#[]⟩, .string ⟨#[]⟩, .string ⟨#[]⟩, .bool false, .int .i64 0, .bool false, .slice none 0 0, .string ⟨#[]⟩, .string ⟨#[]⟩, .bool false, .bool false, .string ⟨#[]⟩, .string ⟨#[]⟩, .string ⟨#[]⟩, .string ⟨#[]⟩, .bool false, .int .i64 0, .bool false, .slice none 0 0, .string ⟨#[]⟩, .string ⟨#[]⟩, .bool false, .bool false, .int .i64 0, .int .i64 0, .string ⟨#[]⟩, .string ⟨#[]⟩] 33)) = X := ⟨_, rfl⟩
  have hbWz : Below w1.heap.size w1 Wz := by rw [<- hWz]; exact (Below.refl _ w1).alloc (Nat.le_refl _) _
  have hrz : Wz.heap[w1.heap.size]? = some (.cells #[.string ⟨#[]⟩, .string ⟨#[]⟩, .string ⟨#[]⟩, .string ⟨#[]⟩, .bool false, .int .i64 0, .bool false, .slice none 0 0, .string ⟨#[]⟩, .string ⟨#[]⟩, .bool false, .bool false, .string ⟨#[]⟩, .string ⟨#[]⟩, .string ⟨#[]⟩, .string ⟨#[]⟩, .bool false, .int .i64 0, .bool false, .slice none 0 0, .string ⟨#[]⟩, .string ⟨#[]⟩, .bool false, .bool false, .int .i64 0, .int .i64 0, .string ⟨#[]⟩, .string ⟨#[]⟩] 33 (0, 0)) := by rw [<- hWz]; exact heap_alloc_new w1 _
  obtain ⟨W1, hW1⟩ : ∃ X, Wz.setCells w1.heap.size 0 [.string p0, .string p1, .string p2, .string p3, .bool p4, .int .i64 p5, .bool p6, .slice pa pn pc, .string p8, .string p9, .bool p10, .bool p11, .string y0, .string y1, .string y2, .string y3, .bool y4, .int .i64 y5, .bool y6, .slice ya yn yc, .string y8, .string y9, .bool y10, .bool y11, .int .i64 dt, .int .i64 0, .string ⟨#[]⟩, .string ⟨#[]⟩] = X := ⟨_, rfl⟩
  have HW1 := hid hW1.symm
  have HTh := hid (show Wz.there w1.heap.size 0 28 from fun j hj => ⟨by rw [Nat.zero_add, Lib.cell_of_heap hrz]; simp; omega, Lib.frozen_of_heap hrz _⟩)
  have HOne := hid (show (#[.string p0, .string p1, .string p2, .string p3, .bool p4, .int .i64 p5, .bool p6, .slice pa pn pc, .string p8, .string p9, .bool p10, .bool p11, .string y0, .string y1, .string y2, .string y3, .bool y4, .int .i64 y5, .bool y6, .slice ya yn yc, .string y8, .string y9, .bool y10, .bool y11, .int .i64 dt, .int .i64 0, .string ⟨#[]⟩, .string ⟨#[]⟩] : Array Value).all (·.oneCell') = true by
   have := all_oneCell_toArray (askCells_one ⟨pageP, .slice pa pn pc, U, .slice ya yn yc, dt, 0, ⟨#[]⟩, ⟨#[]⟩⟩ ⟨_, _, _, rfl⟩ ⟨_, _, _, rfl⟩)
   rw [HXa.out] at this
   exact this)
  have hbW1 : Below w1.heap.size w1 W1 := by rw [<- hW1]; exact below_setCells (b := w1.heap.size) (Nat.le_refl _) _ 0 _ hbWz
  have HR1 := hid (show W1.heap[w1.heap.size]? = some (.cells (askCells ⟨pageP, .slice pa pn pc, U, .slice ya yn yc, dt, 0, ⟨#[]⟩, ⟨#[]⟩⟩).toArray 33 (0, 0)) by rw [HXa.out, <- hW1]; exact setCells_all12 _ hrz (by simp))
  clear hW1 hbWz hrz
  have HK1 := hid (show ∀ (n m : ByteArray) (Z : World), Below w1.heap.size w1 Z -> AskAt Z ⟨pageP, .slice pa pn pc, U, .slice ya yn yc, dt, 0, n, m⟩ from fun n m Z hZ => ⟨hak.1.kept hZ, hak.2.kept hZ⟩)
  have HB1 := hid hb1
  have HD1 := hid hbW1
  clear hak hb1 hbW1
  go_wp2_with (refine wpList_store_mid rfl 33 (.tmp 7) (.tmp 47) rfl w1.heap.size 0 #[.string p0, .string p1, .string p2, .string p3, .bool p4, .int .i64 p5, .bool p6, .slice pa pn pc, .string p8, .string p9, .bool p10, .bool p11, .string y0, .string y1, .string y2, .string y3, .bool y4, .int .i64 y5, .bool y6, .slice ya yn yc, .string y8, .string y9, .bool y10, .bool y11, .int .i64 dt, .int .i64 0, .string ⟨#[]⟩, .string ⟨#[]⟩] rfl rfl HTh.out sizeA HOne.out ?_; refine wpList_worldO HW1.out ?_)
  rw [HPT.out]
  refine (HP1.out _).mono ?_
  rintro e w2 ⟨v2, Q2, rfl, hown2, hrd2, hb2⟩
  obtain ⟨la, lc, rfl, _, _⟩ := own_form10 hown2
  obtain ⟨ln, hln⟩ : ∃ n, L.length = n := ⟨_, rfl⟩
  have hlo := PLO12 L false hown2 hrd2
  rw [hln] at hlo ⊢
  obtain ⟨W2, hW2⟩ : ∃ X, (w2.alloc (.cells #[.slice la ln lc, .bool false] 24)) = X := ⟨_, rfl⟩
  have hbW2 : Below w2.heap.size w2 W2 := by rw [<- hW2]; exact (Below.refl _ w2).alloc (Nat.le_refl _) _
  have HL2 := hid (show PlO W2 (.slice (some ⟨w2.heap.size, 0, none⟩) 1 1) [(L, false)] by rw [<- hW2]; exact hlo)
  have HD2 := hid (below2 HD1.out (below2 hb2 hbW2))
  have HR2 := hid (row_kept HR1.out (below2 hb2 hbW2))
  clear hown2 hrd2 hln hlo hb2 hbW2
  go_wp2_with fail
  refine (HP2.out _).mono ?_
  rintro e w3 ⟨v3, Q3, rfl, hown3, hrd3, hb3⟩
  obtain ⟨ma, mc, rfl, _, _⟩ := own_form10 hown3
  obtain ⟨mn, hmn⟩ : ∃ n, M.length = n := ⟨_, rfl⟩
  have hlo := PLO12 M false hown3 hrd3
  rw [hmn] at hlo ⊢
  obtain ⟨W3, hW3⟩ : ∃ X, (w3.alloc (.cells #[.slice ma mn mc, .bool false] 24)) = X := ⟨_, rfl⟩
  have hbW3 : Below w3.heap.size w3 W3 := by rw [<- hW3]; exact (Below.refl _ w3).alloc (Nat.le_refl _) _
  have HM3 := hid (show PlO W3 (.slice (some ⟨w3.heap.size, 0, none⟩) 1 1) [(M, false)] by rw [<- hW3]; exact hlo)
  have HL3 := hid (HL2.out.kept (below2 hb3 hbW3))
  have HD3 := hid (below2 HD2.out (below2 hb3 hbW3))
  have HR3 := hid (row_kept HR2.out (below2 hb3 hbW3))
  clear hown3 hrd3 hmn hlo hb3 hbW3
  have HRg3 := hid (show W3.rangeAt w1.heap.size 0 [.string p0, .string p1, .string p2, .string p3, .bool p4, .int .i64 p5, .bool p6, .slice pa pn pc, .string p8, .string p9, .bool p10, .bool p11, .string y0, .string y1, .string y2, .string y3, .bool y4, .int .i64 y5, .bool y6, .slice ya yn yc, .string y8, .string y9, .bool y10, .bool y11, .int .i64 dt, .int .i64 0, .string (⟨#[]⟩ : ByteArray), .string (⟨#[]⟩ : ByteArray)] by
   have := range_row HR3.out
   rw [HXa.out] at this
   exact this)
  have HCh3 := hid (HCk.out L _ (.slice pa pn pc) (.slice ya yn yc) (⟨#[]⟩ : ByteArray) (⟨#[]⟩ : ByteArray) 1 W3 (below2 HB1.out HD3.out) HL3.out.pl (HK1.out _ _ _ HD3.out) HSL.out (by decide) (by decide) HLen.out.1)
  rw [HVa.out] at HCh3
  go_wp2_with (refine wpList_load_mid rfl 33 (.tmp 7) rfl w1.heap.size 0 rfl [.string p0, .string p1, .string p2, .string p3, .bool p4, .int .i64 p5, .bool p6, .slice pa pn pc, .string p8, .string p9, .bool p10, .bool p11, .string y0, .string y1, .string y2, .string y3, .bool y4, .int .i64 y5, .bool y6, .slice ya yn yc, .string y8, .string y9, .bool y10, .bool y11, .int .i64 dt, .int .i64 0, .string (⟨#[]⟩ : ByteArray), .string (⟨#[]⟩ : ByteArray)] _ HRg3.out Tryz.underlying33 rfl sizeA ?_)
  refine HCh3.out.mono ?_
  rintro e w4 ⟨b3, c3, rfl, hvl3, hb3⟩
  have HD4 := hid (below2 HD3.out hb3)
  have HR4 := hid (row_kept HR3.out hb3)
  have HL4 := hid (HL3.out.kept hb3)
  have HM4 := hid (HM3.out.kept hb3)
  clear hb3 hvl3
  have y264 : w4.cell? ⟨w1.heap.size, 26, none⟩ = some (.string (⟨#[]⟩ : ByteArray)) := (ask_last HR4.out).2.2.1
  have z264 : w4.frozen? ⟨w1.heap.size, 26, none⟩ = false := Lib.frozen_of_heap HR4.out _
  obtain ⟨W4, hW4⟩ : ∃ X, (w4.setCell ⟨w1.heap.size, 26, none⟩ (.string N)) = X := ⟨_, rfl⟩
  have HR5 := hid (show W4.heap[w1.heap.size]? = some (.cells (askCells ⟨pageP, .slice pa pn pc, U, .slice ya yn yc, dt, 0, N, (⟨#[]⟩ : ByteArray)⟩).toArray 33 (0, 0)) by
   rw [<- hW4]
   exact Lib.heap_setCell_same HR4.out (i := 26) (.string N))
  have HL5 := hid (show PlO W4 _ _ by rw [<- hW4]; exact HL4.out.set HR4.out 26 (.string N))
  have HM5 := hid (show PlO W4 _ _ by rw [<- hW4]; exact HM4.out.set HR4.out 26 (.string N))
  have HD5 := hid (show Below w1.heap.size w1 W4 by rw [<- hW4]; exact HD4.out.setCell (p := ⟨w1.heap.size, 26, none⟩) (Nat.le_refl _) _)
  have HRg5 := hid (show W4.rangeAt w1.heap.size 0 [.string p0, .string p1, .string p2, .string p3, .bool p4, .int .i64 p5, .bool p6, .slice pa pn pc, .string p8, .string p9, .bool p10, .bool p11, .string y0, .string y1, .string y2, .string y3, .bool y4, .int .i64 y5, .bool y6, .slice ya yn yc, .string y8, .string y9, .bool y10, .bool y11, .int .i64 dt, .int .i64 0, .string N, .string (⟨#[]⟩ : ByteArray)] by
   have := range_row HR5.out
   rw [HXa.out] at this
   exact this)
  have HCh5 := hid (HCk.out L _ (.slice pa pn pc) (.slice ya yn yc) N (⟨#[]⟩ : ByteArray) kk W4 (below2 HB1.out HD5.out) HL5.out.pl (HK1.out _ _ _ HD5.out) HSL.out HNs.out (by decide) (by rw [HNl.out]; exact HLen.out.2.1))
  rw [HVa.out] at HCh5
  go_wp2_with (refine wpList_load_mid rfl 33 (.tmp 7) rfl w1.heap.size 0 rfl [.string p0, .string p1, .string p2, .string p3, .bool p4, .int .i64 p5, .bool p6, .slice pa pn pc, .string p8, .string p9, .bool p10, .bool p11, .string y0, .string y1, .string y2, .string y3, .bool y4, .int .i64 y5, .bool y6, .slice ya yn yc, .string y8, .string y9, .bool y10, .bool y11, .int .i64 dt, .int .i64 0, .string N, .string (⟨#[]⟩ : ByteArray)] _ HRg5.out Tryz.underlying33 rfl sizeA ?_)
  refine HCh5.out.mono ?_
  rintro e w6 ⟨b5, c5, rfl, hvl5, hb5⟩
  have HD6 := hid (below2 HD5.out hb5)
  have HR6 := hid (row_kept HR5.out hb5)
  have HL6 := hid (HL5.out.kept hb5)
  have HM6 := hid (HM5.out.kept hb5)
  clear hb5 hvl5
  have y266 : w6.cell? ⟨w1.heap.size, 26, none⟩ = some (.string N) := (ask_last HR6.out).2.2.1
  have z266 : w6.frozen? ⟨w1.heap.size, 26, none⟩ = false := Lib.frozen_of_heap HR6.out _
  obtain ⟨W6, hW6⟩ : ∃ X, (w6.setCell ⟨w1.heap.size, 26, none⟩ (.string (⟨#[]⟩ : ByteArray))) = X := ⟨_, rfl⟩
  have HR7 := hid (show W6.heap[w1.heap.size]? = some (.cells (askCells ⟨pageP, .slice pa pn pc, U, .slice ya yn yc, dt, 0, (⟨#[]⟩ : ByteArray), (⟨#[]⟩ : ByteArray)⟩).toArray 33 (0, 0)) by
   rw [<- hW6]
   exact Lib.heap_setCell_same HR6.out (i := 26) (.string (⟨#[]⟩ : ByteArray)))
  have HL7 := hid (show PlO W6 _ _ by rw [<- hW6]; exact HL6.out.set HR6.out 26 (.string (⟨#[]⟩ : ByteArray)))
  have HM7 := hid (show PlO W6 _ _ by rw [<- hW6]; exact HM6.out.set HR6.out 26 (.string (⟨#[]⟩ : ByteArray)))
  have HD7 := hid (show Below w1.heap.size w1 W6 by rw [<- hW6]; exact HD6.out.setCell (p := ⟨w1.heap.size, 26, none⟩) (Nat.le_refl _) _)
  have y277 : W6.cell? ⟨w1.heap.size, 27, none⟩ = some (.string (⟨#[]⟩ : ByteArray)) := (ask_last HR7.out).2.2.2
  have z277 : W6.frozen? ⟨w1.heap.size, 27, none⟩ = false := Lib.frozen_of_heap HR7.out _
  obtain ⟨W7, hW7⟩ : ∃ X, (W6.setCell ⟨w1.heap.size, 27, none⟩ (.string MB)) = X := ⟨_, rfl⟩
  have HR8 := hid (show W7.heap[w1.heap.size]? = some (.cells (askCells ⟨pageP, .slice pa pn pc, U, .slice ya yn yc, dt, 0, (⟨#[]⟩ : ByteArray), MB⟩).toArray 33 (0, 0)) by
   rw [<- hW7]
   exact Lib.heap_setCell_same HR7.out (i := 27) (.string MB))
  have HL8 := hid (show PlO W7 _ _ by rw [<- hW7]; exact HL7.out.set HR7.out 27 (.string MB))
  have HM8 := hid (show PlO W7 _ _ by rw [<- hW7]; exact HM7.out.set HR7.out 27 (.string MB))
  have HD8 := hid (show Below w1.heap.size w1 W7 by rw [<- hW7]; exact HD7.out.setCell (p := ⟨w1.heap.size, 27, none⟩) (Nat.le_refl _) _)
  have hMBo := HMB.out
  have HRg8 := hid (show W7.rangeAt w1.heap.size 0 [.string p0, .string p1, .string p2, .string p3, .bool p4, .int .i64 p5, .bool p6, .slice pa pn pc, .string p8, .string p9, .bool p10, .bool p11, .string y0, .string y1, .string y2, .string y3, .bool y4, .int .i64 y5, .bool y6, .slice ya yn yc, .string y8, .string y9, .bool y10, .bool y11, .int .i64 dt, .int .i64 0, .string (⟨#[]⟩ : ByteArray), .string MB] by
   have := range_row HR8.out
   rw [HXa.out] at this
   exact this)
  have HCh8 := hid (HCk.out L _ (.slice pa pn pc) (.slice ya yn yc) (⟨#[]⟩ : ByteArray) MB kk W7 (below2 HB1.out HD8.out) HL8.out.pl (HK1.out _ _ _ HD8.out) HSL.out (by decide) HMs.out (by rw [HMl.out]; exact HLen.out.2.2))
  rw [HVa.out] at HCh8
  go_wp2_with (refine wpList_load_mid rfl 33 (.tmp 7) rfl w1.heap.size 0 rfl [.string p0, .string p1, .string p2, .string p3, .bool p4, .int .i64 p5, .bool p6, .slice pa pn pc, .string p8, .string p9, .bool p10, .bool p11, .string y0, .string y1, .string y2, .string y3, .bool y4, .int .i64 y5, .bool y6, .slice ya yn yc, .string y8, .string y9, .bool y10, .bool y11, .int .i64 dt, .int .i64 0, .string (⟨#[]⟩ : ByteArray), .string MB] _ HRg8.out Tryz.underlying33 rfl sizeA ?_)
  refine HCh8.out.mono ?_
  rintro e w9 ⟨b8, c8, rfl, hvl8, hb8⟩
  have HD9 := hid (below2 HD8.out hb8)
  have HR9 := hid (row_kept HR8.out hb8)
  have HL9 := hid (HL8.out.kept hb8)
  have HM9 := hid (HM8.out.kept hb8)
  clear hb8 hvl8
  have y24 : w9.cell? ⟨w1.heap.size, 24, none⟩ = some (.int .i64 dt) := (ask_last HR9.out).1
  cases q2 with
  | true =>
   obtain rfl : kk = 0 := HQ.out.1 rfl
   have HRg9 := hid (show w9.rangeAt w1.heap.size 0 [.string p0, .string p1, .string p2, .string p3, .bool p4, .int .i64 p5, .bool p6, .slice pa pn pc, .string p8, .string p9, .bool p10, .bool p11, .string y0, .string y1, .string y2, .string y3, .bool y4, .int .i64 y5, .bool y6, .slice ya yn yc, .string y8, .string y9, .bool y10, .bool y11, .int .i64 dt, .int .i64 0, .string (⟨#[]⟩ : ByteArray), .string MB] by
    have := range_row HR9.out
    rw [HXa.out] at this
    exact this)
   have HCh9 := hid (HCk.out M _ (.slice pa pn pc) (.slice ya yn yc) (⟨#[]⟩ : ByteArray) MB 0 w9 (below2 HB1.out HD9.out) HM9.out.pl (HK1.out _ _ _ HD9.out) HSM.out (by decide) HMs.out (by rw [HPB.out]; rfl))
   rw [HVa.out] at HCh9
   go_wp2_with (refine load_mid_g12 (by kernel_rfl) 33 (.tmp 7) rfl w1.heap.size 0 rfl [.string p0, .string p1, .string p2, .string p3, .bool p4, .int .i64 p5, .bool p6, .slice pa pn pc, .string p8, .string p9, .bool p10, .bool p11, .string y0, .string y1, .string y2, .string y3, .bool y4, .int .i64 y5, .bool y6, .slice ya yn yc, .string y8, .string y9, .bool y10, .bool y11, .int .i64 dt, .int .i64 0, .string (⟨#[]⟩ : ByteArray), .string MB] _ HRg9.out Tryz.underlying33 rfl sizeA ?_)
   refine HCh9.out.mono ?_
   rintro e w10 ⟨b9, c9, rfl, hvl9, hb9⟩
   have HBz := hid (below2 HB1.out (below2 HD9.out hb9))
   clear hvl9 hb9
   go_wp2_with fail
   refine (known12_any _ (HG.out.kept HBz.out)).mono ?_
   rintro e w11 ⟨rfl, hb11⟩
   go_wp2
   go_ret
   exact ⟨rfl, below2 HBz.out hb11⟩
  | false =>
   cases q3 with
   | true =>
    obtain rfl : kk = 0 := HQ.out.2.1 rfl rfl
    have HRg9 := hid (show w9.rangeAt w1.heap.size 0 [.string p0, .string p1, .string p2, .string p3, .bool p4, .int .i64 p5, .bool p6, .slice pa pn pc, .string p8, .string p9, .bool p10, .bool p11, .string y0, .string y1, .string y2, .string y3, .bool y4, .int .i64 y5, .bool y6, .slice ya yn yc, .string y8, .string y9, .bool y10, .bool y11, .int .i64 dt, .int .i64 0, .string (⟨#[]⟩ : ByteArray), .string MB] by
     have := range_row HR9.out
     rw [HXa.out] at this
     exact this)
    have HCh9 := hid (HCk.out M _ (.slice pa pn pc) (.slice ya yn yc) (⟨#[]⟩ : ByteArray) MB 0 w9 (below2 HB1.out HD9.out) HM9.out.pl (HK1.out _ _ _ HD9.out) HSM.out (by decide) HMs.out (by rw [HPB.out]; rfl))
    rw [HVa.out] at HCh9
    go_wp2_with (refine load_mid_g12 (by kernel_rfl) 33 (.tmp 7) rfl w1.heap.size 0 rfl [.string p0, .string p1, .string p2, .string p3, .bool p4, .int .i64 p5, .bool p6, .slice pa pn pc, .string p8, .string p9, .bool p10, .bool p11, .string y0, .string y1, .string y2, .string y3, .bool y4, .int .i64 y5, .bool y6, .slice ya yn yc, .string y8, .string y9, .bool y10, .bool y11, .int .i64 dt, .int .i64 0, .string (⟨#[]⟩ : ByteArray), .string MB] _ HRg9.out Tryz.underlying33 rfl sizeA ?_)
    refine HCh9.out.mono ?_
    rintro e w10 ⟨b9, c9, rfl, hvl9, hb9⟩
    have HBz := hid (below2 HB1.out (below2 HD9.out hb9))
    clear hvl9 hb9
    go_wp2_with fail
    refine (known12_any _ (HG.out.kept HBz.out)).mono ?_
    rintro e w11 ⟨rfl, hb11⟩
    go_wp2
    go_ret
    exact ⟨rfl, below2 HBz.out hb11⟩
   | false =>
    obtain rfl : kk = 1 := HQ.out.2.2 rfl rfl
    have HRg9 := hid (show w9.rangeAt w1.heap.size 0 [.string p0, .string p1, .string p2, .string p3, .bool p4, .int .i64 p5, .bool p6, .slice pa pn pc, .string p8, .string p9, .bool p10, .bool p11, .string y0, .string y1, .string y2, .string y3, .bool y4, .int .i64 y5, .bool y6, .slice ya yn yc, .string y8, .string y9, .bool y10, .bool y11, .int .i64 dt, .int .i64 0, .string (⟨#[]⟩ : ByteArray), .string MB] by
     have := range_row HR9.out
     rw [HXa.out] at this
     exact this)
    have HCh9 := hid (HCk.out M _ (.slice pa pn pc) (.slice ya yn yc) (⟨#[]⟩ : ByteArray) MB 0 w9 (below2 HB1.out HD9.out) HM9.out.pl (HK1.out _ _ _ HD9.out) HSM.out (by decide) HMs.out (by rw [HPB.out]; rfl))
    rw [HVa.out] at HCh9
    go_wp2_with (refine load_mid_g12 (by kernel_rfl) 33 (.tmp 7) rfl w1.heap.size 0 rfl [.string p0, .string p1, .string p2, .string p3, .bool p4, .int .i64 p5, .bool p6, .slice pa pn pc, .string p8, .string p9, .bool p10, .bool p11, .string y0, .string y1, .string y2, .string y3, .bool y4, .int .i64 y5, .bool y6, .slice ya yn yc, .string y8, .string y9, .bool y10, .bool y11, .int .i64 dt, .int .i64 0, .string (⟨#[]⟩ : ByteArray), .string MB] _ HRg9.out Tryz.underlying33 rfl sizeA ?_)
    refine HCh9.out.mono ?_
    rintro e w10 ⟨b9, c9, rfl, hvl9, hb9⟩
    have HBz := hid (below2 HB1.out (below2 HD9.out hb9))
    clear hvl9 hb9
    go_wp2_with fail
    refine (known12_any _ (HG.out.kept HBz.out)).mono ?_
    rintro e w11 ⟨rfl, hb11⟩
    go_wp2
    go_ret
    exact ⟨rfl, below2 HBz.out hb11⟩
end Go.Proofs.YtooihpkoplgmbaaGreatDoor
