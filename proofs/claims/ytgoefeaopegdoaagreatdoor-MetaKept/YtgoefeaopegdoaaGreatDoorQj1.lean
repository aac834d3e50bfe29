/-
  Walks and plain facts that this claim leans on, put together out of 15 texts: Wr, Uy, Xc, Ytn, Ewa, Ewd, Ezc, Ezf, Lm, Qa, Rb, Wt, La, Ln, Lcut.
-/
import Derived.Test.YtgoefeaopegdoaaGreatDoorProg
import Derived.Test.YtgoefeaopegdoaaGreatDoorQx1
import Derived.Test.YtgoefeaopegdoaaGreatDoorQx2
import Derived.Test.YtgoefeaopegdoaaGreatDoorQx3
import Derived.Test.YtgoefeaopegdoaaGreatDoorQx4
import Derived.Test.YtgoefeaopegdoaaGreatDoorQx5
import Derived.Test.YtgoefeaopegdoaaGreatDoorQx6
import Derived.Test.YtgoefeaopegdoaaGreatDoorQx7
import Derived.Test.YtgoefeaopegdoaaGreatDoorQx8
import Derived.Test.YtgoefeaopegdoaaGreatDoorQx9
import Derived.Test.YtgoefeaopegdoaaGreatDoorQx10
import Derived.Test.YtgoefeaopegdoaaGreatDoorQx11
import Derived.Test.YtgoefeaopegdoaaGreatDoorQx12
import Derived.Test.YtgoefeaopegdoaaGreatDoorQx13
import Derived.Test.YtgoefeaopegdoaaGreatDoorQx14
import Derived.Test.YtgoefeaopegdoaaGreatDoorQx15
import Derived.Test.YtgoefeaopegdoaaGreatDoorQx16
import Derived.Test.YtgoefeaopegdoaaGreatDoorQx17
import Derived.Test.YtgoefeaopegdoaaGreatDoorQx18
import Derived.Test.YtgoefeaopegdoaaGreatDoorQx19
import Derived.Test.YtgoefeaopegdoaaGreatDoorQx20
import Derived.Test.YtgoefeaopegdoaaGreatDoorQx21
import Derived.Test.YtgoefeaopegdoaaGreatDoorQx22
import Derived.Test.YtgoefeaopegdoaaGreatDoorQx23
import Derived.Test.YtgoefeaopegdoaaGreatDoorQx24
import Derived.Test.YtgoefeaopegdoaaGreatDoorQx25
import Derived.Test.YtgoefeaopegdoaaGreatDoorQx26
import Derived.Test.YtgoefeaopegdoaaGreatDoorQx27
import Derived.Test.YtgoefeaopegdoaaGreatDoorQx28
import Derived.Test.YtgoefeaopegdoaaGreatDoorQx29
import Derived.Test.YtgoefeaopegdoaaGreatDoorQx30
import Derived.WalkKit
import Derived.WalkSpells
import Derived.WalkLawsBesides
import Derived.Lib.FrozenHead2
import Derived.Lib.OthersKept
import Derived.Lib.Builder
import Derived.Deep.RegionLaw
import Derived.Lib.IndexMore
import Derived.Lib.Join
import Derived.Lib.LastIndexByte
import Derived.Lib.Strings
import Derived.Lib.UnsafeStr
import Derived.Laws.IdiomStrings
import Derived.Laws.AppendOwn
import Derived.Laws.BitsAllLaws
import Derived.Lib.Bytealg
import Derived.Lib.BufferMore
import Derived.LoopN
import Derived.RegionTactic
import Derived.Deep.RegionWith
import Derived.Deep.QuietTactic
import Derived.BigQuiet
import Derived.Laws.OwnMore
import Derived.Shelf.Strings.Builder1
import Derived.Shelf.Strings.Builder2
import Derived.Shelf.Strings.OnBuilder
import Derived.Shelf.Strings.Trim
import Derived.Shelf.Small.Utf8
import Derived.Shelf.Small.Bits
import Derived.Shelf.Small.Strs
import Derived.Shelf.Small.Wraps
import Derived.Shelf.Strings.BuilderF
import Derived.Shelf.Strings.BuilderK
import Derived.Shelf.Strings.BuilderRune
import Derived.Shelf.Utf8.AppendRune
import Derived.Shelf.Utf8.AppendRunePlain
import Derived.Shelf.Strings.Builder2Cap
import Derived.Shelf.Strconv.Itoa0
import Derived.Shelf.Strconv.Itoa1
import Derived.Shelf.LaysM
import Derived.Shelf.Strconv.Itoa2
import Derived.Shelf.Strconv.Itoa3
import Derived.Shelf.Strings.Search1
import Derived.Shelf.Strings.Search2
import Derived.Shelf.Strings.Search3
import Derived.Shelf.Strings.Cut
import Derived.Shelf.Strings.Count
import Derived.Shelf.Strings.Shaped
import Derived.Shelf.Strings.LastIndex
import Derived.Shelf.Strings.Prefix
import Derived.Shelf.Strings.Split
import Derived.Shelf.Strings.Replace
import Derived.Shelf.Strings.Runes
import Derived.Shelf.Strings.IndexAny
import Derived.Shelf.Strings.AsciiSet
import Derived.Shelf.Strings.IndexAnyAll
import Derived.Shelf.Unicode.DecodeSlow
import Derived.Ground.Names2Prog
import Derived.Shelf.Slices.Clone
import Derived.Shelf.Slices.In.SortNone
import Derived.Ground.SlgnProg
import Derived.Shelf.SlicesE.Clone
import Derived.Scope
import Derived.ScopeJumps
import Derived.WalkMore
import Derived.Lib.IndexAny
import Derived.Lib.Replace
import Derived.Lib.TrimByte
import Derived.Lib.ItoaNum
import Derived.Laws.RangeAny
import Derived.Lib.DecodeN
import Derived.Deep.LoopGhost
import Derived.Laws.BytesString
import Derived.Deep.WholeRow
import Derived.BigRegion
import Derived.Lib.AppendStr
import Derived.Deep.RegionHeld
import Derived.Lib.AppendIntMem
import Derived.Lib.SmallJoins
import Derived.WalkSmall
import Derived.OwnWalk
import Derived.Laws.CopyOwn
import Derived.Laws.ResultCell
import Derived.Deep.MidRow
import Derived.Lib.SlTrimSet
import Derived.Below
import Derived.Lib.BufferRead
import Derived.Lib.RuneBytes
import Derived.Laws.AppendOwnNone
import Derived.Deep.Cut
import Derived.Shelf.Strings.SlTrimAscii
import Derived.Laws.Runes
import Derived.Lib.LaidTab
import Derived.Laws.BitsAll
set_option linter.unusedSimpArgs false
set_option linter.unusedVariables false

namespace Go.Proofs.YtgoefeaopegdoaaGreatDoor
open Go.RowKit

theorem ownsRow_slice {w : World} {B : Nat} {e : TypeId} {size : Nat} {v : Value} {n : Nat} {xs : List Value} (h : w.ownsRow B e size v n xs) : ∃ a k c, v = .slice a k c := by
 rcases h.2 with ⟨rfl, _⟩ | ⟨g, cap, cur, rfl, _⟩
 ·exact ⟨_, _, _, rfl⟩
 ·exact ⟨_, _, _, rfl⟩

theorem cell_of_heapE {w : World} {b : Nat} {cs : Array Value} {T : TypeId} {fr : Nat × Nat} (hb : w.heap[b]? = some (.cells cs T fr)) (j : Nat) (v : Value) (h : cs[j]? = some v) : w.cell? ⟨b, j, none⟩ = some v := by rw [Lib.cell_of_heap hb]; exact h

theorem step_append_own0 {P : Program} {ops : Array Oper} {o : Oper} {a : Act} {w : World} {K : Act → World → Prop} {Q : Exit → Act → World → Prop} {E : Prop} (hgd : o.guard = none) (s x : Operand) (t : TypeId)
  (ho : o.op = .call { callee := .builtin .append, args := #[s, x], argTypes := #[t, t] })
  (base : Nat) (e : TypeId) (i : TypeInfo) (z : Value) (size bytes : Nat) (ht : P.underlying t = some (.slice e)) (hi : P.info? e = some i) (hz : i.zero = some z)
  (hsize : i.size = size) (hby : i.bytes = bytes) (hzs : z.cells.size = size) (hsz : 0 < size)
  (v : Value) (n : Nat) (xs : List Value) (hs : a.eval s = v) (hown : w.ownsRow base e size v n xs)
  (ad : Addr) (m c : Nat) (news : List Value) (hx : a.eval x = .slice (some ad) m c) (hl : news.length = m * size) (hnews : ∀ j u, news[j]? = some u → w.cell? (ad.add j) = some u) (h1 : ∀ u ∈ news, u.oneCell' = true)
  (h63 : n + m ≤ maxLen) (hbytes : (n + m) * bytes ≤ 140737488355328) (hbase : base ≤ w.heap.size)
  (h : ∀ v' w', w'.ownsRow base e size v' (n + m) (xs ++ news) → w.grownBy w' v.ownBlock → (v' = .slice none 0 0 ↔ v = .slice none 0 0 ∧ m = 0) → K (a.put o.dst v') w') :
  if Region.wanted o (yielded ops a.tmps) = true then Oper.wp P o a w K Q else E := by
 rw [if_pos (by simp [Region.wanted, hgd])]
 exact wp_append_own w s x t ho base e i z size bytes ht hi hz hsize hby hzs hsz v n xs hs hown ad m c news hx hl hnews h1 h63 hbytes hbase h

end Go.Proofs.YtgoefeaopegdoaaGreatDoor

namespace Go.Proofs.YtgoefeaopegdoaaGreatDoor
open Go.RowKit

theorem AdrIn.load {w : World} {b : Nat} {u : Adr} {pv : Value} (h : AdrIn w b u pv) : (loadVar 34 ⟨b, 0, none⟩).run Tryz.prog w = .ok (adrVal u pv) w :=
 run_loadVar_mid w b 0 34 (adrCells u pv) _ (range_row h) Tryz.underlying34 rfl (sizeUl u pv)

end Go.Proofs.YtgoefeaopegdoaaGreatDoor

namespace Go.Proofs.YtgoefeaopegdoaaGreatDoor
open Go.RowKit

def cellsH (L : List Hd) : List Value := L.flatMap fun h => [.string ⟨h.name.toArray⟩, .string ⟨h.value.toArray⟩]

end Go.Proofs.YtgoefeaopegdoaaGreatDoor

namespace Go.Proofs.YtgoefeaopegdoaaGreatDoor
open Go.RowKit

def nearV (h : List UInt8) : Bool := (h == [108, 111, 99, 97, 108, 104, 111, 115, 116]) || (Lib.hasSuffix h [46, 108, 111, 99, 97, 108, 104, 111, 115, 116] || ((h == [91, 58, 58, 49, 93]) || (Lib.hasPrefix h [49, 50, 55, 46] && numO h)))

set_option maxHeartbeats 4000000 in
set_option maxRecDepth 20000 in
theorem near_any (h : ByteArray) (w : World) (hh : h.size ≤ 9223372036854775807) :
  Calls Tryz.prog 121 #[.string h] w fun e w' => e = .returned (.bool (nearV h.data.toList)) ∧ Below w.heap.size w w' := by
 obtain ⟨q2, e2⟩ : ∃ q, Lib.hasSuffix h.data.toList [46, 108, 111, 99, 97, 108, 104, 111, 115, 116] = q := ⟨_, rfl⟩
 obtain ⟨q4, e4⟩ : ∃ q, Lib.hasPrefix h.data.toList [49, 50, 55, 46] = q := ⟨_, rfl⟩
 obtain ⟨q5, e5⟩ : ∃ q, numO h.data.toList = q := ⟨_, rfl⟩
 obtain ⟨q1, e1⟩ : ∃ q, (h.toList == [108, 111, 99, 97, 108, 104, 111, 115, 116]) = q := ⟨_, rfl⟩
 obtain ⟨q3, e3⟩ : ∃ q, (h.toList == [91, 58, 58, 49, 93]) = q := ⟨_, rfl⟩
 have HV := hid (show nearV h.data.toList = (q1 || (q2 || (q3 || (q4 && q5)))) by unfold nearV; rw [e2, e4, e5, ← e1, ← e3, Lib.toList_data])
 have HS : Hid (∀ w, Calls Tryz.prog 177 #[.string h, .string ⟨#[46, 108, 111, 99, 97, 108, 104, 111, 115, 116]⟩] w fun e w' => e = .returned (.bool q2) ∧ w' = w) := fun w => by rw [← e2]; exact Tryz.strings_HasSuffix h _ w hh
 have HP : Hid (∀ w, Calls Tryz.prog 104 #[.string h, .string ⟨#[49, 50, 55, 46]⟩] w fun e w' => e = .returned (.bool q4) ∧ w' = w) := fun w => by rw [← e4]; exact Tryz.strings_HasPrefix h _ w
 have HN := hid (fun w => numeric_any h w hh)
 rw [e5] at HN
 have HB := hid (Below.refl w.heap.size w)
 clear e2 e4 e5 hh
 cases q1 with
 | true =>
  go_enter Tryz.func121, Tryz.ntmps121
  go_wp2
  go_ret
  exact ⟨ret_bool (by rw [HV.out]; rfl), HB.out⟩
 | false =>
  go_enter Tryz.func121, Tryz.ntmps121
  go_wp2_with fail
  refine (HS.out _).mono ?_
  rintro e wz ⟨rfl, hwz⟩
  rw [hwz]
  clear hwz
  cases q2 with
  | true =>
   go_wp2
   go_ret
   exact ⟨ret_bool (by rw [HV.out]; rfl), HB.out⟩
  | false =>
   cases q3 with
   | true =>
    go_wp2
    go_ret
    exact ⟨ret_bool (by rw [HV.out]; rfl), HB.out⟩
   | false =>
    go_wp2_with fail
    refine (HP.out _).mono ?_
    rintro e wy ⟨rfl, hwy⟩
    rw [hwy]
    clear hwy
    cases q4 with
    | false =>
     go_wp2
     go_ret
     exact ⟨ret_bool (by rw [HV.out]; rfl), HB.out⟩
    | true =>
     go_wp2_with fail
     refine (HN.out _).mono ?_
     rintro e wx ⟨rfl, hbx⟩
     go_wp2
     go_ret
     exact ⟨ret_bool (by rw [HV.out]; rfl), hbx⟩

end Go.Proofs.YtgoefeaopegdoaaGreatDoor

namespace Go.Proofs.YtgoefeaopegdoaaGreatDoor
def sData : List UInt8 := [100, 97, 116, 97]

def sAbout : List UInt8 := [97, 98, 111, 117, 116]

def safeS (s : List UInt8) : Bool := (s == sHttps) || ((s == sWss) || ((s == sData) || (s == sAbout)))

def trN : Nat → Adr → Bool
 | 0, u => safeS u.scheme || nearV u.host
 | n + 1, u => if safeS u.scheme then true else if u.scheme = sBlob then trN n (innV u) else nearV u.host

def mT (u : Adr) : Nat := if u.scheme = sBlob then (if u.opq then cc u.path.flatten + 2 else 1) else 0

def trustV (u : Adr) : Bool := trN (mT u) u

theorem cc_sub {a b : List UInt8} (h : List.Sublist a b) : cc a ≤ cc b := h.count_le _

theorem cc_pct (l : List UInt8) : cc (pct 1 l) ≤ cc l := by
 induction l with
 | nil => exact Nat.le_refl _
 | cons c l ih =>
  have h := u8_all (P := fun c => decide ((pct1 1 c).count 58 ≤ ([c] : List UInt8).count 58)) (by decide +kernel) c
  have h := of_decide_eq_true h
  have e : pct 1 (c :: l) = pct1 1 c ++ pct 1 l := rfl
  have e2 : (c :: l) = [c] ++ l := rfl
  unfold cc at ih ⊢
  rw [e, e2, List.count_append, List.count_append]
  omega

theorem cc_clean (l : List UInt8) : cc (cleanV l) ≤ cc l := by
 have h1 : cc (cleanV l) ≤ cc (trimV l) := cc_sub List.filter_sublist
 have h2 : cc (trimV l) = cc ((l.dropWhile wsC).reverse.dropWhile wsC) := by unfold cc trimV; exact List.count_reverse
 have h3 : cc ((l.dropWhile wsC).reverse.dropWhile wsC) ≤ cc (l.dropWhile wsC).reverse := cc_sub (List.dropWhile_sublist _)
 have h4 : cc (l.dropWhile wsC).reverse = cc (l.dropWhile wsC) := by unfold cc; exact List.count_reverse
 have h5 : cc (l.dropWhile wsC) ≤ cc l := cc_sub (List.dropWhile_sublist _)
 omega

theorem cc_part (c : UInt8) (l : List UInt8) : cc (part c l).1 ≤ cc l := by
 rcases first_split c l with h | ⟨a, r, h, rfl⟩
 ·rw [part_none c l h]; exact Nat.le_refl _
 ·rw [part_some c a r h]; exact cc_sub (List.sublist_append_left _ _)

theorem withQuery_opq (u : Adr) (q : List UInt8) : (withQuery u q).opq = u.opq ∧ (withQuery u q).path = u.path := by
 rcases withQuery_cases u q with e | e
 ·rw [e]; exact ⟨rfl, rfl⟩
 ·rw [e]; exact ⟨rfl, rfl⟩

theorem withAuth_opq {u v : Adr} {r : List UInt8} (e : withAuth u r = .ok v) : v.opq = u.opq := by
 unfold withAuth at e
 split at e
 ·cases e
 ·injection e with e
  rw [← e]
  unfold withPath
  exact (withQuery_opq _ _).1

theorem start_opq4 {u v : Adr} {rest : List UInt8} (h0 : u.opq = false) (e : startV u rest = .ok v) (ho : v.opq = true) : v.path = [pct 1 (aheadV [63] rest).1] := by
 unfold startV at e
 split at e
 ·rw [withAuth_opq e, h0] at ho; cases ho
 ·split at e
  ·rw [withAuth_opq e, h0] at ho; cases ho
  ·split at e
   ·injection e with e
    rw [← e] at ho
    unfold withPath at ho
    rw [(withQuery_opq _ _).1] at ho
    rw [show ({ u with path := pathV (specV u.scheme) [] (aheadV [63] rest).1 } : Adr).opq = u.opq from rfl, h0] at ho
    cases ho
   ·injection e with e
    rw [← e, (withQuery_opq _ _).2]

theorem read_cc {t : List UInt8} {v : Adr} (e : readV t none = .ok v) (ho : v.opq = true) : cc v.path.flatten < cc t := by
 unfold readV at e
 split at e
 ·cases e
 ·simp only at e
  split at e
  ·cases e
  ·rename_i hsc
   rw [start_opq4 rfl e ho]
   have h1 : (cc (beginU t).2) + 1 ≤ cc t := by
    have hc := cc_clean t
    have hp := cc_part 35 (cleanV t)
    unfold beginU at hsc ⊢
    simp only at hsc ⊢
    cases hm : schemeV (part 35 (cleanV t)).1 with
    | none => rw [hm] at hsc; exact absurd rfl hsc
    | some m =>
     simp only [hm, Option.getD_some]
     unfold schemeV at hm
     split at hm
     ·rename_i hq
      rw [Bool.and_eq_true] at hq
      injection hm with hm
      rw [← hm]
      simp only
      rcases first_split 58 (part 35 (cleanV t)).1 with h | ⟨a, r, h, hs⟩
      ·rw [part_none 58 _ h] at hq; cases hq.1
      ·rw [hs, part_some 58 a r h]
       rw [hs] at hp
       have : cc (a ++ 58 :: r) = cc a + (cc r + 1) := by unfold cc; rw [List.count_append, List.count_cons_self]
       simp only
       omega
     ·cases hm
   have h2 : cc (pct 1 (aheadV [63] (beginU t).2).1) ≤ cc (beginU t).2 := Nat.le_trans (cc_pct _) (cc_sub (List.takeWhile_sublist _))
   simp only [List.flatten_cons, List.flatten_nil, List.append_nil]
   omega

theorem mT_inn {u : Adr} (h : u.scheme = sBlob) : mT (innV u) < mT u := by
 have h1 : 1 ≤ mT u := by unfold mT; rw [if_pos h]; split <;> omega
 by_cases ho : u.opq = true
 ·have hu : mT u = cc u.path.flatten + 2 := by unfold mT; rw [if_pos h, if_pos ho]
  have hi : innV u = adrOf (readV u.path.flatten none) := by unfold innV; rw [if_pos ⟨h, ho⟩]
  rw [hu, hi]
  cases hr : readV u.path.flatten none with
  | error e => exact Nat.lt_of_lt_of_le (show mT Adr.zero < 1 by decide) (by omega)
  | ok v =>
   show mT v < _
   unfold mT
   split
   ·split
    ·rename_i hv
     have := read_cc hr hv
     omega
    ·omega
   ·omega
 ·have hi : innV u = Adr.zero := by unfold innV; rw [if_neg (fun e => ho e.2)]
  rw [hi]
  exact Nat.lt_of_lt_of_le (show mT Adr.zero < 1 by decide) h1

end Go.Proofs.YtgoefeaopegdoaaGreatDoor

namespace Go.Proofs.YtgoefeaopegdoaaGreatDoor
open Go.RowKit

def trS (u : Adr) (t : Bool) : Bool := if safeS u.scheme then true else if u.scheme = sBlob then t else nearV u.host

set_option maxHeartbeats 4000000 in
set_option maxRecDepth 100000 in
theorem trusted_step (u : Adr) (pv : Value) (w : World) (t : Bool) (hg : Gd w) (hp : PathAt w pv u.path) (hl : u.path.length ≤ 1000000) (hf : u.path.flatten.length ≤ 100000) (hh : u.host.length ≤ 1000000)
  (hb : u.scheme = sBlob → ∀ (qv : Value) (X : World), Gd X → PathAt X qv (innV u).path → Calls Tryz.prog 69 #[adrVal (innV u) qv] X fun e w' => e = .returned (.bool t) ∧ Below X.heap.size X w') :
  Calls Tryz.prog 69 #[adrVal u pv] w fun e w' => e = .returned (.bool (trS u t)) ∧ Below w.heap.size w w' := by
 have HIn := hid (fun (X : World) (hX : Gd X) (h : PathAt X pv u.path) => inner_own u pv X hX h hl hf)
 obtain ⟨da, dn, dc, rfl⟩ := path_sl hp
 obtain ⟨d0, d1, d2, d3, d4, d5, d6, d8, d9, d10, d11, hxd, hx0, hx3, -, -⟩ := adr_named u da dn dc
 have hvd : adrVal u (.slice da dn dc) = .agg #[.string d0, .string d1, .string d2, .string d3, .bool d4, .int .i64 d5, .bool d6, .slice da dn dc, .string d8, .string d9, .bool d10, .bool d11] := by unfold adrVal; rw [hxd]
 rw [hvd] at HIn ⊢
 obtain ⟨W1, hW1⟩ : ∃ X, (w.alloc (.cells #[.string d0, .string d1, .string d2, .string d3, .bool d4, .int .i64 d5, .bool d6, .slice da dn dc, .string d8, .string d9, .bool d10, .bool d11] 34)) = X := ⟨_, rfl⟩
 have hbW1 : Below w.heap.size w W1 := by rw [← hW1]; exact (Below.refl _ w).alloc (Nat.le_refl _) _
 have hsW1 : W1.heap.size = w.heap.size + 1 := by rw [← hW1]; simp
 have hAW1 : AdrIn W1 w.heap.size u (.slice da dn dc) := by
  unfold AdrIn
  rw [hxd, ← hW1]
  exact heap_alloc_new w _
 have HB1 := hid hbW1
 have HG1 := hid (hg.kept hbW1)
 have HP1 := hid (hp.kept hbW1)
 obtain ⟨y0, y1, y2, y3, y4, y5, y6, y7, y8, y9, y10, y11⟩ := adr_twelve hxd hAW1
 have HNe := hid (fun w => near_any d3 w (by rw [Lib.size_eq, hx3]; omega))
 rw [hx3] at HNe
 obtain ⟨q1, eq1⟩ : ∃ q, (d0.toList == [104, 116, 116, 112, 115]) = q := ⟨_, rfl⟩
 obtain ⟨q2, eq2⟩ : ∃ q, (d0.toList == [119, 115, 115]) = q := ⟨_, rfl⟩
 obtain ⟨q3, eq3⟩ : ∃ q, (d0.toList == [100, 97, 116, 97]) = q := ⟨_, rfl⟩
 obtain ⟨q4, eq4⟩ : ∃ q, (d0.toList == [97, 98, 111, 117, 116]) = q := ⟨_, rfl⟩
 obtain ⟨q5, eq5⟩ : ∃ q, (d0.toList == [98, 108, 111, 98]) = q := ⟨_, rfl⟩
 have HV := hid (show trS u t = if (q1 || (q2 || (q3 || q4))) then true else if q5 then t else nearV u.host by
  unfold trS safeS
  rw [← eq1, ← eq2, ← eq3, ← eq4, ← eq5, Lib.toList_data, hx0]
  by_cases h : u.scheme = sBlob
  ·simp [h, sHttps, sWss, sData, sAbout, sBlob]
  ·have : (u.scheme == [98, 108, 111, 98]) = false := beq_eq_false_iff_ne.2 h
   simp [h, this, sHttps, sWss, sData, sAbout])
 have HBl := hid (fun (h : q5 = true) => hb (by rw [h] at eq5; rw [← hx0, ← Lib.toList_data]; exact beq_iff_eq.1 eq5))
 clear hb hx0 hx3 hxd hvd hg hp hl hf hh hbW1 hAW1 hsW1
 cases q1 with
 | true =>
  go_enter Tryz.func69, Tryz.ntmps69
  go_wp2
  go_ret
  exact ⟨ret_bool (by rw [HV.out]; rfl), HB1.out⟩
 | false =>
  cases q2 with
  | true =>
   go_enter Tryz.func69, Tryz.ntmps69
   go_wp2
   go_ret
   exact ⟨ret_bool (by rw [HV.out]; rfl), HB1.out⟩
  | false =>
   cases q3 with
   | true =>
    go_enter Tryz.func69, Tryz.ntmps69
    go_wp2
    go_ret
    exact ⟨ret_bool (by rw [HV.out]; rfl), HB1.out⟩
   | false =>
    cases q4 with
    | true =>
     go_enter Tryz.func69, Tryz.ntmps69
     go_wp2
     go_ret
     exact ⟨ret_bool (by rw [HV.out]; rfl), HB1.out⟩
    | false =>
     cases q5 with
     | true =>
      go_enter Tryz.func69, Tryz.ntmps69
      go_wp2_with fail
      refine (HIn.out _ HG1.out HP1.out).mono ?_
      rintro e w2 ⟨qv, rfl, -, hb2, hp2⟩
      have HG2 := hid (HG1.out.kept hb2)
      have HB2 := hid (below2 HB1.out hb2)
      have HP2 := hid hp2
      clear hb2 hp2
      generalize innV u = V at HBl HP2 ⊢
      go_wp2_with fail
      refine (HBl.out trivial _ _ HG2.out HP2.out).mono ?_
      rintro e w3 ⟨rfl, hb3⟩
      go_wp2
      go_ret
      exact ⟨ret_bool (by rw [HV.out]; rfl), below2 HB2.out hb3⟩
     | false =>
      go_enter Tryz.func69, Tryz.ntmps69
      go_wp2_with fail
      refine (HNe.out _).mono ?_
      rintro e w2 ⟨rfl, hb2⟩
      go_wp2
      go_ret
      exact ⟨ret_bool (by rw [HV.out]; rfl), below2 HB1.out hb2⟩

theorem trusted_n : ∀ (n : Nat) (u : Adr) (pv : Value) (w : World), mT u ≤ n → Gd w → PathAt w pv u.path → TrOk u →
  Calls Tryz.prog 69 #[adrVal u pv] w fun e w' => e = .returned (.bool (trN n u)) ∧ Below w.heap.size w w' := by
 intro n
 induction n with
 | zero =>
  intro u pv w hn hg hp ht
  have hne : u.scheme ≠ sBlob := fun h => by have := mT_inn h; omega
  have := trusted_step u pv w false hg hp ht.1 ht.2.1 ht.2.2 (fun h => absurd h hne)
  have e : trS u false = trN 0 u := by
   unfold trS trN
   cases safeS u.scheme with
   | true => rfl
   | false => rw [if_neg (by decide), if_neg hne]; rfl
  rw [e] at this
  exact this
 | succ n ih =>
  intro u pv w hn hg hp ht
  have := trusted_step u pv w (trN n (innV u)) hg hp ht.1 ht.2.1 ht.2.2 (fun h qv X hX hP => ih (innV u) qv X (by have := mT_inn h; omega) hX hP (inn_tr u))
  exact this

theorem trusted_any (u : Adr) (pv : Value) (w : World) (hg : Gd w) (hp : PathAt w pv u.path) (ht : TrOk u) :
  Calls Tryz.prog 69 #[adrVal u pv] w fun e w' => e = .returned (.bool (trustV u)) ∧ Below w.heap.size w w' := trusted_n _ u pv w (Nat.le_refl _) hg hp ht

end Go.Proofs.YtgoefeaopegdoaaGreatDoor

namespace Go.Proofs.YtgoefeaopegdoaaGreatDoor
open Go.RowKit

def modS (i : Int) : ByteArray := if i = 1 then (⟨#[115, 97, 109, 101, 45, 111, 114, 105, 103, 105, 110]⟩ : ByteArray) else if i = 2 then (⟨#[110, 111, 45, 99, 111, 114, 115]⟩ : ByteArray) else if i = 3 then (⟨#[99, 111, 114, 115]⟩ : ByteArray) else ⟨#[]⟩

def desS (i : Int) : ByteArray := if i = 1 then (⟨#[101, 109, 112, 116, 121]⟩ : ByteArray) else if i = 2 then (⟨#[115, 99, 114, 105, 112, 116]⟩ : ByteArray) else if i = 3 then (⟨#[115, 116, 121, 108, 101]⟩ : ByteArray) else if i = 4 then (⟨#[105, 109, 97, 103, 101]⟩ : ByteArray) else if i = 5 then (⟨#[102, 111, 110, 116]⟩ : ByteArray) else if i = 6 then (⟨#[105, 102, 114, 97, 109, 101]⟩ : ByteArray) else ⟨#[]⟩

set_option maxHeartbeats 2000000 in
theorem mode15_any (i : Int) (w : World) : Calls Tryz.prog 12 #[.int .i64 i] w fun e w' => e = .returned (.string (modS i)) ∧ w = w' := by
 by_cases h0 : i = 1
 ·have hm : modS i = (⟨#[115, 97, 109, 101, 45, 111, 114, 105, 103, 105, 110]⟩ : ByteArray) := by unfold modS; rw [if_pos h0]
  rw [hm]
  clear hm
  subst h0
  go_enter Tryz.func12, Tryz.ntmps12
  go_wp2
  go_ret
  exact ⟨rfl, rfl⟩
 ·have b0 : (i == 1) = false := beq_eq_false_iff_ne.2 h0
  by_cases h1 : i = 2
  ·have hm : modS i = (⟨#[110, 111, 45, 99, 111, 114, 115]⟩ : ByteArray) := by unfold modS; rw [if_neg h0, if_pos h1]
   rw [hm]
   clear hm
   subst h1
   go_enter Tryz.func12, Tryz.ntmps12
   go_wp2
   go_ret
   exact ⟨rfl, rfl⟩
  ·have b1 : (i == 2) = false := beq_eq_false_iff_ne.2 h1
   by_cases h2 : i = 3
   ·have hm : modS i = (⟨#[99, 111, 114, 115]⟩ : ByteArray) := by unfold modS; rw [if_neg h0, if_neg h1, if_pos h2]
    rw [hm]
    clear hm
    subst h2
    go_enter Tryz.func12, Tryz.ntmps12
    go_wp2
    go_ret
    exact ⟨rfl, rfl⟩
   ·have b2 : (i == 3) = false := beq_eq_false_iff_ne.2 h2
    have hm : modS i = ⟨#[]⟩ := by unfold modS; rw [if_neg h0, if_neg h1, if_neg h2]
    rw [hm]
    clear hm
    go_enter Tryz.func12, Tryz.ntmps12
    go_wp2
    go_ret
    exact ⟨rfl, rfl⟩

set_option maxHeartbeats 2000000 in
theorem dest15_any (i : Int) (w : World) : Calls Tryz.prog 14 #[.int .i64 i] w fun e w' => e = .returned (.string (desS i)) ∧ w = w' := by
 by_cases h0 : i = 1
 ·have hm : desS i = (⟨#[101, 109, 112, 116, 121]⟩ : ByteArray) := by unfold desS; rw [if_pos h0]
  rw [hm]
  clear hm
  subst h0
  go_enter Tryz.func14, Tryz.ntmps14
  go_wp2
  go_ret
  exact ⟨rfl, rfl⟩
 ·have b0 : (i == 1) = false := beq_eq_false_iff_ne.2 h0
  by_cases h1 : i = 2
  ·have hm : desS i = (⟨#[115, 99, 114, 105, 112, 116]⟩ : ByteArray) := by unfold desS; rw [if_neg h0, if_pos h1]
   rw [hm]
   clear hm
   subst h1
   go_enter Tryz.func14, Tryz.ntmps14
   go_wp2
   go_ret
   exact ⟨rfl, rfl⟩
  ·have b1 : (i == 2) = false := beq_eq_false_iff_ne.2 h1
   by_cases h2 : i = 3
   ·have hm : desS i = (⟨#[115, 116, 121, 108, 101]⟩ : ByteArray) := by unfold desS; rw [if_neg h0, if_neg h1, if_pos h2]
    rw [hm]
    clear hm
    subst h2
    go_enter Tryz.func14, Tryz.ntmps14
    go_wp2
    go_ret
    exact ⟨rfl, rfl⟩
   ·have b2 : (i == 3) = false := beq_eq_false_iff_ne.2 h2
    by_cases h3 : i = 4
    ·have hm : desS i = (⟨#[105, 109, 97, 103, 101]⟩ : ByteArray) := by unfold desS; rw [if_neg h0, if_neg h1, if_neg h2, if_pos h3]
     rw [hm]
     clear hm
     subst h3
     go_enter Tryz.func14, Tryz.ntmps14
     go_wp2
     go_ret
     exact ⟨rfl, rfl⟩
    ·have b3 : (i == 4) = false := beq_eq_false_iff_ne.2 h3
     by_cases h4 : i = 5
     ·have hm : desS i = (⟨#[102, 111, 110, 116]⟩ : ByteArray) := by unfold desS; rw [if_neg h0, if_neg h1, if_neg h2, if_neg h3, if_pos h4]
      rw [hm]
      clear hm
      subst h4
      go_enter Tryz.func14, Tryz.ntmps14
      go_wp2
      go_ret
      exact ⟨rfl, rfl⟩
     ·have b4 : (i == 5) = false := beq_eq_false_iff_ne.2 h4
      by_cases h5 : i = 6
      ·have hm : desS i = (⟨#[105, 102, 114, 97, 109, 101]⟩ : ByteArray) := by unfold desS; rw [if_neg h0, if_neg h1, if_neg h2, if_neg h3, if_neg h4, if_pos h5]
       rw [hm]
       clear hm
       subst h5
       go_enter Tryz.func14, Tryz.ntmps14
       go_wp2
       go_ret
       exact ⟨rfl, rfl⟩
      ·have b5 : (i == 6) = false := beq_eq_false_iff_ne.2 h5
       have hm : desS i = ⟨#[]⟩ := by unfold desS; rw [if_neg h0, if_neg h1, if_neg h2, if_neg h3, if_neg h4, if_neg h5]
       rw [hm]
       clear hm
       go_enter Tryz.func14, Tryz.ntmps14
       go_wp2
       go_ret
       exact ⟨rfl, rfl⟩

end Go.Proofs.YtgoefeaopegdoaaGreatDoor

namespace Go.Proofs.YtgoefeaopegdoaaGreatDoor
open Go.RowKit

theorem wpList_load_mid_g {P : Program} {ops : Array Oper} {rest : List Oper} {op : Oper} {a : Act} {w : World} {Q : Exit → Act → World → Prop} (hw : Region.wanted op (yielded ops a.tmps) = true) (ty : TypeId) (x : Operand) (ho : op.op = .load ty x)
  (b o : Nat) (hx : a.eval x = .pointer (some ⟨b, o, none⟩)) (cs : List Value) (d : TypeDesc) (hc : w.rangeAt b o cs)
  (hu : P.underlying ty = some d) (hd : d.isRow = true) (hi : (P.info? ty).map (·.size) = some cs.length)
  (h : wpList P ops Q rest (a.put op.dst (.agg cs.toArray)) w) : wpList P ops Q (op :: rest) a w :=
 wpList_step fun K hK => by
  rw [if_pos hw]
  exact wp_load_mid ty x ho b o hx cs d hc hu hd hi (hK _ _ h)

def nSite : List UInt8 := [115, 101, 99, 45, 102, 101, 116, 99, 104, 45, 115, 105, 116, 101]

def nMode : List UInt8 := [115, 101, 99, 45, 102, 101, 116, 99, 104, 45, 109, 111, 100, 101]

def nDest : List UInt8 := [115, 101, 99, 45, 102, 101, 116, 99, 104, 45, 100, 101, 115, 116]

def hdr3 (a b c : ByteArray) : List Hd := [⟨nSite, a.data.toList⟩, ⟨nMode, b.data.toList⟩, ⟨nDest, c.data.toList⟩]

def lastT (L : List Adr) : Bool := match L.getLast? with
 | none => false
 | some u => trustV u

def hdrV (o : Org) (L : List Adr) (mode dest : Int) : List Hd := if lastT L then hdr3 (wd15 (rk15 o L)) (modS mode) (desS dest) else []

def HdrPost (H : List Hd) (w : World) (e : Ending) (w' : World) : Prop :=
 ∃ v, e = .returned v ∧ w'.ownsRow w.heap.size 38 2 v H.length (cellsH H) ∧ Below w.heap.size w w'

theorem last_snoc (L : List Adr) (m : Nat) (h : L.length = m + 1) (u : Adr) (hu : L[m]? = some u) : lastT L = trustV u := by
 unfold lastT
 rw [List.getLast?_eq_getElem?, h, Nat.add_sub_cancel, hu]

set_option maxHeartbeats 8000000 in
set_option maxRecDepth 100000 in
theorem headers15_any (o : Org) (v : Value) (P : List (Adr × Value)) (mode dest : Int) (w : World) (hg : Gd w) (hv : UlAt w v P) (ho : SiteOk o) :
  Calls Tryz.prog 17 #[orgVal o, v, .int .i64 mode, .int .i64 dest] w (HdrPost (hdrV o (P.map (·.1)) mode dest) w) := by
 have hv0 := hv
 obtain ⟨a1, c1, rfl, hc1, hm1, hv1⟩ := hv.view
 obtain ⟨oS, oH, oP, oQ, hvo, hxo⟩ := org_named (o)
 rw [hvo]
 obtain ⟨W1, hW1⟩ : ∃ X, (w.alloc (.cells #[.string oS, .string oH, .int .i64 oP, .bool oQ] 28)) = X := ⟨_, rfl⟩
 have hbW1 : Below w.heap.size w W1 := by rw [← hW1]; exact (Below.refl _ w).alloc (Nat.le_refl _) _
 have hsW1 : W1.heap.size = w.heap.size + 1 := by rw [← hW1]; simp
 have hOW1 : OrgIn W1 w.heap.size (o) := by
  unfold OrgIn
  rw [hxo, ← hW1]
  exact heap_alloc_new w _
 have HB1 := hid hbW1
 have HO1 := hid hOW1
 have HXo := hid hxo
 have HSt := hid (fun (Z : World) (hZ : Below w.heap.size w Z) => site15_any o (.slice a1 P.length c1) P Z (hg.kept hZ) (hv0.kept hZ) ho)
 rw [hvo] at HSt
 have HMo := hid (fun w => mode15_any mode w)
 have HDe := hid (fun w => dest15_any dest w)
 obtain ⟨L, hL⟩ : ∃ L, L = P.map (·.1) := ⟨_, rfl⟩
 have HLn := hid (show L.length = P.length by rw [hL, List.length_map])
 have HLa := hid (show ∀ k (h : k < P.length), L[k]? = some P[k].1 from fun k h => by rw [hL]; simp [h])
 rw [← hL] at HSt ⊢
 obtain ⟨HH, hHH⟩ : ∃ H, hdrV o L mode dest = H := ⟨_, rfl⟩
 have HYes := hid (show lastT L = true → HH = hdr3 (wd15 (rk15 o L)) (modS mode) (desS dest) from fun h => by rw [← hHH]; unfold hdrV; rw [h]; rfl)
 have HFal := hid (show lastT L = false → HH = [] from fun h => by rw [← hHH]; unfold hdrV; rw [h]; rfl)
 rw [hHH]
 clear hHH
 generalize wd15 (rk15 o L) = S at HSt HYes
 generalize modS mode = M at HMo HYes
 generalize desS dest = D at HDe HYes
 have HNil := hid (show HdrPost [] w (.returned (.slice none 0 0)) W1 from ⟨_, rfl, World.ownsRow_nil _ _ _ _, hbW1⟩)
 have HNo := hid (show L.length = 0 → lastT L = false from fun h => by rw [List.eq_nil_of_length_eq_zero h]; rfl)
 have HLs := hid (last_snoc L)
 have HGx := hid hg
 have HV := hid hv1
 obtain ⟨n, hn⟩ : ∃ n, P.length = n := ⟨_, rfl⟩
 have HN := hid hn
 rw [hn] at HSt HLn ⊢
 have hnm : n ≤ 9223372036854775807 := by rw [← hn]; unfold maxLen at hm1; omega
 clear hv hv0 hv1 hc1 hm1 hbW1 hOW1 hsW1 hxo hvo hL hn hg
 cases n with
 | zero =>
  rw [HFal.out (HNo.out HLn.out)]
  go_enter Tryz.func17, Tryz.ntmps17
  go_wp2_with fail
  go_ret
  exact HNil.out
 | succ m =>
  have hmP : m < P.length := by have := HN.out; omega
  obtain ⟨g1, o1, rfl, hrg, hpt, htr⟩ := HV.out m hmP
  have HLast := hid (HLs.out m HLn.out _ (HLa.out m hmP))
  obtain ⟨A, hA⟩ : ∃ A, P[m].1 = A := ⟨_, rfl⟩
  obtain ⟨pv, hpv⟩ : ∃ A, P[m].2 = A := ⟨_, rfl⟩
  rw [hA] at hrg hpt htr HLast
  rw [hpv] at hrg hpt
  have hrg' := range_kept hrg HB1.out
  have hpt' := hpt.kept HB1.out
  obtain ⟨da, dn, dc, rfl⟩ := path_sl hpt
  obtain ⟨d0, d1, d2, d3, d4, d5, d6, d8, d9, d10, d11, hxd⟩ := adr_cells A da dn dc
  have hvd : adrVal A (.slice da dn dc) = .agg #[.string d0, .string d1, .string d2, .string d3, .bool d4, .int .i64 d5, .bool d6, .slice da dn dc, .string d8, .string d9, .bool d10, .bool d11] := by unfold adrVal; rw [hxd]
  rw [hxd] at hrg'
  have HRg := hid hrg'
  have HTr := hid (trusted_any A (.slice da dn dc) W1 (HGx.out.kept HB1.out) hpt' htr)
  rw [hvd] at HTr
  rw [HLast.out] at HYes HFal
  generalize trustV A = tr at HTr HYes HFal
  have hsub : (((m + 1 : Nat) : Int)) - 1 = (m : Int) := by omega
  have hm1 : ((m : Int)) < ((m + 1 : Nat) : Int) := by omega
  have hz0 : (((m + 1 : Nat) : Int) == 0) = false := by rw [beq_eq_false_iff_ne]; omega
  have hz1 : ¬ ((m + 1 : Nat) : Int) = 0 := by omega
  clear hrg hrg' hpt hpt' htr hA hpv hxd hvd hmP HLast
  generalize hk : m + 1 = k at *
  have HK := hid hk
  have hmk : m < k := by omega
  clear hk
  go_enter Tryz.func17, Tryz.ntmps17
  go_wp2_with (refine wpList_load_mid_g (by kernel_rfl) 34 (.tmp 17) rfl g1 (o1 + m * 12) rfl [.string d0, .string d1, .string d2, .string d3, .bool d4, .int .i64 d5, .bool d6, .slice da dn dc, .string d8, .string d9, .bool d10, .bool d11] _ HRg.out Tryz.underlying34 rfl sizeU ?_)
  refine HTr.out.mono ?_
  rintro e w2 ⟨rfl, hb2⟩
  have HB2 := hid (below2 HB1.out hb2)
  have HO2 := hid (HO1.out.kept hb2)
  clear hb2
  cases tr with
  | false =>
   have HE := hid (HFal.out (by first | rfl | trivial))
   have HF := hid (show HdrPost [] w (.returned (.slice none 0 0)) w2 from ⟨_, rfl, World.ownsRow_nil _ _ _ _, HB2.out⟩)
   go_wp2_with fail
   go_ret
   rw [HE.out]
   exact HF.out
  | true =>
   have HE := hid (HYes.out (by first | rfl | trivial))
   obtain ⟨p0, p1, p2, p3⟩ := org_four HXo.out HO2.out
   go_wp2_with fail
   refine (HSt.out _ HB2.out).mono ?_
   rintro e w3 ⟨rfl, hb3⟩
   have HB3 := hid (below2 HB2.out hb3)
   clear hb3 p0 p1 p2 p3
   go_wp2_with fail
   refine (HMo.out _).mono ?_
   rintro e w4 ⟨rfl, hw4⟩
   rw [← hw4]
   clear hw4
   go_wp2_with fail
   refine (HDe.out _).mono ?_
   rintro e w5 ⟨rfl, hw5⟩
   rw [← hw5]
   clear hw5
   have HF := hid (show HdrPost (hdr3 S M D) w (.returned (.slice (some ⟨w3.heap.size, 0, none⟩) 3 3)) (w3.alloc (.cells #[.string ⟨nSite.toArray⟩, .string S, .string ⟨nMode.toArray⟩, .string M, .string ⟨nDest.toArray⟩, .string D] 38)) from
    ⟨_, rfl, World.ownsRow_lit w3 _ 3 HB3.out.size (by decide) rfl, HB3.out.alloc HB3.out.size _⟩)
   go_wp2_with fail
   go_ret
   rw [HE.out]
   exact HF.out

end Go.Proofs.YtgoefeaopegdoaaGreatDoor

namespace Go.Proofs.YtgoefeaopegdoaaGreatDoor
open Go.RowKit

theorem kept_cell {w w' : World} {a : Addr} {v : Value} (h : w.cell? a = some v) (hb : Below w.heap.size w w') : w'.cell? a = some v := (hb.cell (World.block_lt_of_cell? w _ h)).trans h

end Go.Proofs.YtgoefeaopegdoaaGreatDoor

namespace Go.Proofs.YtgoefeaopegdoaaGreatDoor
open Go.RowKit

def SlV (w : World) (B : Nat) (T : TypeId) (v : Value) (us : List Value) : Prop :=
 (v = .slice none 0 0 ∧ us = []) ∨ ∃ g o c cur, v = .slice (some ⟨g, o, none⟩) us.length c ∧ B ≤ g ∧ w.heap[g]? = some (.cells cur T (0, 0)) ∧ us.length ≤ c ∧ o + c ≤ cur.size ∧ c ≤ maxLen ∧ ∀ j u, us[j]? = some u → cur[o + j]? = some u

theorem SlV.nil (w : World) (B : Nat) (T : TypeId) : SlV w B T (.slice none 0 0) [] := .inl ⟨rfl, rfl⟩

theorem SlV.form {w : World} {B : Nat} {T : TypeId} {v : Value} {us : List Value} (h : SlV w B T v us) : ∃ a c, v = .slice a us.length c ∧ us.length ≤ c := by
 rcases h with ⟨rfl, rfl⟩ | ⟨g, o, c, cur, rfl, _, _, hc, _⟩
 ·exact ⟨none, 0, rfl, Nat.le_refl _⟩
 ·exact ⟨_, c, rfl, hc⟩

theorem SlV.lt {w : World} {B : Nat} {T : TypeId} {v : Value} {us : List Value} (h : SlV w B T v us) : ∀ k, v.ownBlock = some k → B ≤ k ∧ k < w.heap.size := by
 intro k hk
 rcases h with ⟨rfl, rfl⟩ | ⟨g, o, c, cur, rfl, hB, hg, _⟩
 ·simp [Value.ownBlock] at hk
 ·simp [Value.ownBlock] at hk
  subst hk
  exact ⟨hB, (Array.getElem?_eq_some_iff.1 hg).1⟩

theorem SlV.same {w w' : World} {B : Nat} {T : TypeId} {v : Value} {us : List Value} (h : SlV w B T v us) (hk : ∀ k, v.ownBlock = some k → w'.heap[k]? = w.heap[k]?) : SlV w' B T v us := by
 rcases h with h | ⟨g, o, c, cur, rfl, hB, hg, h1, h2, h3, h4⟩
 ·exact .inl h
 ·exact .inr ⟨g, o, c, cur, rfl, hB, (hk g rfl).trans hg, h1, h2, h3, h4⟩

theorem SlV.other {w : World} {B p : Nat} {T T' : TypeId} {v : Value} {us : List Value} {cs : Array Value} {fr : Nat × Nat} (h : SlV w B T v us) (hp : w.heap[p]? = some (.cells cs T' fr)) (hne : T' ≠ T) : v.ownBlock ≠ some p := by
 rcases h with ⟨rfl, rfl⟩ | ⟨g, o, c, cur, rfl, hB, hg, _⟩
 ·simp [Value.ownBlock]
 ·intro e
  simp [Value.ownBlock] at e
  subst e
  rw [hp] at hg
  injection hg with hg
  injection hg with _ hg _
  exact hne hg

theorem SlV.cell {w : World} {B : Nat} {T : TypeId} {v : Value} {us : List Value} (h : SlV w B T v us) (j : Nat) (hj : j < us.length) : ∃ g o c, v = .slice (some ⟨g, o, none⟩) us.length c ∧ us.length ≤ c ∧ w.cell? ⟨g, o + j, none⟩ = some us[j] := by
 rcases h with ⟨rfl, rfl⟩ | ⟨g, o, c, cur, rfl, hB, hg, h1, h2, h3, h4⟩
 ·simp at hj
 ·refine ⟨g, o, c, rfl, h1, ?_⟩
  rw [Lib.cell_of_heap hg]
  exact h4 j us[j] (by simp [hj])

theorem SlV.tail {w : World} {B g o c : Nat} {T : TypeId} {a : Value} {us : List Value} (h : SlV w B T (.slice (some ⟨g, o, none⟩) (us.length + 1) c) (a :: us)) : SlV w B T (.slice (some ⟨g, o + 1, none⟩) us.length (c - 1)) us := by
 rcases h with ⟨h, _⟩ | ⟨g', o', c', cur, e, hB, hg, h1, h2, h3, h4⟩
 ·cases h
 ·injection e with e1 e2 e3
  injection e1 with e1
  injection e1 with e4 e5
  subst e4 e5 e3
  rw [List.length_cons] at h1
  refine .inr ⟨g, o + 1, c - 1, cur, rfl, hB, hg, by omega, by omega, by omega, fun j u hu => ?_⟩
  have := h4 (j + 1) u (by simpa using hu)
  rw [show o + 1 + j = o + (j + 1) by omega]
  exact this

theorem run_append_at {P : Program} (w : World) (t ty e : TypeId) (i : TypeInfo) (ht : P.underlying t = some (.slice e)) (hi : P.info? e = some i) (hsz : i.size = 1)
  (g o sLen sCap : Nat) (cur : Array Value) (hg : w.heap[g]? = some (.cells cur e (0, 0)))
  (a : Addr) (c : Nat) (x : Value) (hx : w.cell? (a.add 0) = some x) (h1 : x.oneCell' = true)
  (hroom : sLen + 1 ≤ sCap) (hfit : o + sLen + 1 ≤ cur.size) :
  (Builtin.append_ #[t, t] ty #[.slice (some ⟨g, o, none⟩) sLen sCap, .slice (some a) 1 c]).run P w =
   .ok (.slice (some ⟨g, o, none⟩) (sLen + 1) sCap) (w.setRow g (cur.toList.take (o + sLen) ++ [x] ++ cur.toList.drop (o + sLen + 1)).toArray) := by
 have hf := run_firstCells_some (P := P) w 1 1 a 1 c [x] rfl (fun j u hj => by
  match j, hj with
  | 0, hj => simp at hj; subst hj; exact hx)
 have hst := run_storeCells_at P g (o + sLen) e [x] 0 cur w hg (by simpa using hfit) (by simpa using h1)
 simp only [Nat.add_zero, List.length_cons, List.length_nil, Nat.zero_add] at hst
 simp [Builtin.append_, run_underlying ht, sizeOf, typeInfo, hi, hsz, Builtin.lenOf, hroom, hf, Addr.add_lit, hst]

theorem run_append_slv {P : Program} (w : World) (B : Nat) (t ty e : TypeId) (i : TypeInfo) (z : Value) (ht : P.underlying t = some (.slice e)) (hi : P.info? e = some i) (hz : i.zero = some z) (hsz : i.size = 1) (hby : i.bytes = 24) (hzs : z.cells.size = 1)
  (v : Value) (us : List Value) (h : SlV w B e v us) (a : Addr) (c : Nat) (x : Value) (hx : w.cell? (a.add 0) = some x) (h1 : x.oneCell' = true) (hn : us.length ≤ 100000) (hB : B ≤ w.heap.size) :
  ∃ v' w', (Builtin.append_ #[t, t] ty #[v, .slice (some a) 1 c]).run P w = .ok v' w' ∧ SlV w' B e v' (us ++ [x]) ∧ w.grownBy w' v.ownBlock ∧ (v'.ownBlock = v.ownBlock ∨ ∃ k, v'.ownBlock = some k ∧ w.heap.size ≤ k) := by
 have hml : maxLen = 9223372036854775807 := rfl
 have hnews : ∀ j u, [x][j]? = some u → w.cell? (a.add j) = some u := fun j u hj => by
  match j, hj with
  | 0, hj => simp at hj; subst hj; exact hx
 rcases h with ⟨rfl, rfl⟩ | ⟨g, o, cap, cur, rfl, hBg, hg, hnc, hoc, hcm, hc⟩
 ·have hr := run_append_nil (P := P) w t ty e i z ht hi hz a 1 c [x] (by rw [hsz]; rfl) hnews (by decide) (by decide) (by omega)
  refine ⟨_, _, hr, ?_, ⟨rfl, rfl, rfl, by simp, fun k hk _ => Lib.alloc_old w.drew _ k hk⟩, .inr ⟨_, rfl, Nat.le_refl _⟩⟩
  have hge := grownCap_ge w 1 0 e
  refine .inr ⟨w.heap.size, 0, _, _, rfl, hB, heap_alloc_new w.drew _, hge, ?_, grownCap_le_maxLen w 1 0 e (by omega), fun j u hu => ?_⟩
  ·simp only [Array.size_append, List.size_toArray, size_zeroCells, hzs, List.length_cons, List.length_nil]
   omega
  ·have hj : j < 1 := by have := (List.getElem?_eq_some_iff.1 hu).1; simpa using this
   obtain rfl : j = 0 := by omega
   simp at hu
   subst hu
   rw [Nat.zero_add, Array.getElem?_append_left (by simp)]
   simp
 ·by_cases hroom : us.length + 1 ≤ cap
  ·have hr := run_append_at (P := P) w t ty e i ht hi hsz g o us.length cap cur hg a c x hx h1 hroom (by omega)
   refine ⟨_, _, hr, ?_, ?_, .inl rfl⟩
   ·refine .inr ⟨g, o, cap, _, by simp, hBg, setRow_heap w g cur _ e (0, 0) hg, by simpa using hroom, ?_, hcm, fun j u hu => ?_⟩
    ·simp only [List.size_toArray, List.length_append, List.length_take, List.length_drop, Array.length_toList, List.length_cons, List.length_nil]
     omega
    ·have hj : j < us.length + 1 := by have := (List.getElem?_eq_some_iff.1 hu).1; simpa using this
     have hlt : (cur.toList.take (o + us.length)).length = o + us.length := by rw [List.length_take]; have : cur.toList.length = cur.size := Array.length_toList; omega
     rw [List.getElem?_toArray, List.append_assoc]
     by_cases hjn : j < us.length
     ·rw [List.getElem?_append_left (by omega), List.getElem?_take, if_pos (by omega), Array.getElem?_toList]
      rw [List.getElem?_append_left hjn] at hu
      exact hc j u hu
     ·obtain rfl : j = us.length := by omega
      rw [List.getElem?_append_right (by omega), hlt, Nat.sub_self]
      rw [List.getElem?_append_right (Nat.le_refl _), Nat.sub_self] at hu
      simpa using hu
   ·exact ⟨rfl, rfl, rfl, by simp, fun k hk hne => setRow_other w g k _ (fun e => hne (by rw [e]; rfl))⟩
  ·have hr := run_append_grow (P := P) w t ty e i z ht hi hz ⟨g, o, none⟩ us.length cap us (by rw [hsz, Nat.mul_one]) (fun j u hu => by
    rw [Addr.add_lit, Lib.cell_of_heap hg]
    exact hc j u hu) a 1 c [x] (by rw [hsz]; rfl) hnews (by omega) (by omega) (growslice_fits (by omega) (by rw [hby]; omega))
   refine ⟨_, _, hr, ?_, ⟨rfl, rfl, rfl, by simp, fun k hk _ => Lib.alloc_old w.drew _ k hk⟩, .inr ⟨_, rfl, Nat.le_refl _⟩⟩
   have hge := grownCap_ge w (us.length + 1) cap e
   refine .inr ⟨w.heap.size, 0, _, _, by simp, hB, heap_alloc_new w.drew _, by simpa using hge, ?_, grownCap_le_maxLen w (us.length + 1) cap e (by omega), fun j u hu => ?_⟩
   ·simp only [Array.size_append, List.size_toArray, size_zeroCells, hzs, List.length_cons, List.length_nil]
    omega
   ·have hj : j < us.length + 1 := by have := (List.getElem?_eq_some_iff.1 hu).1; simpa using this
    rw [Nat.zero_add, Array.getElem?_append_left (by simp; omega), show us.toArray ++ [x].toArray = (us ++ [x]).toArray by simp]
    simpa using hu

end Go.Proofs.YtgoefeaopegdoaaGreatDoor

namespace Go.Proofs.YtgoefeaopegdoaaGreatDoor
open Go.RowKit

theorem SlB.some {w : World} {a : Option Addr} {len cap : Nat} {l : List UInt8} (h : SlB w (.slice a len cap) l) (h0 : 0 < l.length) : ∃ x, a = some x ∧ len = l.length ∧ ∀ j (hj : j < l.length), w.cell? (x.add j) = some (.int .u8 (l[j].toNat : Int)) := by
 rcases h with ⟨c, e, rfl⟩ | ⟨x, c, e, hc⟩
 ·simp at h0
 ·obtain ⟨rfl, rfl, rfl⟩ := Value.slice.inj e
  exact ⟨x, rfl, rfl, hc⟩

theorem SlB.length {w : World} {a : Option Addr} {len cap : Nat} {l : List UInt8} (h : SlB w (.slice a len cap) l) : len = l.length := by
 rcases h with ⟨c, e, rfl⟩ | ⟨x, c, e, hc⟩
 ·obtain ⟨_, rfl, _⟩ := Value.slice.inj e
  rfl
 ·obtain ⟨_, rfl, _⟩ := Value.slice.inj e
  rfl

end Go.Proofs.YtgoefeaopegdoaaGreatDoor

namespace Go.Proofs.YtgoefeaopegdoaaGreatDoor
open Go.RowKit

theorem setCell_idle {w : World} {p i : Nat} {cs : Array Value} {T : TypeId} {v : Value} (hp : w.heap[p]? = some (.cells cs T (0, 0))) (h : cs.setIfInBounds i v = cs) (q : Addr) : (w.setCell ⟨p, i, none⟩ v).cell? q = w.cell? q := by
 refine World.cell?_of_block ?_
 by_cases hq : q.block = p
 ·rw [hq, heap_setCell_same w p i cs T v hp, h, hp]
 ·exact heap_setCell_other w ⟨p, i, none⟩ q.block v hq

end Go.Proofs.YtgoefeaopegdoaaGreatDoor

namespace Go.Proofs.YtgoefeaopegdoaaGreatDoor
open Go.RowKit

structure Three where
 (a b c : Nat)

structure Kd where
 W : Nat
 R : Nat
 s0 : Three
 s1 : Three
 g0 : Three
 g1 : Three

structure St where
 (a b c d e f g h : Nat)

def St.list (s : St) : List Nat := [s.a, s.b, s.c, s.d, s.e, s.f, s.g, s.h]

def Kd.B (k : Kd) : Nat := k.W / 8

def Kd.size (k : Kd) : Nat := 16 * k.B

end Go.Proofs.YtgoefeaopegdoaaGreatDoor

namespace Go.Proofs.YtgoefeaopegdoaaGreatDoor
open Go.RowKit

def cW (K : IntKind) (l : List Nat) : List Value := l.map fun (n : Nat) => .int K (n : Int)

def Rw (w : World) (g : Nat) (K : IntKind) (t : TypeId) (l : List Nat) : Prop := w.heap[g]? = some (.cells (cW K l).toArray t (0, 0))

theorem Rw.lt {w : World} {g : Nat} {K : IntKind} {t : TypeId} {l : List Nat} (h : Rw w g K t l) : g < w.heap.size := (Array.getElem?_eq_some_iff.1 h).1

theorem Rw.kept {w w' : World} {g : Nat} {K : IntKind} {t : TypeId} {l : List Nat} (h : Rw w g K t l) (hb : Below w.heap.size w w') : Rw w' g K t l := row_kept h hb

theorem Rw.drew {w : World} {g : Nat} {K : IntKind} {t : TypeId} {l : List Nat} (h : Rw w g K t l) : Rw w.drew g K t l := h

theorem Rw.cell {w : World} {g : Nat} {K : IntKind} {t : TypeId} {l : List Nat} (h : Rw w g K t l) (i : Nat) (hi : i < l.length) : w.cell? ⟨g, i, none⟩ = some (.int K (l.getD i 0 : Nat)) := by
 rw [cell_of_row w g i _ t _ h]
 simp [cW, hi]

theorem Rw.set {w : World} {g : Nat} {K : IntKind} {t : TypeId} {l : List Nat} (h : Rw w g K t l) (i n : Nat) : Rw (w.setCell ⟨g, i, none⟩ (.int K (n : Int))) g K t (l.set i n) := by
 have := Lib.heap_setCell_same h (i := i) (.int K (n : Int))
 unfold Rw
 rw [this]
 congr 2
 simp [cW, List.map_set]

theorem Rw.far {w : World} {g b j : Nat} {K : IntKind} {t : TypeId} {l : List Nat} {x : Value} (h : Rw w g K t l) (hne : g ≠ b) : Rw (w.setCell ⟨b, j, none⟩ x) g K t l := by
 unfold Rw
 rw [Below.heap_setCell w ⟨b, j, none⟩ x g hne]
 exact h

theorem Rw.more {w : World} {g : Nat} {K : IntKind} {t : TypeId} {l : List Nat} (h : Rw w g K t l) (o : Obj) : Rw (w.alloc o) g K t l := h.kept ((Below.refl _ _).alloc (Nat.le_refl _) _)

theorem Rw.put {w : World} {g : Nat} {K : IntKind} {t : TypeId} {l : List Nat} (h : Rw w g K t l) (m : List Nat) (hm : m.length = l.length) : Rw (w.setCells g 0 (cW K m)) g K t m := by
 have key : ∀ (m a b : List Nat) (w : World), b.length = m.length → Rw w g K t (a ++ b) → Rw (w.setCells g a.length (cW K m)) g K t (a ++ m) := by
  intro m
  induction m with
  | nil => intro a b w hb h; obtain rfl := List.eq_nil_of_length_eq_zero hb; exact h
  | cons x r ih =>
   intro a b w hb h
   cases b with
   | nil => simp at hb
   | cons y b =>
    have e := h.set a.length x
    have e2 : (a ++ y :: b).set a.length x = (a ++ [x]) ++ b := by simp
    rw [e2] at e
    have := ih (a ++ [x]) b _ (by simpa using hb) e
    simpa [cW, World.setCells] using this
 simpa using key m [] l w hm.symm h

theorem Below.both {B : Nat} {X Y : World} (h : Below B X Y) (a : Addr) (u : Value) : Below B (X.setCell a u) (Y.setCell a u) :=
 ⟨h.os, h.tape, h.output, by simpa [World.setCell] using h.size, fun k hk => by simp only [World.setCell, Array.getElem?_modify, h.block k hk]⟩

def But1 (wr : World) (a : Addr) (u : Value) (X : World) : Prop := Below wr.heap.size (wr.setCell a u) (X.setCell a u)

theorem size_setCell (w : World) (a : Addr) (u : Value) : (w.setCell a u).heap.size = w.heap.size := by simp [World.setCell]

theorem But1.size {wr X : World} {a : Addr} {u : Value} (h : But1 wr a u X) : wr.heap.size ≤ X.heap.size := by
 have := Below.size h
 rwa [size_setCell, size_setCell] at this

theorem But1.next {wr X Y : World} {a : Addr} {u : Value} (h : But1 wr a u X) (hb : Below X.heap.size X Y) : But1 wr a u Y :=
 Below.trans h ((Below.both hb a u).mono h.size)

theorem twice (w : World) (a : Addr) (u : Value) : (w.setCell a u).setCell a u = w.setCell a u := by
 unfold World.setCell
 congr 1
 apply Array.ext_getElem?
 intro i
 simp only [Array.getElem?_modify]
 split
 ·cases w.heap[i]? with
  | none => rfl
  | some o =>
   cases o with
   | cells c e f => cases hs : a.spot <;> simp
   | _ => rfl
 ·rfl

theorem But1.put {wr X : World} {a : Addr} {u : Value} (h : But1 wr a u X) : But1 wr a u (X.setCell a u) := by
 unfold But1
 rw [twice]
 exact h

theorem But1.cell {wr X : World} {a : Addr} {u v : Value} (h : But1 wr a u X) {p : Addr} (hp : wr.cell? p = some v) (hne : a ≠ p) : X.cell? p = some v := by
 have h1 := Below.cell h (p := p) (World.block_lt_of_cell? wr p hp)
 rw [World.cell?_setCell_other _ _ _ _ hne, World.cell?_setCell_other _ _ _ _ hne] at h1
 rw [h1]; exact hp

end Go.Proofs.YtgoefeaopegdoaaGreatDoor

namespace Go.Proofs.YtgoefeaopegdoaaGreatDoor
open Go.RowKit

def regionOf (n : Nat) : Code → Option Code
 | .region id ops d => if id = n then some (.region id ops d) else none
 | .seq a b => match regionOf n a with
  | some c => some c
  | none => regionOf n b
 | .block _ c => regionOf n c
 | .loop c => regionOf n c
 | .scope c => regionOf n c
 | .cond _ a b => match regionOf n a with
  | some c => some c
  | none => regionOf n b
 | _ => none

def loopsOf : Code → List Code
 | .seq a b => loopsOf a ++ loopsOf b
 | .block _ c => loopsOf c
 | .loop c => c :: loopsOf c
 | .scope c => loopsOf c
 | .cond _ a b => loopsOf a ++ loopsOf b
 | _ => []

def exit0 (K : Act → World → Prop) : Exit → Act → World → Prop
 | .exit 0, a, w => K a w
 | _, _, _ => False

theorem wp_cut0 {P : Program} {c : Code} {Q : Exit → Act → World → Prop} {a : Act} {w : World} (h : c.wp P (exit0 fun a w => Q (.exit 0) a w) a w) : c.wp P Q a w :=
 Code.wp_mono (fun e a w h => by unfold exit0 at h; split at h <;> first | exact h | exact h.elim) h

theorem wp_cut {P : Program} {c : Code} {Q : Exit → Act → World → Prop} {a : Act} {w : World} (h : c.wp P (Exit.then (fun a w => Q .normal a w) fun _ _ _ => False) a w) : c.wp P Q a w :=
 Code.wp_mono (fun e a w h => by cases e <;> first | exact h | exact h.elim) h

end Go.Proofs.YtgoefeaopegdoaaGreatDoor
