/-
  The walk of the law DigestKept.
-/
import Derived.Test.YtmjokddplikegaaDoorZLsm
import Derived.Test.YtmjokddplikegaaDoorZ0
import Derived.Test.YtmjokddplikegaaDoorZWs
import Derived.Test.YtmjokddplikegaaDoorZWu
set_option linter.unusedSimpArgs false
set_option linter.unusedVariables false
namespace Go.Proofs.YtmjokddplikegaaDoor
open Go.RowKit

/-- Behind k rounds: a book of k lists, each the bytes l, each with room of its own. -/
def KeptInv (w0 wr : World) (p : Nat) (l : List UInt8) (k : Nat) : Prop :=
  ∃ h xs ys, xs.length = k ∧ h ≤ k * 2000 ∧ Bk wr w0.heap.size p h xs ys l ∧ (∀ x ∈ xs, Fm w0.heap.size x) ∧ Below w0.heap.size w0 wr

theorem KeptInv.start (w w1 : World) (l : List UInt8) (hb : Below w.heap.size w w1) : KeptInv w (w1.alloc (.cells #[.slice none 0 0, .slice none 0 0, .int .i64 0, .bool false] 42)) w1.heap.size l 0 := by
  refine ⟨0, [], [], rfl, Nat.le_refl _, ⟨hb.size, rfl, ⟨_, _, heap_alloc_new w1 _, World.ownsRow_nil _ _ _ _, World.ownsRow_nil _ _ _ _, .inl rfl⟩, by simp, by simp, List.Pairwise.nil⟩, by simp, hb.alloc hb.size _⟩

theorem KeptInv.more {w0 wr w2 : World} {p k : Nat} {l : List UInt8} {s : ByteArray} (hinv : KeptInv w0 wr p l k) (hk : k ≤ 1) (hb : Below wr.heap.size wr w2) (g cap : Nat) (hc : cap ≤ 1900) (hx : w2.ownsRow wr.heap.size 5 1 (.slice (some ⟨g, 0, none⟩) l.length cap) l.length (Lib.byteCells l)) :
    Calls Tryd.prog 17 #[.pointer (some ⟨p, 0, none⟩), .slice (some ⟨g, 0, none⟩) l.length cap] w2 fun e w' => e = .returned (.tuple #[]) ∧ KeptInv w0 w' p l (k + 1) := by
  obtain ⟨h, xs, ys, hxl, hh, hbk, hfm, hbw⟩ := hinv
  have hs := hbw.size
  have hs2 := hb.size
  have hg := (hx.lt g rfl).1
  have hlc : l.length ≤ cap := by
    rcases hx.2 with ⟨e, _⟩ | ⟨g', cap', cur, e, _, _, h1, _⟩
    · simp at e
    · obtain ⟨_, _, rfl⟩ := Value.slice.inj e
      exact h1
  refine (keep_any w0.heap.size p h xs ys l g cap w2 (hbk.below hb) (ownsRow_lower hx hs) (fun x hxm e => ?_) (by omega) (by omega) (by omega)).mono ?_
  · have := ((hbk.2.2.2.1 x hxm).lt g e).2
    omega
  · rintro e w' ⟨rfl, ⟨y, hbk'⟩, hb'⟩
    refine ⟨rfl, h + cap + 1, _, _, by simp [hxl], by omega, hbk', fun x hxm => ?_, (hbw.trans (hb.mono hs)).trans hb'⟩
    rcases List.mem_append.1 hxm with hm | hm
    · exact hfm x hm
    · rw [List.mem_singleton.1 hm]
      exact ⟨rfl, hlc, by show cap ≤ _; omega, by show _ ≤ g; omega⟩

set_option maxHeartbeats 4000000 in
theorem digestKept_walk (a0 : Option Addr) (len0 cap0 : Nat) (z0 : List Int) (w : World) (w0 : IsRow .u8 w a0 len0 cap0 z0) (hg : Gt w) :
    Calls Tryd.prog 6 #[.slice a0 len0 cap0] w fun e w' => e = .returned (.bool true) ∧ Below w.heap.size w w' := by
  obtain ⟨l0, hl0, hS0, hc0, hm0⟩ := w0.bytes
  have HG := hid hg
  have HS0 := hid hS0
  have HL0 := hid hl0
  have HC0 := hid hc0
  have HM0 := hid hm0
  clear w0 hg hS0 hl0 hc0 hm0
  obtain ⟨r, hr⟩ : ∃ r, r = summedV wid sqr cbr 8 48 (l0.take 200) := ⟨_, rfl⟩
  have HRL := hid (show r.length = 48 by rw [hr]; exact summed_len wid _ _ _ _ _ (by decide))
  have HR := hid (show sumV sqr cbr 384 (l0.take 200) = some r by rw [hr]; rfl)
  clear hr
  have HST := hid (KeptInv.start w w r (Below.refl _ w))
  go_enter Tryd.func6, Tryd.ntmps6
  go_wp2_with fail
  go_loopw [4] (fun i wr => ∃ k : Nat, k ≤ 2 ∧ i = .int .i64 k ∧ KeptInv w wr w.heap.size r k) (fun i _ => 2 - (intOf i).toNat)
  case atStart => exact ⟨0, by omega, rfl, HST.out⟩
  case round =>
    clear HST
    obtain ⟨k, hk, rfl, hinv⟩ := hrel
    have HI := hid hinv
    have HBW := hid (show Below w.heap.size w wr by obtain ⟨h, xs, ys, _, _, _, _, hb⟩ := hinv; exact hb)
    clear hinv
    by_cases hlt : k < 2
    · have hltI : (k : Int) < 2 := by omega
      have HSW := hid (HS0.out.kept HBW.out)
      go_wp2_with fail
      refine (fewBytes_any a0 len0 cap0 200 l0 wr HL0.out HSW.out HC0.out HM0.out (by decide)).mono ?_
      rintro e w1 ⟨len, hlen, hlc, rfl, hS, rfl⟩
      have HSM := hid (sum_384 a0 len cap0 (l0.take 200) wr (HG.out.kept HBW.out) hS hlc HM0.out (by simp; omega))
      clear hlen hlc hS
      go_wp2_with fail
      refine HSM.out.mono ?_
      rintro e w2 ⟨⟨hn, rfl⟩ | ⟨r', G, n, hr', hn, rfl, hown⟩, hb2⟩
      · rw [HR.out] at hn; cases hn
      · rw [HR.out] at hr'
        obtain rfl := Option.some.inj hr'
        obtain rfl : n = r.length := hn.symm
        have HOW := hid hown
        have HB2 := hid hb2
        clear hr' hn hown hb2 HSM
        go_wp2_with fail
        refine (HI.out.more (s := ⟨#[]⟩) (by omega) HB2.out G r.length (by rw [HRL.out]; omega) HOW.out).mono ?_
        rintro e w3 ⟨rfl, hinv3⟩
        have HI3 := hid hinv3
        clear hinv3
        go_wp2_with fail
        go_roundw
        case rel => exact ⟨k + 1, by omega, by go_num, HI3.out⟩
        case measure => simp [intOf]; omega
    · have hltI : decide ((k : Int) < 2) = false := by simp; omega
      obtain rfl : k = 2 := by omega
      obtain ⟨h, xs, ys, hxl, hh, hbk, hfm, hbw⟩ := HI.out
      have HAP := hid (apart_any w.heap.size w.heap.size h xs ys r wr hbk hfm (by omega) (by omega) (by rw [HRL.out]; omega) hbw.size)
      have HGW := hid (fun X (hb : Below w.heap.size wr X) => known8 X (HG.out.kept (hbw.trans hb)))
      clear hbk hfm hxl hh
      go_wp2_with fail
      refine HAP.out.mono ?_
      rintro e w4 ⟨rfl, hb4⟩
      go_wp2_with fail
      refine (HGW.out w4 hb4).mono ?_
      rintro e w5 ⟨rfl, hb5⟩
      have HB := hid ((hbw.trans hb4).trans (hb5.mono (by have := hb4.size; have := hbw.size; omega)))
      clear hb4 hb5
      go_wp2_with fail
      go_ret
      exact ⟨rfl, HB.out⟩

end Go.Proofs.YtmjokddplikegaaDoor
