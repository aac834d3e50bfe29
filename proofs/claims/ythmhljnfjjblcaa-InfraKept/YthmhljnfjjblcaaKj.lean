/-
  The walk of the law InfraKept.
-/
import Derived.Test.YthmhljnfjjblcaaWk
import Derived.Test.YthmhljnfjjblcaaWn
import Derived.Test.YthmhljnfjjblcaaWp
import Derived.Test.YthmhljnfjjblcaaPl
import Derived.Test.YthmhljnfjjblcaaKc
import Derived.Test.YthmhljnfjjblcaaWq
import Derived.Test.YthmhljnfjjblcaaWs
import Derived.Test.YthmhljnfjjblcaaWu
set_option linter.unusedSimpArgs false
set_option linter.unusedVariables false
namespace Go.Proofs.Ythmhljnfjjblcaa
open Go.RowKit

/-- Behind k rounds: a book of k lists, each the bytes l, each with room of its own. -/
def KeptInv (w0 wr : World) (p : Nat) (l : List UInt8) (k : Nat) : Prop :=
  ∃ h xs ys, xs.length = k ∧ h ≤ k * 2000 ∧ Bk wr w0.heap.size p h xs ys l ∧ (∀ x ∈ xs, Fm w0.heap.size x) ∧ Below w0.heap.size w0 wr

theorem KeptInv.start (w w1 : World) (l : List UInt8) (hb : Below w.heap.size w w1) : KeptInv w (w1.alloc (.cells #[.slice none 0 0, .slice none 0 0, .int .i64 0, .bool false] 42)) w1.heap.size l 0 := by
  refine ⟨0, [], [], rfl, Nat.le_refl _, ⟨hb.size, rfl, ⟨_, _, heap_alloc_new w1 _, World.ownsRow_nil _ _ _ _, World.ownsRow_nil _ _ _ _, .inl rfl⟩, by simp, by simp, List.Pairwise.nil⟩, by simp, hb.alloc hb.size _⟩

theorem KeptInv.more {w0 wr w2 : World} {p k : Nat} {l : List UInt8} {s : ByteArray} (hinv : KeptInv w0 wr p l k) (hk : k ≤ 1) (hb : Below wr.heap.size wr w2) (g cap : Nat) (hc : cap ≤ 1900) (hx : w2.ownsRow wr.heap.size 5 1 (.slice (some ⟨g, 0, none⟩) l.length cap) l.length (Lib.byteCells l)) :
    Calls Try.prog 36 #[.pointer (some ⟨p, 0, none⟩), .slice (some ⟨g, 0, none⟩) l.length cap] w2 fun e w' => e = .returned (.tuple #[]) ∧ KeptInv w0 w' p l (k + 1) := by
  obtain ⟨h, xs, ys, hxl, hh, hbk, hfm, hbw⟩ := hinv
  have hs := hbw.size
  have hs2 := hb.size
  have hg := (hx.lt g rfl).1
  have hlc : l.length ≤ cap := by
    rcases hx.2 with ⟨e, _⟩ | ⟨g', cap', cur, e, _, _, h1, _⟩
    · simp at e
    · obtain ⟨_, _, rfl⟩ := Value.slice.inj e
      exact h1
  refine (keep_any w0.heap.size p h xs ys l g cap w2 (hbk.below hb) (ownsRow_lower hx hs) (fun x hxm e => ?_) (by omega) (by omega) (by omega)).mono ?_
  · have := ((hbk.2.2.2.1 x hxm).lt g e).2
    omega
  · rintro e w' ⟨rfl, ⟨y, hbk'⟩, hb'⟩
    refine ⟨rfl, h + cap + 1, _, _, by simp [hxl], by omega, hbk', fun x hxm => ?_, (hbw.trans (hb.mono hs)).trans hb'⟩
    rcases List.mem_append.1 hxm with hm | hm
    · exact hfm x hm
    · rw [List.mem_singleton.1 hm]
      exact ⟨rfl, hlc, by show cap ≤ _; omega, by show _ ≤ g; omega⟩

set_option maxHeartbeats 4000000 in
theorem infraKept_walk (a0 : Option Addr) (len0 cap0 : Nat) (z0 : List Int) (w : World) (w0 : IsRow .u8 w a0 len0 cap0 z0) :
    Calls Try.prog 8 #[.slice a0 len0 cap0] w fun e w' => e = .returned (.bool true) ∧ Below w.heap.size w w' := by
  obtain ⟨l0, hl0, hS0, hc0, hm0⟩ := w0.bytes
  clear w0
  go_enter Try.func8, Try.ntmps8
  go_wp2_with fail
  refine (fewBytes_any a0 len0 cap0 300 l0 w hl0 hS0 hc0 hm0 (by decide)).mono ?_
  rintro e w1 ⟨len, hlen, hlc, rfl, hS, rfl⟩
  obtain ⟨l, hl⟩ : ∃ l, l = l0.take 300 := ⟨_, rfl⟩
  rw [← hl] at hS hlen
  have hll : l.length ≤ 300 := by rw [hl]; simp; omega
  clear hl hS0 hl0
  subst hlen
  go_wp2_with fail
  refine (encode64_any a0 l.length cap0 l w hS hlc hm0 (by omega)).mono ?_
  rintro e w1 ⟨rfl, hb1⟩
  obtain ⟨s, hs⟩ : ∃ s : ByteArray, s = ⟨(e64 l).toArray⟩ := ⟨_, rfl⟩
  have hsl : s.data.toList = e64 l := by rw [hs]
  have hsz : s.size ≤ 1200 := by rw [Lib.size_eq, hsl]; have := e64_le l; omega
  have hsb : b64 s.data.toList = some l := by rw [hsl]; exact b64_back l
  rw [← hs]
  have HSB := hid hsb
  clear hs hsl hS hsb
  have HST := hid (KeptInv.start w w1 l hb1)
  go_wp2
  generalize w1.heap.size = p at *
  go_loopw [5] (fun i wr => ∃ k : Nat, k ≤ 2 ∧ i = .int .i64 k ∧ KeptInv w wr p l k) (fun i _ => 2 - (intOf i).toNat)
  case atStart => exact ⟨0, by omega, rfl, HST.out⟩
  case round =>
    obtain ⟨k, hk, rfl, hinv⟩ := hrel
    have HI := hid hinv
    clear hinv
    by_cases hlt : k < 2
    · have hltI : (k : Int) < 2 := by omega
      go_wp2_with fail
      refine (base64_fit s wr (by omega)).mono ?_
      rintro e w2 ⟨hb2, ⟨hno, _⟩ | ⟨l', g, cap, hyes, hcap, rfl, hown⟩⟩
      · rw [HSB.out] at hno; simp at hno
      · rw [HSB.out] at hyes
        obtain rfl := Option.some.inj hyes
        go_wp2_with fail
        refine (HI.out.more (s := s) (by omega) hb2 g cap (by omega) hown).mono ?_
        rintro e w3 ⟨rfl, hinv3⟩
        have HI3 := hid hinv3
        clear hinv3
        go_wp2
        go_roundw
        case rel => exact ⟨k + 1, by omega, by go_num, HI3.out⟩
        case measure => simp [intOf]; omega
    · have hltI : decide ((k : Int) < 2) = false := by simp; omega
      obtain rfl : k = 2 := by omega
      obtain ⟨h, xs, ys, hxl, hh, hbk, hfm, hbw⟩ := HI.out
      have HBK := hid hbk
      have HFM := hid hfm
      have hbs := hbw.size
      clear hbk hfm
      go_wp2_with fail
      refine (apart_any w.heap.size p h xs ys l wr HBK.out HFM.out (by omega) (by omega) (by omega) (by omega)).mono ?_
      rintro e w4 ⟨rfl, hb4⟩
      go_wp2_with fail
      refine (known_any _).mono ?_
      rintro e w5 ⟨rfl, hb5⟩
      go_wp2
      go_ret
      exact ⟨rfl, (hbw.trans hb4).trans (hb5.mono (by have := hb4.size; omega))⟩

end Go.Proofs.Ythmhljnfjjblcaa
