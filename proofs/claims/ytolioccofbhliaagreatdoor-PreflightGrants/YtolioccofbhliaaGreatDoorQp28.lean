/-
  Walks and plain facts that this claim leans on, put together out of 2 texts: Ejs, Dz.
-/
import Derived.Test.YtolioccofbhliaaGreatDoorProg
import Derived.Test.YtolioccofbhliaaGreatDoorTie
import Derived.Test.YtolioccofbhliaaGreatDoorQp1
import Derived.Test.YtolioccofbhliaaGreatDoorQp2
import Derived.Test.YtolioccofbhliaaGreatDoorQp3
import Derived.Test.YtolioccofbhliaaGreatDoorQp4
import Derived.Test.YtolioccofbhliaaGreatDoorQp8
import Derived.Test.YtolioccofbhliaaGreatDoorQp11
import Derived.Test.YtolioccofbhliaaGreatDoorQp13
import Derived.Test.YtolioccofbhliaaGreatDoorQp14
import Derived.Test.YtolioccofbhliaaGreatDoorQp16
import Derived.Test.YtolioccofbhliaaGreatDoorQp17
import Derived.Test.YtolioccofbhliaaGreatDoorQp18
import Derived.Test.YtolioccofbhliaaGreatDoorQp19
import Derived.Test.YtolioccofbhliaaGreatDoorQp20
import Derived.Test.YtolioccofbhliaaGreatDoorQp23
import Derived.Test.YtolioccofbhliaaGreatDoorQp26
import Derived.Test.YtolioccofbhliaaGreatDoorQp27
import Derived.BigRegion
import Derived.Deep.RegionHeld
import Derived.Deep.RegionHeldLaw
import Derived.Lib.IndexAny
import Derived.WalkKit
import Derived.Lib.UnsafeStr
import Derived.Lib.BufferRead
import Derived.Lib.RuneBytes
import Derived.Laws.RangeAny
import Derived.Deep.LoopGhost
import Derived.Maps.OwnSet
import Derived.Maps.OwnOps
import Derived.Maps.AppendAt
import Derived.StringKeys
import Derived.BigQuiet
import Derived.Deep.QuietTactic
import Derived.LoopN
import Derived.RegionTactic
import Derived.Deep.RegionLaw
import Derived.Deep.RegionWith
import Derived.WalkSpells
import Derived.WalkLawsBesides
import Derived.Lib.FieldsP
import Derived.Lib.DecodeN
import Derived.Lib.IndexMore
import Derived.Lib.Join
import Derived.Lib.SmallJoins
import Derived.Laws.CopyOwn
import Derived.Laws.ResultCell
import Derived.Deep.MidRow
import Derived.Laws.OwnMore
import Derived.Below
import Derived.WalkSmall
import Derived.Lib.LaidTab
import Derived.Lib.AppendIntMem
import Derived.Laws.AppendOwn
import Derived.Laws.Runes
import Derived.Lib.OthersKept
import Derived.Lib.FrozenHead2
import Derived.Lib.Builder
import Derived.Lib.AppendStr
import Derived.Lib.Replace
import Derived.Shelf.GgClosure.GivesRunes
import Derived.Laws.BitsAll
import Derived.Laws.Shifts
import Derived.Deep.DeepAppendRoom
import Derived.Laws.IdiomStrings
import Derived.Laws.BytesString
import Derived.Laws.CopyRow
import Derived.Sort.OwnSorted
import Derived.Lib.SlicesCompact
import Derived.Shelf.Slices.In.SortNone
import Derived.Shelf.Slices.CompactS
import Derived.Lib.SliceRun
import Derived.Sort.KeysCollected
import Derived.Lib.Case
import Derived.Deep.Cut
import Derived.Lib.LastIndexByte
import Derived.Lib.Strings
import Derived.Laws.BitsAllLaws
import Derived.Lib.Bytealg
import Derived.Lib.BufferMore
import Derived.OwnWalk
import Derived.Shelf.Strings.Builder1
import Derived.Shelf.Strings.Builder2
import Derived.Shelf.Strings.OnBuilder
import Derived.Shelf.Strings.Trim
import Derived.Shelf.Small.Utf8
import Derived.Shelf.Small.Bits
import Derived.Shelf.Small.Strs
import Derived.Shelf.Small.Wraps
import Derived.Shelf.Strings.BuilderF
import Derived.Shelf.Strings.BuilderK
import Derived.Shelf.Strings.Builder2Cap
import Derived.Shelf.Strconv.Itoa0
import Derived.Shelf.Strconv.Itoa1
import Derived.Shelf.LaysM
import Derived.Shelf.Strconv.Itoa2
import Derived.Shelf.Strconv.Itoa3
import Derived.Shelf.Strings.Search1
import Derived.Shelf.Strings.Search2
import Derived.Shelf.Strings.Cut
import Derived.Shelf.Strings.Shaped
import Derived.Shelf.Sort.Plain
import Derived.Shelf.Strings.Prefix
import Derived.Shelf.Strings.Runes
import Derived.Shelf.Strings.IndexAny
import Derived.Shelf.Strings.AsciiSet
import Derived.Shelf.Strings.IndexAnyAll
import Derived.Shelf.Unicode.DecodeSlow
import Derived.Shelf.Unicode.DecodeAny
import Derived.Shelf.Unicode.DecodeLast
import Derived.Ground.SlgnProg
import Derived.Shelf.SlicesE.Compact
import Derived.Ground.SlgfProg
import Derived.Shelf.SlicesE.IndexFunc
import Derived.Shelf.SlicesE.DeleteFunc
import Derived.Laws.AppendOwnNone
import Derived.Scope
import Derived.ScopeJumps
import Derived.WalkMore
import Derived.Lib.TrimByte
import Derived.Lib.ItoaNum
import Derived.Deep.WholeRow
import Derived.Lib.SlTrimSet
import Derived.Shelf.Strings.SlTrimAscii
import Derived.Deep.CutRange
import Derived.Laws.Rows
import Derived.Laws.MakeOwn
import Derived.Shelf.Spec.SearchS
import Derived.Sort.Walk0
import Derived.Stop.LaidErr
import Derived.LaidMore
set_option linter.unusedSimpArgs false
set_option linter.unusedVariables false

namespace Go.Proofs.YtolioccofbhliaaGreatDoor
open Go.RowKit

def rnB (k:Nat):ByteArray:=if k<31 then ⟨#[UInt8.ofNat (97+k)]⟩ else ⟨#[194,UInt8.ofNat (97+k)]⟩

def nm19 (k:Nat):List UInt8:=77::(rnB k).data.toList

set_option maxRecDepth 100000 in
theorem rn_chr (k:Nat) (h:k<60) (w:World):(convert 21 9 (.int .i32 (97+(k:Int)))).run Tryz.prog w = .ok (.string (rnB k)) w:=by
 rcases (show k=0∨k=1∨k=2∨k=3∨k=4∨k=5∨k=6∨k=7∨k=8∨k=9∨k=10∨k=11∨k=12∨k=13∨k=14∨k=15∨k=16∨k=17∨k=18∨k=19∨k=20∨k=21∨k=22∨k=23∨k=24∨k=25∨k=26∨k=27∨k=28∨k=29∨k=30∨k=31∨k=32∨k=33∨k=34∨k=35∨k=36∨k=37∨k=38∨k=39∨k=40∨k=41∨k=42∨k=43∨k=44∨k=45∨k=46∨k=47∨k=48∨k=49∨k=50∨k=51∨k=52∨k=53∨k=54∨k=55∨k=56∨k=57∨k=58∨k=59 by omega) with rfl | rfl | rfl | rfl | rfl | rfl | rfl | rfl | rfl | rfl | rfl | rfl | rfl | rfl | rfl | rfl | rfl | rfl | rfl | rfl | rfl | rfl | rfl | rfl | rfl | rfl | rfl | rfl | rfl | rfl | rfl | rfl | rfl | rfl | rfl | rfl | rfl | rfl | rfl | rfl | rfl | rfl | rfl | rfl | rfl | rfl | rfl | rfl | rfl | rfl | rfl | rfl | rfl | rfl | rfl | rfl | rfl | rfl | rfl | rfl<;>kernel_rfl

theorem rnB_size (k:Nat):(rnB k).size≤2:=by
 unfold rnB;split
 ·exact (by decide:1≤2)
 ·exact (by decide:2≤2)

theorem nm19_one (i j:Nat) (hi:i<60) (hj:j<60) (h:nm19 i=nm19 j):i=j:=by
 have key: ∀ i,i<60 → ∀ j,j<60→nm19 i=nm19 j→i=j:=by decide +kernel
 exact key i hi j hj h

theorem nm19_st (i:Nat) (hi:i<60):simM (nm19 i)=false∧nm19 i≠[42]:=by
 have key: ∀ i,i<60→simM (nm19 i)=false∧nm19 i≠[42]:=by decide +kernel
 exact key i hi

theorem nm19_len (i:Nat) (hi:i<60):(nm19 i).length≤10:=by
 have key: ∀ i,i<60→(nm19 i).length≤10:=by decide +kernel
 exact key i hi

def rw19 (c:Bool) (k:Nat):List RwP:=rowsV nm19 c [115] [117] k

theorem rw19_len (c:Bool) (k:Nat):(rw19 c k).length≤32:=by unfold rw19;rw [rowsV_len];omega

theorem rw19_put (c:Bool) (k:Nat) (h:k<60):putsT 100 0 (rtsV [115] [117] c [nm19 k] [] false) (rw19 c k)=rw19 c (k+1):=by
 have:=rows_put nm19 nm19_one c [115] [117] k h (rw19 c k) rfl;unfold rtsV putsT;simp only [List.map_cons,List.map_nil,List.append_nil,if_false,List.foldl_cons,List.foldl_nil,Bool.false_eq_true]
 exact this

theorem rw19_lenT (c:Bool) (k:Nat):lenT 0 (rw19 c k)=k - (k - 32):=rowsV_lenT nm19 c [115] [117] k 0 (by decide)

theorem rw19_alw (c:Bool) (n i:Nat) (hn:n≤60) (hi:i<n) (now:Int) (h:now<100):alwT [115] [117] c (nm19 i) [] now (rw19 c n)=decide (n≤i+32):=rowsV_alw nm19 nm19_one nm19_st c [115] [117] n i hn hi now h

theorem rw19_drop (c:Bool) (n:Nat):drpT [115] [117] (rw19 c n)=[]:=rowsV_drop nm19 c [115] [117] n

theorem n60_19 (x:Int) (h0: -9223372036854775808≤x) (h1:x≤9223372036854775807): ∃ k:Nat,k≤60 ∧ ∀ w,Calls Tryz.prog 40 #[.int .i64 x,.int .i64 0,.int .i64 60] w fun e w'=>e = .returned (.int .i64 (k:Int))∧w=w':=by
 have hb:=n_withinI_bounds_Ehw x 0 60 (by omega)
 refine ⟨(n_withinI_Ehw x 0 60).toNat,by omega,fun w=> ?_⟩;have:=n_within_any_Ehw x 0 60 w (by omega) (by omega) (by omega) (by omega) (by omega)
 rw [show (((n_withinI_Ehw x 0 60).toNat:Nat):Int)=n_withinI_Ehw x 0 60 by omega];exact this

set_option maxHeartbeats 16000000 in
set_option maxRecDepth 100000 in
theorem preflightRows_walk (a0:Int) (c:Bool) (w:World) (w0:(Lit.int .i64 a0).wf=true) (hg:Gd w):
 Calls Tryz.prog 7 #[.int .i64 a0,.bool c] w fun e w'=>e = .returned (.bool true)∧Below w.heap.size w w':=by
 have hr: -9223372036854775808≤a0∧a0≤9223372036854775807:=by simpa [Lit.wf,IntKind.min,IntKind.max,IntKind.bits,IntKind.signed] using w0
 obtain ⟨n,hn,hW⟩:=n60_19 a0 hr.1 hr.2
 have HW:=hid hW;have HG:=hid hg;have HN:=hid (new19_any w);clear hr hW hg w0
 go_enter Tryz.func7,Tryz.ntmps7
 go_wp2_with fail
 refine HN.out.mono ?_;rintro e w1 ⟨rfl,hI1,hb1⟩
 have HI1:=hid (show TbI w1 w.heap.size (rw19 c 0) from hI1);have HB1:=hid hb1;clear hI1 hb1
 go_wp2_with fail
 refine (HW.out _).mono ?_;rintro e w2 ⟨rfl,hw2⟩
 rw [← hw2];clear hw2
 go_wp2_with fail
 go_loopw [6,7] (fun s6 _ wr=> ∃ k:Nat,k≤n∧s6 = .int .i64 k∧Hid (TbI wr w.heap.size (rw19 c k)∧Below w.heap.size w wr)) (fun s6 _ _=>n - (intOf s6).toNat)
 case atStart=>exact ⟨0,Nat.zero_le _,rfl,HI1.out,HB1.out⟩
 case round=>
  obtain ⟨k,hk,rfl,HR⟩:=hrel
  by_cases hlt:k<n
  ·have hin:(k:Int)<(n:Int):=by omega
   have hch:=rn_chr k (by omega) wr
   obtain ⟨X,hX⟩: ∃ X:ByteArray,X=⟨(nm19 k).toArray⟩:=⟨_,rfl⟩
   have hXl:X.data.toList=nm19 k:=by rw [hX]
   have hcat:(⟨#[77]⟩:ByteArray)++rnB k=X:=by rw [hX];exact xba (by simp [nm19])
   have hXs:X.size≤10:=by rw [Lib.size_eq,hXl];exact nm19_len k (by omega)
   obtain ⟨w3,hW3⟩: ∃ Y,wr.alloc (.cells #[.string X] 9)=Y:=⟨_,rfl⟩
   have hb3:Below wr.heap.size wr w3:=by rw [← hW3];exact (Below.refl _ wr).alloc (Nat.le_refl _) _
   have ht3:TxT w3 (.slice (some ⟨wr.heap.size,0,none⟩) 1 1) [nm19 k]:=by
    have:=txl_T19 wr [X.data.toList] 1 rfl (by decide)
    rw [← hW3,← hXl];exact this
   have HB3:=hid (below2 HR.out.2 hb3);have hput:=put_any19 w.heap.size (rw19 c k) ⟨#[115]⟩ ⟨#[117]⟩ c (.slice (some ⟨wr.heap.size,0,none⟩) 1 1) (.slice none 0 0) [nm19 k] [] false 100 0 w3 (HR.out.1.kept hb3) (rw19_len c k) ht3 (txT_nil _) (by simp) (by simp) (fun x hx=>by simp at hx) (by decide) (by decide)
   rw [show putsT 100 0 (rtsV (⟨#[115]⟩:ByteArray).data.toList (⟨#[117]⟩:ByteArray).data.toList c [nm19 k] [] false) (rw19 c k)=rw19 c (k+1) from rw19_put c k (by omega)] at hput;have HP:=hid hput;have HLe:=hid (fun (Y:World) (hY:TbI Y w.heap.size (rw19 c (k+1)))=>len19_any w.heap.size (rw19 c (k+1)) 0 Y hY (by have:=rw19_len c (k+1);omega));rw [rw19_lenT] at HLe
   have HA:=hid (fun (Y:World) (hY:TbI Y w.heap.size (rw19 c (k+1)))=>allows19_any w.heap.size (rw19 c (k+1)) ⟨#[115]⟩ ⟨#[117]⟩ X c (.slice none 0 0) [] 0 Y hY (by have:=rw19_len c (k+1);omega) (by omega) (tx_nil _) (by decide) (fun x hx=>by simp at hx));have hal:alwT (⟨#[115]⟩:ByteArray).data.toList (⟨#[117]⟩:ByteArray).data.toList c X.data.toList [] 0 (rw19 c (k+1))=true:=by
    rw [hXl];have:=rw19_alw c (k+1) k (by omega) (by omega) 0 (by decide)
    rw [decide_eq_true (by omega)] at this;exact this
   rw [hal] at HA;have HCt:=hid hcat;have hRs:=rnB_size k;generalize rnB k=Rn at hch hcat hRs;clear hX hXl hXs hb3 ht3 hput hal HR
   go_wp2_with fail
   refine HP.out.mono ?_;rintro e w4 ⟨rfl,hI4,hq4⟩
   have HI4:=hid hI4;have HB4:=hid (show Below w.heap.size w w4 from HB3.out.trans hq4.1);clear hI4 hq4 hW3 hch hcat hRs;obtain ⟨z,hz⟩: ∃ z:Nat,z=k+1 - (k+1 - 32):=⟨_,rfl⟩
   rw [← hz] at HLe;by_cases h32:k+1≤32
   ·have hcmp: ¬ 32<((k:Int)+1):=by omega
    have hzz:z=k+1:=by omega
    clear hz;subst hzz
    go_wp2_with fail
    refine (HLe.out _ HI4.out).mono ?_;rintro e w5 ⟨rfl,hb5⟩
    have HI5:=hid (HI4.out.kept hb5);have HB5:=hid (below2 HB4.out hb5);have hch5:=rn_chr k (by omega) w5
    have hcat5:(⟨#[77]⟩:ByteArray)++rnB k=X:=HCt.out;have hRs5:=rnB_size k;generalize rnB k=Rn5 at hch5 hcat5 hRs5;clear hb5
    go_wp2_with fail
    refine (HA.out _ HI5.out).mono ?_;rintro e w6 ⟨rfl,hb6⟩
    have HI6:=hid (HI5.out.kept hb6);have HB6:=hid (below2 HB5.out hb6);clear hb6 hch5 hcat5 hRs5
    go_wp2_with fail
    go_roundw
    case rel=>
     first
      | exact ⟨k+1,by omega,by go_num,HI6.out,HB6.out⟩
      | ((repeat apply Exists.intro);refine ⟨?_,rfl⟩;exact ⟨k+1,by omega,by go_num,HI6.out,HB6.out⟩)
      | ((repeat apply Exists.intro);exact ⟨⟨k+1,by omega,by go_num,HI6.out,HB6.out⟩,rfl⟩)
    case measure=>simp [intOf];omega
   ·have hcmp:32<((k:Int)+1):=by omega
    have hzz:z=32:=by omega
    clear hz;subst hzz
    go_wp2_with fail
    refine (HLe.out _ HI4.out).mono ?_;rintro e w5 ⟨rfl,hb5⟩
    have HI5:=hid (HI4.out.kept hb5);have HB5:=hid (below2 HB4.out hb5);have hch5:=rn_chr k (by omega) w5
    have hcat5:(⟨#[77]⟩:ByteArray)++rnB k=X:=HCt.out;have hRs5:=rnB_size k;generalize rnB k=Rn5 at hch5 hcat5 hRs5;clear hb5
    go_wp2_with fail
    refine (HA.out _ HI5.out).mono ?_;rintro e w6 ⟨rfl,hb6⟩
    have HI6:=hid (HI5.out.kept hb6);have HB6:=hid (below2 HB5.out hb6);clear hb6 hch5 hcat5 hRs5
    go_wp2_with fail
    go_roundw
    case rel=>
     first
      | exact ⟨k+1,by omega,by go_num,HI6.out,HB6.out⟩
      | ((repeat apply Exists.intro);refine ⟨?_,rfl⟩;exact ⟨k+1,by omega,by go_num,HI6.out,HB6.out⟩)
      | ((repeat apply Exists.intro);exact ⟨⟨k+1,by omega,by go_num,HI6.out,HB6.out⟩,rfl⟩)
    case measure=>simp [intOf];omega
  ·obtain rfl:k=n:=by omega
   have HIn:=hid HR.out.1;have HBn:=hid HR.out.2;clear HR hlt hk
   go_wp2_with fail
   go_loopw [8] (fun s8 wr=> ∃ i:Nat,i≤k∧s8 = .int .i64 i∧Hid (TbI wr w.heap.size (rw19 c k)∧Below w.heap.size w wr)) (fun s8 _=>k - (intOf s8).toNat)
   case atStart=>exact ⟨0,Nat.zero_le _,rfl,HIn.out,HBn.out⟩
   case round=>
    obtain ⟨i,hi,rfl,HR⟩:=hrel
    by_cases hlt:i<k
    ·have hin:(i:Int)<(k:Int):=by omega
     have hch:=rn_chr i (by omega) wr
     obtain ⟨X,hX⟩: ∃ X:ByteArray,X=⟨(nm19 i).toArray⟩:=⟨_,rfl⟩
     have hXl:X.data.toList=nm19 i:=by rw [hX]
     have hcat:(⟨#[77]⟩:ByteArray)++rnB i=X:=by rw [hX];exact xba (by simp [nm19])
     have hXs:X.size≤10:=by rw [Lib.size_eq,hXl];exact nm19_len i (by omega)
     have hA:=allows19_any w.heap.size (rw19 c k) ⟨#[115]⟩ ⟨#[117]⟩ X c (.slice none 0 0) [] 99 wr HR.out.1 (by have:=rw19_len c k;omega) (by omega) (tx_nil _) (by decide) (fun x hx=>by simp at hx)
     have hal:alwT (⟨#[115]⟩:ByteArray).data.toList (⟨#[117]⟩:ByteArray).data.toList c X.data.toList [] 99 (rw19 c k)=decide (k≤i+32):=by
      rw [hXl];exact rw19_alw c k i (by omega) (by omega) 99 (by decide)
     rw [hal] at hA;have HA:=hid hA;have HR1:=hid HR.out;have hRs:=rnB_size i;generalize rnB i=Rn at hch hcat hRs;clear hX hXl hXs hal hA HR;by_cases hge:k≤i+32
     all_goals
      have hd:decide (k≤i+32)=decide (((k:Int) - 32)≤(i:Int)):=by
       by_cases h:k≤i+32
       ·rw [decide_eq_true h,decide_eq_true (by omega)]
       ·rw [decide_eq_false h,decide_eq_false (by omega)]
      first
       | (have hge2:((k:Int) - 32)≤(i:Int):=by omega
          rw [decide_eq_true hge] at HA)
       | (have hge2: ¬ ((k:Int) - 32)≤(i:Int):=by omega
          rw [decide_eq_false hge] at HA)
      clear hd hge
      go_wp2_with fail
      refine HA.out.mono ?_;rintro e w6 ⟨rfl,hb6⟩
      have HI6:=hid (HR1.out.1.kept hb6);have HB6:=hid (below2 HR1.out.2 hb6);clear hb6 hch hcat hRs
      go_wp2_with fail
      go_roundw
      case rel=>
       first
        | exact ⟨i+1,by omega,by go_num,HI6.out,HB6.out⟩
        | ((repeat apply Exists.intro);refine ⟨?_,rfl⟩;exact ⟨i+1,by omega,by go_num,HI6.out,HB6.out⟩)
        | ((repeat apply Exists.intro);exact ⟨⟨i+1,by omega,by go_num,HI6.out,HB6.out⟩,rfl⟩)
      case measure=>simp [intOf];omega
    ·obtain rfl:i=k:=by omega
     have hdr:=drop19_any w.heap.size (rw19 c i) ⟨#[115]⟩ ⟨#[117]⟩ wr HR.out.1 (by have:=rw19_len c i;omega)
     rw [show drpT (⟨#[115]⟩:ByteArray).data.toList (⟨#[117]⟩:ByteArray).data.toList (rw19 c i)=[] from rw19_drop c i] at hdr;have HD:=hid hdr;have HBq:=hid HR.out.2;clear HR hlt hi hdr
     go_wp2_with fail
     refine HD.out.mono ?_;rintro e w6 ⟨rfl,hI6,hq6⟩
     have HB6:=hid (show Below w.heap.size w w6 from HBq.out.trans hq6.1);have HLe:=hid (len19_any w.heap.size [] 0 w6 hI6 (by decide));rw [show ((lenT 0 []:Nat):Int)=0 from rfl] at HLe;clear hI6 hq6
     go_wp2_with fail
     refine HLe.out.mono ?_;rintro e w7 ⟨rfl,hb7⟩
     have HB7:=hid (below2 HB6.out hb7);clear hb7
     go_wp2_with fail
     refine (known19_any _ (HG.out.kept HB7.out)).mono ?_;rintro e w8 ⟨rfl,hb8⟩
     have HB8:=hid (below2 HB7.out hb8);clear hb8
     go_wp2_with fail
     go_ret
     exact ⟨rfl,HB8.out⟩

end Go.Proofs.YtolioccofbhliaaGreatDoor

namespace Go.Proofs.YtolioccofbhliaaGreatDoor
open Go.RowKit

def laid7 : List (String × DataW Unit) := [("math/bits.deBruijn32tab", Rows.laid_math_bits_deBruijn32tab), ("math/bits.deBruijn64tab", Rows.laid_math_bits_deBruijn64tab), ("internal/strconv.uint64pow10", Rows.laid_internal_strconv_uint64pow10), ("unicode/utf8.acceptRanges", Rows.laid_unicode_utf8_acceptRanges), ("unicode/utf8.first", Rows.laid_unicode_utf8_first)]

theorem g5_of_shaped {W:World} (hsh:W.ShapedOpen Tryz.prog):G5 W:=Tryz.laysM145.s1_3 W hsh

theorem gd7_of_laid {W:World} (h:laidMetH Tryz.prog laid7 W) (hsh:W.ShapedOpen Tryz.prog):Gd W:=by
 have h':laidMet Tryz.prog laid7 W:=h;have h2:=h'.tail;have h3:=h2.tail;refine ⟨Tryz.laysM145.s1_3 W hsh,?_,?_⟩
 ·exact Lib.tabIs_of_head gPow10 (by kernel_rfl) Tryz.underlying244 Tryz.underlying211 (by kernel_rfl) (by kernel_rfl) h3
 ·exact Lib.tabIs_of_head gDB64 (by kernel_rfl) Tryz.underlying271 Tryz.underlying5 (by kernel_rfl) (by kernel_rfl) h2

theorem ownK:ownKnob Tryz.prog.godebug=none:=by kernel_rfl

noncomputable def startW (os : Os) : World :=
 { World.doorLaid Tryz.prog 24 os with heap:=(World.doorLaid Tryz.prog 24 os).heap.setIfInBounds 4 (.cells (Pinned.utf8FirstZ.map fun (n:Nat)=>Value.int .u8 (n:Int)).toArray 274 (0,0)) }

theorem door_met (os:Os) (args:Array Value):laidMetH Tryz.prog laid7 ((startW os).forCall (fun _ _=>0) ⟨#[],args,[]⟩).memory:=
 laidMetH_of_parts3 (fuel:=8) (laidMet_of_run' 8 (by kernel_rfl) (by kernel_rfl)) (by kernel_rfl) (by kernel_rfl)

end Go.Proofs.YtolioccofbhliaaGreatDoor
