/-
  Walks and plain facts that this claim leans on, put together out of 6 texts: Sn, Pr, Ps, Sb, Rn, So.
-/
import Derived.Test.YtolioccofbhliaaGreatDoorProg
import Derived.Test.YtolioccofbhliaaGreatDoorQp1
import Derived.Test.YtolioccofbhliaaGreatDoorQp2
import Derived.Test.YtolioccofbhliaaGreatDoorQp3
import Derived.Test.YtolioccofbhliaaGreatDoorQp4
import Derived.Test.YtolioccofbhliaaGreatDoorQp5
import Derived.Test.YtolioccofbhliaaGreatDoorQp8
import Derived.Test.YtolioccofbhliaaGreatDoorQp9
import Derived.Test.YtolioccofbhliaaGreatDoorQp10
import Derived.Lib.IndexMore
import Derived.Lib.Join
import Derived.Lib.LastIndexByte
import Derived.WalkKit
import Derived.Lib.Strings
import Derived.Lib.UnsafeStr
import Derived.Laws.IdiomStrings
import Derived.Laws.AppendOwn
import Derived.Laws.BitsAllLaws
import Derived.Lib.Bytealg
import Derived.Lib.BufferMore
import Derived.LoopN
import Derived.RegionTactic
import Derived.Deep.RegionWith
import Derived.Deep.QuietTactic
import Derived.BigQuiet
import Derived.Laws.OwnMore
import Derived.Deep.LoopGhost
import Derived.Shelf.Strings.Builder1
import Derived.Shelf.Strings.Builder2
import Derived.Shelf.Strings.OnBuilder
import Derived.Shelf.Strings.Trim
import Derived.Shelf.Small.Utf8
import Derived.Shelf.Small.Bits
import Derived.Shelf.Small.Strs
import Derived.Shelf.Small.Wraps
import Derived.Shelf.Strings.BuilderF
import Derived.Shelf.Strings.BuilderK
import Derived.Shelf.Strings.Builder2Cap
import Derived.Shelf.Strconv.Itoa0
import Derived.Shelf.Strconv.Itoa1
import Derived.Shelf.LaysM
import Derived.Shelf.Strconv.Itoa2
import Derived.Shelf.Strconv.Itoa3
import Derived.Shelf.Strings.Search1
import Derived.Shelf.Strings.Search2
import Derived.Shelf.Strings.Cut
import Derived.Shelf.Strings.Shaped
import Derived.Shelf.Sort.Plain
import Derived.Shelf.Strings.Prefix
import Derived.Shelf.Strings.Runes
import Derived.Shelf.Strings.IndexAny
import Derived.Shelf.Strings.AsciiSet
import Derived.Shelf.Strings.IndexAnyAll
import Derived.Shelf.Unicode.DecodeSlow
import Derived.Shelf.Unicode.DecodeAny
import Derived.Shelf.Unicode.DecodeLast
import Derived.Shelf.Slices.CompactS
import Derived.Shelf.Slices.In.SortNone
import Derived.Ground.SlgnProg
import Derived.Shelf.SlicesE.Compact
import Derived.Ground.SlgfProg
import Derived.Shelf.SlicesE.IndexFunc
import Derived.Shelf.SlicesE.DeleteFunc
import Derived.BigRegion
import Derived.WalkSpells
import Derived.WalkLawsBesides
import Derived.Lib.AppendIntMem
import Derived.Lib.SmallJoins
import Derived.WalkSmall
import Derived.WalkMore
import Derived.OwnWalk
import Derived.Laws.CopyOwn
import Derived.Laws.ResultCell
import Derived.Deep.MidRow
import Derived.Lib.FrozenHead2
import Derived.Lib.OthersKept
import Derived.Lib.Builder
import Derived.Lib.BufferRead
import Derived.Lib.RuneBytes
import Derived.Laws.RangeAny
import Derived.Deep.RegionLaw
set_option linter.unusedSimpArgs false
set_option linter.unusedVariables false

namespace Go.Proofs.YtolioccofbhliaaGreatDoor
open Go.RowKit

def Parse2Post (o:Option (List UInt8)) (w:World) (e:Ending) (w':World):Prop:=e = .returned (.tuple #[.string ⟨(o.getD []).toArray⟩,.bool o.isSome])∧Below w.heap.size w w'

theorem parse2_none {o:Option (List UInt8)} {w w':World} (h:o=none) (hb:Below w.heap.size w w'):Parse2Post o w (.returned (.tuple #[.string ⟨#[]⟩,.bool false])) w':=by
 unfold Parse2Post;rw [h];exact ⟨rfl,hb⟩

theorem parse2_some {o:Option (List UInt8)} {a:List UInt8} {t:ByteArray} {w w':World} (h:o=some a) (ht:t=⟨a.toArray⟩) (hb:Below w.heap.size w w'):Parse2Post o w (.returned (.tuple #[.string t,.bool true])) w':=by
 unfold Parse2Post;rw [h,ht];exact ⟨rfl,hb⟩

theorem eight_lst (x:List Nat) (h:x.length=8): ∃ x0 x1 x2 x3 x4 x5 x6 x7,x=[x0,x1,x2,x3,x4,x5,x6,x7]:=by
 match x,h with
 | [x0,x1,x2,x3,x4,x5,x6,x7],_=>exact ⟨x0,x1,x2,x3,x4,x5,x6,x7,rfl⟩

theorem brk_suffix (t:List UInt8):Lib.hasSuffix (91::t) [93]=Lib.hasSuffix t [93]:=by
 rw [Bool.eq_iff_iff];unfold Lib.hasSuffix;rw [List.isSuffixOf_iff_suffix,List.isSuffixOf_iff_suffix]
 constructor
 ·rintro ⟨a,ha⟩
  cases a with
  | nil=>simp at ha
  | cons x a=>simp at ha;exact ⟨a,ha.2⟩
 ·rintro ⟨a,ha⟩
  exact ⟨91::a,by simp [ha]⟩

theorem brk_trim (s:ByteArray) (t:List UInt8) (hs:s.data.toList=91::t) (h:Lib.hasSuffix t [93]=true):2≤s.size∧(s.extract 1 (s.size - 1)).data.toList=Lib.trimSuffix t [93]:=by
 have h':=h;unfold Lib.hasSuffix at h';rw [List.isSuffixOf_iff_suffix] at h';obtain ⟨a,rfl⟩:=h'
 have hsz:s.size=a.length+2:=by
  have:=congrArg List.length hs;simpa using this
 refine ⟨by omega,?_⟩
 rw [ext_take,hs,hsz]
 unfold Lib.trimSuffix;rw [if_pos h];simp

theorem pfx_form (l:List UInt8) (h:Lib.hasPrefix l [91]=true): ∃ t,l=91::t:=by
 have:[91].isPrefixOf l=true:=h;rw [List.isPrefixOf_iff_prefix] at this;obtain ⟨t,ht⟩:=this
 exact ⟨t,ht.symm⟩

set_option maxHeartbeats 2000000 in
set_option maxRecDepth 100000 in
theorem rparse_six (s:ByteArray) (special:Bool) (w:World) (hs:s.size≤1000000) (hp:Lib.hasPrefix s.data.toList [91]=true):
 Calls Tryz.prog 253 #[.string s,.bool special] w (Parse2Post (parseV s.data.toList special) w):=by
 obtain ⟨t,ht⟩:=pfx_form _ hp
 have HV:=hid (show parseV s.data.toList special=bracketV t by rw [parseV_six hp,ht];rfl);have hsf:Lib.hasSuffix s.data.toList [93]=Lib.hasSuffix t [93]:=by rw [ht];exact brk_suffix t
 have HB:=hid (fun W=>begins_any s ⟨#[91]⟩ W (by omega) (by decide));have HE:=hid (fun W=>ends_any s ⟨#[93]⟩ W (by omega) (by decide));rw [show (⟨#[91]⟩:ByteArray).data.toList=[91] from rfl,hp] at HB;rw [show (⟨#[93]⟩:ByteArray).data.toList=[93] from rfl,hsf] at HE
 cases hc:Lib.hasSuffix t [93] with
 | false=>
   have HN:=hid (show parseV s.data.toList special=none by rw [HV.out,bracketV_open hc]);rw [hc] at HE;clear hc hsf hp ht
   go_enter Tryz.func253,Tryz.ntmps253
   go_wp2_with (first | (go_at_call 215;refine (HB.out _).mono ?_;rintro e w' ⟨rfl,rfl⟩) | (go_at_call 261;refine (HE.out _).mono ?_;rintro e w' ⟨rfl,rfl⟩))
   go_ret2
   exact parse2_none HN.out (Below.refl _ _)
 | true=>
   obtain ⟨h2,htr⟩:=brk_trim s t ht hc
   rw [hc] at HE;have h2':(1:Int)≤(s.size:Int) - 1:=by omega
   have h3':(s.size:Int) - 1≤(s.size:Int):=by omega
   have h4':((s.size:Int) - 1).toNat=s.size - 1:=by omega
   obtain ⟨X,hX⟩: ∃ X:ByteArray,X=s.extract 1 (s.size - 1):=⟨_,rfl⟩
   have hXs:X.size≤1000000:=by rw [hX];simp;omega
   have HX:=hid hX;have h6:=rsix_any X w hXs;have HXd:=hid (show X.data.toList=Lib.trimSuffix t [93] by rw [hX];exact htr);clear hX
   cases hsx:sixV X.data.toList with
   | none=>
     have HN:=hid (show parseV s.data.toList special=none by rw [HV.out,bracketV_none hc (by rw [← HXd.out];exact hsx)]);have H6:=hid (show Calls Tryz.prog 262 #[.string X] w (fun e w'=>e = .returned (.tuple #[.agg #[.int .u16 0,.int .u16 0,.int .u16 0,.int .u16 0,.int .u16 0,.int .u16 0,.int .u16 0,.int .u16 0],.bool false])∧Below w.heap.size w w') by
      unfold Six2Post at h6;rw [hsx] at h6;exact h6)
     clear h6 hsx hc hsf hp ht htr
     go_enter Tryz.func253,Tryz.ntmps253
     go_wp2_with (first | (go_at_call 215;refine (HB.out _).mono ?_;rintro e w' ⟨rfl,rfl⟩) | (go_at_call 261;refine (HE.out _).mono ?_;rintro e w' ⟨rfl,rfl⟩))
     rw [← HX.out];refine H6.out.mono ?_;rintro e w1 ⟨rfl,hb1⟩
     go_wp2_with fail
     go_ret2
     exact parse2_none HN.out (below2 hb1 ((Below.refl _ _).alloc (Nat.le_refl _) _))
   | some x=>
     have HN:=hid (show parseV s.data.toList special=some (91::(text6 x++[93])) by rw [HV.out,bracketV_some hc (by rw [← HXd.out];exact hsx)]);obtain ⟨hx8,hx16⟩:=sixV_ok hsx
     have HT:=hid (fun W=>rtext6_any x W hx8 hx16);have htl:=text6_le x hx8;have h6':Calls Tryz.prog 262 #[.string X] w (fun e w'=>e = .returned (.tuple #[agg8 x,.bool true])∧Below w.heap.size w w'):=by
      unfold Six2Post at h6;rw [hsx] at h6;exact h6
     generalize text6 x=T at *
     obtain ⟨x0,x1,x2,x3,x4,x5,x6,x7,rfl⟩:=eight_lst x hx8
     have ea:agg8 [x0,x1,x2,x3,x4,x5,x6,x7] = .agg #[.int .u16 (x0:Int),.int .u16 (x1:Int),.int .u16 (x2:Int),.int .u16 (x3:Int),.int .u16 (x4:Int),.int .u16 (x5:Int),.int .u16 (x6:Int),.int .u16 (x7:Int)]:=rfl
     rw [ea] at HT h6';have H6:=hid h6';clear h6 h6' ea hx8 hx16 hsx hc hsf hp ht htr
     go_enter Tryz.func253,Tryz.ntmps253
     go_wp2_with (first | (go_at_call 215;refine (HB.out _).mono ?_;rintro e w' ⟨rfl,rfl⟩) | (go_at_call 261;refine (HE.out _).mono ?_;rintro e w' ⟨rfl,rfl⟩))
     rw [← HX.out];refine H6.out.mono ?_;rintro e w1 ⟨rfl,hb1⟩
     go_wp2_with fail
     refine (HT.out _).mono ?_;rintro e w2 ⟨rfl,hb2⟩
     go_wp2_with fail
     go_ret2
     refine parse2_some HN.out ?_ (below2 (below2 hb1 ((Below.refl _ _).alloc (Nat.le_refl _) _)) hb2);show (⟨[91].toArray⟩:ByteArray)++⟨T.toArray⟩++⟨[93].toArray⟩=⟨(91::(T++[93])).toArray⟩;rw [ba_app,ba_app]
     simp

set_option maxHeartbeats 2000000 in
set_option maxRecDepth 100000 in
theorem rparse_other (s:ByteArray) (w:World) (hs:s.size≤1000000) (hp:Lib.hasPrefix s.data.toList [91]=false):
 Calls Tryz.prog 253 #[.string s,.bool false] w (Parse2Post (parseV s.data.toList false) w):=by
 have HV:=hid (show parseV s.data.toList false=otherV s.data.toList from parseV_other hp);have HB:=hid (fun W=>begins_any s ⟨#[91]⟩ W (by omega) (by decide));rw [show (⟨#[91]⟩:ByteArray).data.toList=[91] from rfl,hp] at HB;clear hp
 go_enter Tryz.func253,Tryz.ntmps253
 go_wp2_with (go_at_call 215;refine (HB.out _).mono ?_;rintro e w' ⟨rfl,rfl⟩)
 go_loop [8] (fun i=> ∃ k:Nat,k≤s.size∧i = .int .i64 k∧(s.data.toList.drop k).any forb=s.data.toList.any forb) (fun i=>s.size - (intOf i).toNat)
 case atStart=>exact ⟨0,Nat.zero_le _,rfl,by rw [List.drop_zero]⟩
 case round=>
  obtain ⟨k,hk,rfl,hany⟩:=hrel
  have HA:=hid hany;clear hany;by_cases hlt:k<s.size
  ·have hlt':(k:Int)<(s.size:Int):=by omega
   have hc8:s[k].toNat<256:=s[k].toNat_lt;have HD:=hid (drop_cons s k hlt)
   cases hf:forb s[k] with
   | true=>
     have HN:=hid (show parseV s.data.toList false=none by
      rw [HV.out,otherV,if_pos]
      rw [← HA.out,HD.out,List.any_cons,hf];rfl)
     have HF:=hid hf;clear hf
     go_wp2_with (go_at_call 264;refine (rbad_any _ _).mono ?_;rintro e w' ⟨rfl,rfl⟩;rw [HF.out])
     go_ret2
     exact parse2_none HN.out (Below.refl _ _)
   | false=>
     have HA2:=hid (show (s.data.toList.drop (k+1)).any forb=s.data.toList.any forb by rw [← HA.out,HD.out,List.any_cons,hf];rfl);have HF:=hid hf;clear hf
     go_wp2_with (go_at_call 264;refine (rbad_any _ _).mono ?_;rintro e w' ⟨rfl,rfl⟩;rw [HF.out])
     go_round
     case rel=>exact ⟨k+1,by omega,by go_num,HA2.out⟩
     case measure=>simp [intOf];omega
  ·have hlt': ¬ (k:Int)<(s.size:Int):=by omega
   have HN:=hid (show parseV s.data.toList false=some (pct 1 s.data.toList) by
    rw [HV.out,otherV,if_neg]
    rw [← HA.out,drop_none s k hlt];decide)
   go_wp2_with (go_at_call 211;refine (rpercent_any _ _ hs).mono ?_;rintro e w1 ⟨rfl,hb1⟩)
   go_ret2
   exact parse2_some HN.out rfl hb1

end Go.Proofs.YtolioccofbhliaaGreatDoor

namespace Go.Proofs.YtolioccofbhliaaGreatDoor
open Go.RowKit

def IsRow (k:IntKind) (w:World) (a:Option Addr) (len cap:Nat) (zs:List Int):Prop:=
 (a=none∧len=0∧cap=0∧zs=[]) ∨
 ∃ x,a=some x∧len≤cap∧cap≤maxLen∧zs.length=cap∧(∀ i,i<zs.length→w.cell? (x.add i)=some (.int k (zs.getD i 0))) ∧ ∀ n ∈ zs,(Lit.int k n).wf=true

theorem IsRow.block {k:IntKind} {w:World} {a:Option Addr} {len cap:Nat} {zs:List Int} (h:IsRow k w a len cap zs) {y:Addr} (hy:a=some y) {j:Nat} (hj:j<zs.length):(y.add j).block<w.heap.size:=by
 rcases h with ⟨rfl,_⟩ | ⟨x,rfl,_,_,_,hcell,_⟩
 ·cases hy
 ·obtain rfl:=Option.some.inj hy
  exact World.block_lt_of_cell? w _ (hcell j hj)

end Go.Proofs.YtolioccofbhliaaGreatDoor

namespace Go.Proofs.YtolioccofbhliaaGreatDoor
open Go.RowKit

def SlB (w:World) (v:Value) (l:List UInt8):Prop:=
 (∃ c,v = .slice none 0 c∧l=[]) ∨ ∃ x cap,v = .slice (some x) l.length cap ∧ ∀ j (h:j<l.length),w.cell? (x.add j)=some (.int .u8 (l[j].toNat:Int))

theorem SlB.string {P:Program} {w:World} {v:Value} {l:List UInt8} {e src dst:TypeId} (h:SlB w v l) (hs:P.underlying src=some (.slice e)) (he:P.underlying e=some (.int .u8)) (hd:P.underlying dst=some .string):
 (convert src dst v).run P w = .ok (.string ⟨l.toArray⟩) w:=by
 rcases h with ⟨c,rfl,rfl⟩ | ⟨x,cap,rfl,hc⟩
 ·exact Lib.run_convert_nil_bytes w src dst e c hs he hd
 ·exact run_convert_bytes_back w src dst e x cap l hs he hd hc

theorem SlB.below {w w':World} {v:Value} {l:List UInt8} {B:Nat} (h:SlB w v l) (hb:Below B w w') (hB: ∀ x n c,v = .slice (some x) n c → ∀ j,j<l.length→(x.add j).block<B):SlB w' v l:=by
 rcases h with h | ⟨x,cap,rfl,hc⟩
 ·exact .inl h
 ·exact .inr ⟨x,cap,rfl,fun j hj=>(hb.cell (hB x _ _ rfl j hj)).trans (hc j hj)⟩

theorem SlB.kept {w w':World} {v:Value} {l:List UInt8} (h:SlB w v l) (hb:Below w.heap.size w w'):SlB w' v l:=by
 refine h.below hb ?_;rcases h with ⟨c,rfl,rfl⟩ | ⟨x,cap,rfl,hc⟩
 ·intro x n c' e j hj;simp at hj
 ·intro x' n c' e j hj
  obtain ⟨e1,_,_⟩:=Value.slice.inj e
  obtain rfl:=Option.some.inj e1;exact World.block_lt_of_cell? w _ (hc j hj)

theorem SlB.alloc {w:World} {v:Value} {l:List UInt8} (h:SlB w v l) (o:Obj):SlB (w.alloc o) v l:=h.kept ((Below.refl _ w).alloc (Nat.le_refl _) o)

theorem SlB.len {w:World} {v:Value} {l:List UInt8} (h:SlB w v l): ∃ a cap,v = .slice a l.length cap:=by
 rcases h with ⟨c,rfl,rfl⟩ | ⟨x,cap,rfl,hc⟩
 ·exact ⟨none,c,rfl⟩
 ·exact ⟨some x,cap,rfl⟩

theorem SlB.own {w:World} {B:Nat} {e:TypeId} {v:Value} {l:List UInt8} (h:w.ownsRow B e 1 v l.length (Lib.byteCells l)):SlB w v l:=by
 rcases h.2 with ⟨rfl,h0⟩ | ⟨g,cap,cur,rfl,_⟩
 ·exact .inl ⟨0,rfl,List.eq_nil_of_length_eq_zero h0⟩
 ·exact .inr ⟨_,cap,rfl,fun j hj=>h.cells (g:=g) rfl j _ (by simp [Lib.byteCells,hj])⟩

theorem SlB.take {w:World} {a:Option Addr} {len cap:Nat} {l:List UInt8} (h:SlB w (.slice a len cap) l) (n:Nat) (hn:n<l.length):SlB w (.slice a n cap) (l.take n):=by
 rcases h with ⟨c,e,rfl⟩ | ⟨x,c,e,hc⟩
 ·simp at hn
 ·obtain ⟨rfl,rfl,rfl⟩:=Value.slice.inj e
  refine .inr ⟨x,cap,by congr 1;simp;omega,fun j hj=> ?_⟩
  have hj':j<l.length:=by simp at hj;omega
  rw [hc j hj'];simp

theorem IsRow.bytes {w:World} {a:Option Addr} {len cap:Nat} {zs:List Int} (h:IsRow .u8 w a len cap zs): ∃ l:List UInt8,l.length=len∧SlB w (.slice a len cap) l∧len≤cap∧cap≤maxLen:=by
 rcases h with ⟨rfl,rfl,rfl,rfl⟩ | ⟨x,rfl,hlc,hcm,hz,hcell,hwf⟩
 ·exact ⟨[],rfl,.inl ⟨0,rfl,rfl⟩,Nat.le_refl _,by unfold maxLen;omega⟩
 ·refine ⟨(zs.take len).map fun n=>UInt8.ofNat n.toNat,by simp;omega,.inr ⟨x,cap,by congr 1;simp;omega,?_⟩,hlc,hcm⟩
  intro j hj;have hj':j<len∧j<zs.length:=by simp at hj;omega
  have hwfj:=hwf zs[j] (List.getElem_mem hj'.2);have hb:0≤zs[j]∧zs[j]≤255:=by simpa [Lit.wf,IntKind.min,IntKind.max,IntKind.bits,IntKind.signed] using hwfj
  rw [hcell j hj'.2];have e:zs.getD j 0=zs[j]:=by simp [List.getD,hj'.2]
  rw [e]
  congr 2
  simp;omega

end Go.Proofs.YtolioccofbhliaaGreatDoor

namespace Go.Proofs.YtolioccofbhliaaGreatDoor
open Go.RowKit

theorem hexI_yes (c:Int) (h:is16I c=true):hexI c=val16I c:=by simp [hexI,h]

theorem hexI_no (c:Int) (h:is16I c=false):hexI c = -1:=by simp [hexI,h]

theorem step_append_own {P:Program} {ops:Array Oper} {o:Oper} {a:Act} {w:World} {K:Act→World→Prop} {Q:Exit→Act→World→Prop} {E:Prop} (hgd:o.guard=none) (s x:Operand) (t:TypeId)
 (ho:o.op = .call { callee:= .builtin .append,args:= #[s,x],argTypes:= #[t,t] })
 (base:Nat) (e:TypeId) (i:TypeInfo) (z:Value) (size bytes:Nat) (ht:P.underlying t=some (.slice e)) (hi:P.info? e=some i) (hz:i.zero=some z)
 (hsize:i.size=size) (hby:i.bytes=bytes) (hzs:z.cells.size=size) (hsz:0<size)
 (v:Value) (n:Nat) (xs:List Value) (hs:a.eval s=v) (hown:w.ownsRow base e size v n xs)
 (ad:Addr) (m c:Nat) (news:List Value) (hx:a.eval x = .slice (some ad) m c) (hl:news.length=m*size) (hnews: ∀ j u,news[j]? = some u→w.cell? (ad.add j)=some u) (h1: ∀ u ∈ news,u.oneCell'=true)
 (h63:n+m≤maxLen) (hbytes:(n+m)*bytes≤140737488355328) (hbase:base≤w.heap.size)
 (h: ∀ v' w',w'.ownsRow base e size v' (n+m) (xs++news)→w.grownBy w' v.ownBlock→(v' = .slice none 0 0 ↔ v = .slice none 0 0∧m=0)→K (a.put o.dst v') w'):
 if Region.wanted o (yielded ops a.tmps)=true then Oper.wp P o a w K Q else E:=by
 rw [if_pos (by simp [Region.wanted,hgd])];exact wp_append_own w s x t ho base e i z size bytes ht hi hz hsize hby hzs hsz v n xs hs hown ad m c news hx hl hnews h1 h63 hbytes hbase h

theorem pcd_at37 (s:ByteArray) (k:Nat) (h:k+2<s.size) (h37:s[k]=37):pcd (s.data.toList.drop k)=if is16I s[k+1].toNat&&is16I s[k+2].toNat then (UInt8.ofNat (val16I s[k+1].toNat*16+val16I s[k+2].toNat).toNat,true) else (37,false):=by
 rw [drop_cons s k (by omega),drop_cons s (k+1) (by omega),drop_cons s (k+2) (by omega),h37];exact pcd_three _ _ _

theorem pcd_short_at (s:ByteArray) (k:Nat) (hk:k<s.size) (h: ¬ k+2<s.size):pcd (s.data.toList.drop k)=(s[k],false):=by
 rw [drop_cons s k hk];refine pcd_short _ _ ?_;simp;omega

theorem pcd_other_at (s:ByteArray) (k:Nat) (hk:k<s.size) (h:s[k]≠37):pcd (s.data.toList.drop k)=(s[k],false):=by
 rw [drop_cons s k hk];exact pcd_other _ _ h

theorem unpct_at (s:ByteArray) (k:Nat) (hk:k<s.size) (c:UInt8) (b:Bool) (h:pcd (s.data.toList.drop k)=(c,b)):unpct (s.data.toList.drop k)=c::unpct (s.data.toList.drop (if b then k+3 else k+1)):=by
 have hd:=drop_cons s k hk;have hu:=unpct_cons s[k] (s.data.toList.drop (k+1));rw [← hd] at hu;rw [hu,h]
 cases b
 ·rfl
 ·simp [List.drop_drop]

set_option maxHeartbeats 2000000 in
set_option maxRecDepth 100000 in
theorem runpercent_any (s:ByteArray) (w:World) (hs:s.size≤1000000):
 Calls Tryz.prog 265 #[.string s] w fun e w'=>e = .returned (.string ⟨(unpct s.data.toList).toArray⟩)∧Below w.heap.size w w':=by
 obtain ⟨i0,hi,hz0,hz1,hz2⟩:=info_parts infoByte
 go_enter Tryz.func265,Tryz.ntmps265
 go_wp2
 go_loopw [3,4] (fun v i wr=> ∃ (k:Nat) (acc:List UInt8),k≤s.size∧i = .int .i64 k∧wr.ownsRow w.heap.size 5 1 v acc.length (Lib.byteCells acc)∧Below w.heap.size w wr∧acc++unpct (s.data.toList.drop k)=unpct s.data.toList∧acc.length≤k)
  (fun _ i _=>s.size - (intOf i).toNat)
 case atStart=>exact ⟨0,[],Nat.zero_le _,rfl,World.ownsRow_nil w _ _ _,Below.refl _ w,rfl,Nat.le_refl _⟩
 case round=>
  obtain ⟨k,acc,hk,rfl,hown,hbw,hacc,hal⟩:=hrel
  have HA:=hid hacc;clear hacc;by_cases hlt:k<s.size
  ·have hc8:s[k].toNat<256:=s[k].toNat_lt
   by_cases hyes: ∃ h:k+2<s.size,s[k]=37∧is16I (s[k+1].toNat:Int)=true∧is16I (s[k+2].toNat:Int)=true
   ·obtain ⟨h2,h37,ha,hb⟩:=hyes
    have HP:=hid (unpct_at s k hlt _ true (by rw [pcd_at37 s k h2 h37,ha,hb];rfl));have h37':(s[k].toNat:Int)=37:=by rw [h37];rfl
    have hva:=hexI_yes _ ha;have hvb:=hexI_yes _ hb;have hra:=val16_lt (s[k+1].toNat:Int);have hrb:=val16_lt (s[k+2].toNat:Int);have la:s[k+1].toNat<256:=s[k+1].toNat_lt;have lb:s[k+2].toNat<256:=s[k+2].toNat_lt;have hNN:Hid (((UInt8.ofNat (val16I s[k+1].toNat*16+val16I s[k+2].toNat).toNat).toNat:Int)=16*val16I s[k+1].toNat+val16I s[k+2].toNat):=by
     have:(UInt8.ofNat (val16I s[k+1].toNat*16+val16I s[k+2].toNat).toNat).toNat=(val16I s[k+1].toNat*16+val16I s[k+2].toNat).toNat % 256:=by simp
     refine hid ?_;rw [this];omega
    generalize (UInt8.ofNat (val16I s[k+1].toNat*16+val16I s[k+2].toNat).toNat)=cc at HP hNN;generalize val16I (s[k+1].toNat:Int)=va at *
    generalize val16I (s[k+2].toNat:Int)=vb at *
    obtain ⟨hra1,hra2⟩:=hra
    obtain ⟨hrb1,hrb2⟩:=hrb
    clear h37 ha hb;have hge:decide (0≤va)=true:=by simp;omega
    have hgb:decide (0≤vb)=true:=by simp;omega
    go_wp2_with (go_at_call 271;refine (rhex_any _ _ (by omega) (by omega)).mono ?_;rintro e w' ⟨rfl,rfl⟩)
    have hw1:IntKind.i64.wrap ((k:Int)+1)=(k:Int)+1:=by rw [IntKind.wrap_i64];omega
    have hw2:IntKind.i64.wrap ((k:Int)+2)=(k:Int)+2:=by rw [IntKind.wrap_i64];omega
    have hw3:IntKind.i64.wrap (16*va)=16*va:=by rw [IntKind.wrap_i64];omega
    have hw4:IntKind.i64.wrap (16*va+vb)=16*va+vb:=by rw [IntKind.wrap_i64];omega
    have hw5:IntKind.u8.wrap (16*va+vb)=(cc.toNat:Int):=by rw [hNN.out,IntKind.wrap_u8];omega
    have ht1:((k:Int)+1).toNat=k+1:=by omega
    have ht2:((k:Int)+2).toNat=k+2:=by omega
    have hq1:(0:Int)≤(k:Int)+1:=by omega
    have hq2:(0:Int)≤(k:Int)+2:=by omega
    have hq3:(k:Int)+1<(s.size:Int):=by omega
    have hq4:(k:Int)+2<(s.size:Int):=by omega
    have hbs:=hbw.size
    go_region_law (first | (refine step_append_own rfl (.tmp 38) (.tmp 52) 28 rfl w.heap.size 5 i0 (.int .u8 0) 1 1 Tryz.underlying28 hi hz0 hz1 hz2 rfl (by decide) u3 acc.length (Lib.byteCells acc) rfl (by exact hown.alloc _) ⟨wr.heap.size,0,none⟩ 1 1 [.int .u8 (cc.toNat:Int)] rfl rfl (by intro j u hj;match j,hj with | 0,hj=>simp at hj;subst hj;simp [Addr.add]) (by intro u hu;simp at hu;subst hu;rfl) (by unfold maxLen;omega) (by omega) (by simp;omega) ?_;intro v' w2 hown' hgrow hnil) | (go_simp;go_at_call 271;refine (rhex_any _ _ (by omega) (by omega)).mono ?_;rintro e w' ⟨rfl,rfl⟩;go_simp))
    all_goals
     go_wp2
     go_roundw
     case rel=>
      refine ⟨k+3,acc++[cc],by omega,by go_num,?_,?_,?_,by simp;omega⟩
      ·rw [Lib.byteCells_append,byteCells_one];simpa using hown'
      ·exact (hbw.alloc hbw.size _).drew.grown hgrow (by simp;omega) (fun g hg=>(hown.lt g hg).1)
      ·rw [← HA.out,HP.out,List.append_assoc];rfl
     case measure=>simp [intOf];omega
   ·have hno:pcd (s.data.toList.drop k)=(s[k],false):=by
     by_cases h37:s[k]=37
     ·by_cases h2:k+2<s.size
      ·rw [pcd_at37 s k h2 h37,h37]
       by_cases ha:is16I (s[k+1].toNat:Int)=true
       ·by_cases hb:is16I (s[k+2].toNat:Int)=true
        ·exact absurd ⟨h2,h37,ha,hb⟩ hyes
        ·simp [hb]
       ·simp [ha]
      ·exact pcd_short_at s k hlt h2
     ·exact pcd_other_at s k hlt h37
    have HP:=hid (unpct_at s k hlt _ false hno);have hcase:(((s[k].toNat:Int)==37)=false)∨((s[k].toNat:Int)=37∧s.size≤k+2)∨(∃ h:k+2<s.size,(s[k].toNat:Int)=37∧is16I (s[k+1].toNat:Int)=false)∨(∃ h:k+2<s.size,(s[k].toNat:Int)=37∧is16I (s[k+1].toNat:Int)=true∧is16I (s[k+2].toNat:Int)=false):=by
     by_cases h37:s[k]=37
     ·have h37':(s[k].toNat:Int)=37:=by rw [h37];rfl
      by_cases h2:k+2<s.size
      ·by_cases ha:is16I (s[k+1].toNat:Int)=true
       ·by_cases hb:is16I (s[k+2].toNat:Int)=true
        ·exact absurd ⟨h2,h37,ha,hb⟩ hyes
        ·exact .inr (.inr (.inr ⟨h2,h37',ha,by simpa using hb⟩))
       ·exact .inr (.inr (.inl ⟨h2,h37',by simpa using ha⟩))
      ·exact .inr (.inl ⟨h37',by omega⟩)
     ·left
      rw [beq_eq_false_iff_ne];intro e;apply h37;exact UInt8.toNat_inj.1 (by show s[k].toNat=37;omega)
    clear hno hyes;have hbs:=hbw.size;rcases hcase with h37 | ⟨h37,h2⟩ | ⟨h2,h37,ha⟩ | ⟨h2,h37,ha,hb⟩
    ·go_wp2_with (at_builtin;refine wpList_append_own _ rfl _ _ 28 rfl w.heap.size 5 i0 (.int .u8 0) 1 1 Tryz.underlying28 hi hz0 hz1 hz2 rfl (by decide) _ _ _ rfl (hown.alloc _) ⟨wr.heap.size,0,none⟩ 1 1 [.int .u8 s[k].toNat] rfl rfl ?c1 ?c2 ?c3 ?c4 ?c5 ?_)
     case c1=>
      intro j u hj
      match j,hj with
      | 0,hj=>simp at hj;subst hj;simp [Addr.add]<;>exact h37.symm
     case c2=>intro u hu;simp at hu;subst hu;rfl
     case c3=>unfold maxLen;omega
     case c4=>omega
     case c5=>simp;omega
     intro v' w2 hown' hgrow hnil
     go_wp2
     go_roundw
     case rel=>
      refine ⟨k+1,acc++[s[k]],by omega,by go_num,?_,?_,?_,by simp;omega⟩
      ·rw [Lib.byteCells_append,byteCells_one]
       first | simpa using hown' | (simp only [h37] at hown' ⊢;simpa using hown')
      ·exact (hbw.alloc hbw.size _).grown hgrow (by simp;omega) (fun g hg=>(hown.lt g hg).1)
      ·rw [← HA.out,HP.out,List.append_assoc];rfl
     case measure=>simp [intOf];omega
    ·have hd:decide ((k:Int)+2<(s.size:Int))=false:=by simp;omega
     go_wp2_with (at_builtin;refine wpList_append_own _ rfl _ _ 28 rfl w.heap.size 5 i0 (.int .u8 0) 1 1 Tryz.underlying28 hi hz0 hz1 hz2 rfl (by decide) _ _ _ rfl (hown.alloc _) ⟨wr.heap.size,0,none⟩ 1 1 [.int .u8 s[k].toNat] rfl rfl ?c1 ?c2 ?c3 ?c4 ?c5 ?_)
     case c1=>
      intro j u hj
      match j,hj with
      | 0,hj=>simp at hj;subst hj;simp [Addr.add]<;>exact h37.symm
     case c2=>intro u hu;simp at hu;subst hu;rfl
     case c3=>unfold maxLen;omega
     case c4=>omega
     case c5=>simp;omega
     intro v' w2 hown' hgrow hnil
     go_wp2
     go_roundw
     case rel=>
      refine ⟨k+1,acc++[s[k]],by omega,by go_num,?_,?_,?_,by simp;omega⟩
      ·rw [Lib.byteCells_append,byteCells_one]
       first | simpa using hown' | (simp only [h37] at hown' ⊢;simpa using hown')
      ·exact (hbw.alloc hbw.size _).grown hgrow (by simp;omega) (fun g hg=>(hown.lt g hg).1)
      ·rw [← HA.out,HP.out,List.append_assoc];rfl
     case measure=>simp [intOf];omega
    ·have hva:=hexI_no _ ha
     have la:s[k+1].toNat<256:=s[k+1].toNat_lt;have hd:(k:Int)+2<(s.size:Int):=by omega
     go_wp2_with (first | (go_at_call 271;refine (rhex_any _ _ (by omega) (by omega)).mono ?_;rintro e w' ⟨rfl,rfl⟩) | (at_builtin;refine wpList_append_own _ rfl _ _ 28 rfl w.heap.size 5 i0 (.int .u8 0) 1 1 Tryz.underlying28 hi hz0 hz1 hz2 rfl (by decide) _ _ _ rfl (hown.alloc _) ⟨wr.heap.size,0,none⟩ 1 1 [.int .u8 s[k].toNat] rfl rfl ?c1 ?c2 ?c3 ?c4 ?c5 ?_))
     case c1=>
      intro j u hj
      match j,hj with
      | 0,hj=>simp at hj;subst hj;simp [Addr.add]<;>exact h37.symm
     case c2=>intro u hu;simp at hu;subst hu;rfl
     case c3=>unfold maxLen;omega
     case c4=>omega
     case c5=>simp;omega
     intro v' w2 hown' hgrow hnil
     go_wp2
     go_roundw
     case rel=>
      refine ⟨k+1,acc++[s[k]],by omega,by go_num,?_,?_,?_,by simp;omega⟩
      ·rw [Lib.byteCells_append,byteCells_one]
       first | simpa using hown' | (simp only [h37] at hown' ⊢;simpa using hown')
      ·exact (hbw.alloc hbw.size _).grown hgrow (by simp;omega) (fun g hg=>(hown.lt g hg).1)
      ·rw [← HA.out,HP.out,List.append_assoc];rfl
     case measure=>simp [intOf];omega
    ·have hva:=hexI_yes _ ha
     have hvb:=hexI_no _ hb;have la:s[k+1].toNat<256:=s[k+1].toNat_lt;have lb:s[k+2].toNat<256:=s[k+2].toNat_lt;have hd:(k:Int)+2<(s.size:Int):=by omega
     have hra:=(val16_lt (s[k+1].toNat:Int)).1
     go_wp2_with (first | (go_at_call 271;refine (rhex_any _ _ (by omega) (by omega)).mono ?_;rintro e w' ⟨rfl,rfl⟩) | (at_builtin;refine wpList_append_own _ rfl _ _ 28 rfl w.heap.size 5 i0 (.int .u8 0) 1 1 Tryz.underlying28 hi hz0 hz1 hz2 rfl (by decide) _ _ _ rfl (hown.alloc _) ⟨wr.heap.size,0,none⟩ 1 1 [.int .u8 s[k].toNat] rfl rfl ?c1 ?c2 ?c3 ?c4 ?c5 ?_))
     case c1=>
      intro j u hj
      match j,hj with
      | 0,hj=>simp at hj;subst hj;simp [Addr.add]<;>exact h37.symm
     case c2=>intro u hu;simp at hu;subst hu;rfl
     case c3=>unfold maxLen;omega
     case c4=>omega
     case c5=>simp;omega
     intro v' w2 hown' hgrow hnil
     go_wp2
     go_roundw
     case rel=>
      refine ⟨k+1,acc++[s[k]],by omega,by go_num,?_,?_,?_,by simp;omega⟩
      ·rw [Lib.byteCells_append,byteCells_one]
       first | simpa using hown' | (simp only [h37] at hown' ⊢;simpa using hown')
      ·exact (hbw.alloc hbw.size _).grown hgrow (by simp;omega) (fun g hg=>(hown.lt g hg).1)
      ·rw [← HA.out,HP.out,List.append_assoc];rfl
     case measure=>simp [intOf];omega
  ·have hd:=drop_none s k hlt
   have he:acc=unpct s.data.toList:=by rw [← HA.out,hd];simp [unpct,unpctN]
   have hS:=SlB.own hown;rw [he] at hS;have hcv:=hS.string (P:=Tryz.prog) (src:=28) (dst:=9) Tryz.underlying28 Tryz.underlying5 Tryz.underlying9;clear hd he hS
   go_wp2
   go_ret
   exact ⟨rfl,hbw⟩

end Go.Proofs.YtolioccofbhliaaGreatDoor

namespace Go.Proofs.YtolioccofbhliaaGreatDoor
open Go.RowKit

theorem numeral_dec8 (n:Nat) (w:World) (h:n<256):
 Calls Tryz.prog 68 #[.int .i64 n] w fun e w'=>e = .returned (.string ⟨(dec8 n).toArray⟩)∧w=w':=by
 rw [dec8_digs n h];exact numeral_nat n w (by omega)

def rt4 (n:Nat):Nat→List UInt8
 | 4=>[]
 | g=>txt4 n g

theorem rt4_le (n g:Nat):(rt4 n g).length≤15:=by
 unfold rt4;split
 ·simp
 ·exact txt4_le n _

set_option maxHeartbeats 2000000 in
theorem rtext4_any (n:Nat) (w:World) (h:n<4294967296):
 Calls Tryz.prog 268 #[.int .u32 n] w fun e w'=>e = .returned (.string ⟨(text4 n).toArray⟩)∧Below w.heap.size w w':=by
 have hd1:=dec8_ne (n / 16777216 % 256) (by omega)
 go_enter Tryz.func268,Tryz.ntmps268
 go_wp2
 go_loopg [3,4] 4 (fun g s3 s4 wr=>g≤4∧s4 = .int .i64 (8*(g:Int) - 8)∧s3 = .string ⟨(rt4 n g).toArray⟩∧Below w.heap.size w wr)
 case atStart=>exact ⟨by omega,rfl,rfl,Below.refl _ _⟩
 case round=>
  obtain ⟨hk,rfl,rfl,hbw⟩:=hrel
  obtain rfl | rfl | rfl | rfl | rfl:gk=0∨gk=1∨gk=2∨gk=3∨gk=4:=by omega
  ·go_wp2
   go_ret
   exact ⟨rfl,hbw⟩
  ·have hl2:=dec8_le (n % 256)
   have ha:=and255 (n) (by omega)
   have hlt:n % 256<256:=by omega
   have HT:=hid (show (⟨(rt4 n 1).toArray⟩:ByteArray)++⟨#[46]⟩++⟨(dec8 (n % 256)).toArray⟩=⟨(rt4 n 0).toArray⟩ by rw [show (⟨#[46]⟩:ByteArray)=⟨[46].toArray⟩ from rfl,ba_app,ba_app];simp [rt4,txt4,text4]);have hl1:=rt4_le n 1;have he:(rt4 n 1).isEmpty=false:=by simp [rt4,txt4,hd1]
   have HM:=hid (fun W=>numeral_dec8 (n % 256) W hlt);obtain ⟨m,hm⟩: ∃ m:Nat,m=n % 256:=⟨_,rfl⟩
   rw [← hm] at ha hlt HM hl2 HT;clear hm
   go_wp2_with (go_at_call 68;go_must (refine (HM.out _).mono ?_;rintro e w2 ⟨rfl,rfl⟩))
   go_roundg 0
   case measure=>omega
   case rel=>exact ⟨by omega,by go_num,by rw [← HT.out],hbw⟩
  ·have hl2:=dec8_le (n / 256 % 256)
   have ha:bits .and .u32 ((n:Int) / 256) 255=((n / 256 % 256:Nat):Int):=and255 (n / 256) (by omega)
   have hlt:n / 256 % 256<256:=by omega
   have HT:=hid (show (⟨(rt4 n 2).toArray⟩:ByteArray)++⟨#[46]⟩++⟨(dec8 (n / 256 % 256)).toArray⟩=⟨(rt4 n 1).toArray⟩ by rw [show (⟨#[46]⟩:ByteArray)=⟨[46].toArray⟩ from rfl,ba_app,ba_app];simp [rt4,txt4,text4]);have hl1:=rt4_le n 2;have he:(rt4 n 2).isEmpty=false:=by simp [rt4,txt4,hd1]
   have HM:=hid (fun W=>numeral_dec8 (n / 256 % 256) W hlt);obtain ⟨m,hm⟩: ∃ m:Nat,m=n / 256 % 256:=⟨_,rfl⟩
   rw [← hm] at ha hlt HM hl2 HT;clear hm
   go_wp2_with (go_at_call 68;go_must (refine (HM.out _).mono ?_;rintro e w2 ⟨rfl,rfl⟩))
   go_roundg 1
   case measure=>omega
   case rel=>exact ⟨by omega,by go_num,by rw [← HT.out],hbw⟩
  ·have hl2:=dec8_le (n / 65536 % 256)
   have ha:bits .and .u32 ((n:Int) / 65536) 255=((n / 65536 % 256:Nat):Int):=and255 (n / 65536) (by omega)
   have hlt:n / 65536 % 256<256:=by omega
   have HT:=hid (show (⟨(rt4 n 3).toArray⟩:ByteArray)++⟨#[46]⟩++⟨(dec8 (n / 65536 % 256)).toArray⟩=⟨(rt4 n 2).toArray⟩ by rw [show (⟨#[46]⟩:ByteArray)=⟨[46].toArray⟩ from rfl,ba_app,ba_app];simp [rt4,txt4,text4]);have hl1:=rt4_le n 3;have he:(rt4 n 3).isEmpty=false:=by simp [rt4,txt4,hd1]
   have HM:=hid (fun W=>numeral_dec8 (n / 65536 % 256) W hlt);obtain ⟨m,hm⟩: ∃ m:Nat,m=n / 65536 % 256:=⟨_,rfl⟩
   rw [← hm] at ha hlt HM hl2 HT;clear hm
   go_wp2_with (go_at_call 68;go_must (refine (HM.out _).mono ?_;rintro e w2 ⟨rfl,rfl⟩))
   go_roundg 2
   case measure=>omega
   case rel=>exact ⟨by omega,by go_num,by rw [← HT.out],hbw⟩
  ·rw [show rt4 n 4=[] from rfl]
   have hl2:=dec8_le (n / 16777216 % 256);have ha:bits .and .u32 ((n:Int) / 16777216) 255=((n / 16777216 % 256:Nat):Int):=and255 (n / 16777216) (by omega)
   have hlt:n / 16777216 % 256<256:=by omega
   have HT:=hid (show (⟨(dec8 (n / 16777216 % 256)).toArray⟩:ByteArray)=⟨(rt4 n 3).toArray⟩ from rfl);have HM:=hid (fun W=>numeral_dec8 (n / 16777216 % 256) W hlt);obtain ⟨m,hm⟩: ∃ m:Nat,m=n / 16777216 % 256:=⟨_,rfl⟩
   rw [← hm] at ha hlt HM hl2 HT;clear hm
   go_wp2_with (go_at_call 68;go_must (refine (HM.out _).mono ?_;rintro e w2 ⟨rfl,rfl⟩))
   go_roundg 3
   case measure=>omega
   case rel=>exact ⟨by omega,by go_num,by rw [← HT.out];simp;exact ba_app [] _,hbw⟩

end Go.Proofs.YtolioccofbhliaaGreatDoor

namespace Go.Proofs.YtolioccofbhliaaGreatDoor
open Go.RowKit

theorem nameB_hi {c:UInt8} (h:126<c.toNat):nameB c=false:=by
 unfold nameB;simp [h]

theorem nameB_lo {c:UInt8} (h:c.toNat<33):nameB c=false:=by
 unfold nameB;simp [h]

theorem nameB_pc {c:UInt8} (h:c=37):nameB c=false:=by
 subst h;decide

theorem nameB_fb {c:UInt8} (h:forb c=true):nameB c=false:=by
 unfold nameB;simp [h]

theorem nameB_ok {c:UInt8} (h1: ¬ 126<c.toNat) (h2: ¬ c.toNat<33) (h3:c≠37) (h4:forb c=false):nameB c=true:=by
 unfold nameB;simp [h1,h2,h3,h4]

set_option maxHeartbeats 8000000 in
set_option maxRecDepth 100000 in
theorem rparse_name (s:ByteArray) (w:World) (hs:s.size≤1000000) (hp:Lib.hasPrefix s.data.toList [91]=false):
 Calls Tryz.prog 253 #[.string s,.bool true] w (Parse2Post (parseV s.data.toList true) w):=by
 have HV:=hid (show parseV s.data.toList true=nameV (low (unpct s.data.toList)) from parseV_name hp);have HB:=hid (fun W=>begins_any s ⟨#[91]⟩ W (by omega) (by decide));rw [show (⟨#[91]⟩:ByteArray).data.toList=[91] from rfl,hp] at HB;clear hp;have HU:=hid (runpercent_any s w hs);have hul:=unpct_le s.data.toList;have hUs:(⟨(unpct s.data.toList).toArray⟩:ByteArray).size≤1000000:=by
  show (unpct s.data.toList).toArray.size≤_;simp at hul ⊢;omega
 have HLo:=hid (fun W=>rlower_any ⟨(unpct s.data.toList).toArray⟩ W (by omega));rw [show (⟨(unpct s.data.toList).toArray⟩:ByteArray).data.toList=unpct s.data.toList from rfl] at HLo;have hMl:(low (unpct s.data.toList)).length≤1000000:=by rw [low_length];simp at hul;omega
 generalize low (unpct s.data.toList)=M at *
 generalize unpct s.data.toList=U at *
 obtain ⟨X,hX⟩: ∃ X:ByteArray,X=⟨M.toArray⟩:=⟨_,rfl⟩
 have HXd:=hid (show X.data.toList=M by rw [hX]);have hXs:X.size≤1000000:=by rw [hX];show M.toArray.size≤_;simpa using hMl
 have HX:=hid hX;rw [← hX] at HLo;rw [← HXd.out] at HV;clear hX hMl HXd;clear HX
 go_enter Tryz.func253,Tryz.ntmps253
 go_wp2_with (go_at_call 215;refine (HB.out _).mono ?_;rintro e w' ⟨rfl,rfl⟩)
 refine HU.out.mono ?_;rintro e w1 ⟨rfl,hb1⟩
 go_wp2_with fail
 refine (HLo.out _).mono ?_;rintro e w2 ⟨rfl,hb2⟩
 have hb:=below2 hb1 hb2;clear hb1 hb2 HU HLo HB hUs hul
 go_wp2_with fail
 go_loop [9] (fun i=> ∃ k:Nat,k≤X.size∧i = .int .i64 k∧(X.data.toList.drop k).all nameB=allN X.data.toList) (fun i=>X.size - (intOf i).toNat)
 case atStart=>exact ⟨0,Nat.zero_le _,rfl,by rw [List.drop_zero];rfl⟩
 case round=>
  obtain ⟨k,hk,rfl,hall⟩:=hrel
  have HA:=hid hall;clear hall;by_cases hlt:k<X.size
  ·have hlt':(k:Int)<(X.size:Int):=by omega
   have hc8:X[k].toNat<256:=X[k].toNat_lt;have HD:=hid (drop_cons X k hlt);have HBad:=hid (show nameB X[k]=false→parseV s.data.toList true=none by
    intro h;rw [HV.out];refine nameV_bad (.inr (.inl ?_));rw [← HA.out,HD.out,List.all_cons,h];rfl)
   by_cases h1:126<X[k].toNat
   ·have HN:=hid (HBad.out (nameB_hi h1))
    have h1':(126:Int)<(X[k].toNat:Int):=by omega
    go_wp2_with fail
    go_ret2
    exact parse2_none HN.out hb
   ·have h1':decide ((126:Int)<(X[k].toNat:Int))=false:=by simp;omega
    by_cases h2:X[k].toNat<33
    ·have HN:=hid (HBad.out (nameB_lo h2))
     have h2':(X[k].toNat:Int)<33:=by omega
     go_wp2_with fail
     go_ret2
     exact parse2_none HN.out hb
    ·have h2':decide ((X[k].toNat:Int)<33)=false:=by simp;omega
     by_cases h3:X[k]=37
     ·have HN:=hid (HBad.out (nameB_pc h3))
      have h3':(X[k].toNat:Int)=37:=by rw [h3];rfl
      clear h3
      go_wp2_with fail
      go_ret2
      exact parse2_none HN.out hb
     ·have h3':((X[k].toNat:Int)==37)=false:=by
       rw [beq_eq_false_iff_ne];intro e;exact h3 (UInt8.toNat_inj.1 (by have:(37:UInt8).toNat=37:=rfl;omega))
      cases h4:forb X[k] with
      | true=>
        have HN:=hid (HBad.out (nameB_fb h4));have HF:=hid h4;clear h4 h3
        go_wp2_with (go_at_call 264;refine (rbad_any _ _).mono ?_;rintro e w' ⟨rfl,rfl⟩;rw [HF.out])
        go_ret2
        exact parse2_none HN.out hb
      | false=>
        have HA2:=hid (show (X.data.toList.drop (k+1)).all nameB=allN X.data.toList by rw [← HA.out,HD.out,List.all_cons,nameB_ok h1 h2 h3 h4];rfl);have HF:=hid h4;clear h4 h3
        go_wp2_with (go_at_call 264;refine (rbad_any _ _).mono ?_;rintro e w' ⟨rfl,rfl⟩;rw [HF.out])
        go_round
        case rel=>exact ⟨k+1,by omega,by go_num,HA2.out⟩
        case measure=>simp [intOf];omega
  ·have hlt': ¬ (k:Int)<(X.size:Int):=by omega
   have HAll:=hid (show allN X.data.toList=true by rw [← HA.out,drop_none X k hlt];rfl);have hcut:=rcut_any X 46 w2 hXs;rw [show ((46:UInt8).toNat:Int)=46 from rfl] at hcut;have HCd:=hid (coded_eq X.data.toList);have HLs:=hid (show ∀ x ∈ cutL 46 X.data.toList,x.length≤1000000 by
    intro x hx;have:=cutL_le 46 _ x hx;simp at this
    omega)
   have hLl:(cutL 46 X.data.toList).length≤1000001:=by
    have:=cutL_count 46 X.data.toList;simp at this;omega
   generalize cutL 46 X.data.toList=L at *
   go_wp2_with fail
   refine hcut.mono ?_;rintro e w3 ⟨b,cap,rfl,hlc,hcm,htx,hb3⟩
   clear hcut;have HT:=hid htx;have hbw:=below2 hb hb3;clear htx hb3;unfold maxLen at hcm
   go_wp2_with fail
   go_loop [11] (fun i=> ∃ q:Nat,q≤L.length∧i = .int .i64 q∧(L.drop q).any (fun p=>Lib.hasPrefix p xn)=coded X.data.toList) (fun i=>L.length - (intOf i).toNat)
   case atStart=>exact ⟨0,Nat.zero_le _,rfl,by rw [List.drop_zero,HCd.out]⟩
   case round=>
    obtain ⟨q,hq,rfl,hany⟩:=hrel
    have HQ:=hid hany;clear hany;by_cases hql:q<L.length
    ·have hql':(q:Int)<(L.length:Int):=by omega
     have hcell:=HT.out q hql;have HDq:=hid (show L.drop q=L[q]'hql::L.drop (q+1) from List.drop_eq_getElem_cons hql);have hYs:(⟨(L[q]'hql).toArray⟩:ByteArray).size≤4000000000:=by
      have:=HLs.out _ (List.getElem_mem hql);show (L[q]'hql).toArray.size≤_
      simp;omega
     have HBg:=hid (fun W=>begins_any ⟨(L[q]'hql).toArray⟩ ⟨#[120,110,45,45]⟩ W hYs (by decide));rw [show (⟨(L[q]'hql).toArray⟩:ByteArray).data.toList=L[q]'hql from rfl,show (⟨#[120,110,45,45]⟩:ByteArray).data.toList=xn from rfl] at HBg
     cases hx:Lib.hasPrefix (L[q]'hql) xn with
     | true=>
       have HN:=hid (show parseV s.data.toList true=none by
        rw [HV.out];refine nameV_bad (.inr (.inr ?_));rw [← HQ.out,HDq.out,List.any_cons,hx];rfl)
       rw [hx] at HBg;clear hx
       go_wp2_with (go_at_call 215;refine (HBg.out _).mono ?_;rintro e w' ⟨rfl,rfl⟩)
       go_ret2
       exact parse2_none HN.out hbw
     | false=>
       have HQ2:=hid (show (L.drop (q+1)).any (fun p=>Lib.hasPrefix p xn)=coded X.data.toList by rw [← HQ.out,HDq.out,List.any_cons,hx];rfl);rw [hx] at HBg;clear hx
       go_wp2_with (go_at_call 215;refine (HBg.out _).mono ?_;rintro e w' ⟨rfl,rfl⟩)
       go_round
       case rel=>exact ⟨q+1,by omega,by go_num,HQ2.out⟩
       case measure=>simp [intOf];omega
    ·have hql': ¬ (q:Int)<(L.length:Int):=by omega
     have HC:=hid (show coded X.data.toList=false by rw [← HQ.out,List.drop_eq_nil_of_le (by omega)];rfl);by_cases h0:X.data.toList=[]
     ·have he:=empty_yes X h0
      have HN:=hid (show parseV s.data.toList true=none by rw [HV.out];exact nameV_bad (.inl h0));clear h0
      go_wp2_with fail
      go_ret2
      exact parse2_none HN.out hbw
     ·have he:=empty_no X h0
      have HNm:=hid (rnumbered_any X w3 hXs)
      cases hnb:numberedV X.data.toList with
      | false=>
        have HN:=hid (show parseV s.data.toList true=some X.data.toList by rw [HV.out];exact nameV_name h0 HAll.out HC.out hnb);rw [hnb] at HNm;clear h0 hnb
        go_wp2_with fail
        refine HNm.out.mono ?_;rintro e w4 ⟨rfl,hb4⟩
        go_wp2_with fail
        go_ret2
        exact parse2_some HN.out (ba_self X) (below2 hbw hb4)
      | true=>
        have HV2:=hid (show parseV s.data.toList true=(fourV X.data.toList).map text4 by rw [HV.out];exact nameV_num h0 HAll.out HC.out hnb);rw [hnb] at HNm;clear h0 hnb
        go_wp2_with fail
        refine HNm.out.mono ?_;rintro e w4 ⟨rfl,hb4⟩
        have hbw4:=below2 hbw hb4;clear hb4;have h4:=rfour_any X w4 hXs;unfold Four2Post at h4
        cases hf:fourV X.data.toList with
        | none=>
          have HN:=hid (show parseV s.data.toList true=none by rw [HV2.out,hf];rfl);rw [hf] at h4;have H4:=hid (show Calls Tryz.prog 267 #[.string X] w4 (fun e w'=>e = .returned (.tuple #[.int .u32 0,.bool false])∧Below w4.heap.size w4 w') from h4);clear hf h4
          go_wp2_with fail
          refine H4.out.mono ?_;rintro e w5 ⟨rfl,hb5⟩
          go_wp2_with fail
          go_ret2
          exact parse2_none HN.out (below2 hbw4 hb5)
        | some n=>
          have HN:=hid (show parseV s.data.toList true=some (text4 n) by rw [HV2.out,hf];rfl);have hn:=fourV_lt hf;rw [hf] at h4;have H4:=hid (show Calls Tryz.prog 267 #[.string X] w4 (fun e w'=>e = .returned (.tuple #[.int .u32 n,.bool true])∧Below w4.heap.size w4 w') from h4);clear hf h4
          go_wp2_with fail
          refine H4.out.mono ?_;rintro e w5 ⟨rfl,hb5⟩
          go_wp2_with fail
          refine (rtext4_any n w5 hn).mono ?_;rintro e w6 ⟨rfl,hb6⟩
          go_wp2_with fail
          go_ret2
          exact parse2_some HN.out rfl (below2 (below2 hbw4 hb5) hb6)

theorem rparse_any (s:ByteArray) (special:Bool) (w:World) (hs:s.size≤1000000):
 Calls Tryz.prog 253 #[.string s,.bool special] w (Parse2Post (parseV s.data.toList special) w):=by
 cases hp:Lib.hasPrefix s.data.toList [91] with
 | true=>exact rparse_six s special w hs hp
 | false=>
   cases special with
   | true=>exact rparse_name s w hs hp
   | false=>exact rparse_other s w hs hp

end Go.Proofs.YtolioccofbhliaaGreatDoor
