/-
  Walks and plain facts that this claim leans on, put together out of 10 texts: Sa, Sd, Uk, Ul, Um, Uo, Uq, Us, Ut, Uv.
-/
import Derived.Test.YtolioccofbhliaaGreatDoorProg
import Derived.Test.YtolioccofbhliaaGreatDoorQp1
import Derived.Test.YtolioccofbhliaaGreatDoorQp2
import Derived.Test.YtolioccofbhliaaGreatDoorQp3
import Derived.WalkKit
import Derived.Lib.Strings
import Derived.Lib.UnsafeStr
import Derived.Laws.IdiomStrings
import Derived.Laws.AppendOwn
import Derived.Laws.BitsAllLaws
import Derived.Lib.Bytealg
import Derived.Lib.BufferMore
import Derived.LoopN
import Derived.RegionTactic
import Derived.Deep.RegionWith
import Derived.Deep.QuietTactic
import Derived.BigQuiet
import Derived.Shelf.Strings.Builder1
import Derived.Shelf.Strings.Builder2
import Derived.Shelf.Strings.OnBuilder
import Derived.Shelf.Strings.Trim
import Derived.Shelf.Small.Utf8
import Derived.Shelf.Small.Bits
import Derived.Shelf.Small.Strs
import Derived.Shelf.Small.Wraps
import Derived.Shelf.Strings.BuilderF
import Derived.Shelf.Strings.BuilderK
import Derived.Shelf.Strings.Builder2Cap
import Derived.Shelf.Strconv.Itoa0
import Derived.Shelf.Strconv.Itoa1
import Derived.Shelf.LaysM
import Derived.Shelf.Strconv.Itoa2
import Derived.Shelf.Strconv.Itoa3
import Derived.Shelf.Strings.Search1
import Derived.Shelf.Strings.Search2
import Derived.Shelf.Strings.Cut
import Derived.Shelf.Strings.Shaped
import Derived.Shelf.Sort.Plain
import Derived.Shelf.Strings.Prefix
import Derived.Shelf.Strings.Runes
import Derived.Shelf.Strings.IndexAny
import Derived.Shelf.Strings.AsciiSet
import Derived.Shelf.Strings.IndexAnyAll
import Derived.Shelf.Unicode.DecodeSlow
import Derived.Shelf.Unicode.DecodeAny
import Derived.Shelf.Unicode.DecodeLast
import Derived.Shelf.Slices.CompactS
import Derived.Shelf.Slices.In.SortNone
import Derived.Ground.SlgnProg
import Derived.Shelf.SlicesE.Compact
import Derived.Ground.SlgfProg
import Derived.Shelf.SlicesE.IndexFunc
import Derived.Shelf.SlicesE.DeleteFunc
import Derived.WalkSpells
import Derived.WalkLawsBesides
import Derived.Lib.FrozenHead2
import Derived.Lib.OthersKept
import Derived.Lib.Builder
import Derived.Lib.IndexMore
import Derived.Lib.Join
import Derived.Lib.LastIndexByte
import Derived.Laws.OwnMore
import Derived.Lib.AppendIntMem
import Derived.Lib.SmallJoins
import Derived.WalkSmall
import Derived.WalkMore
import Derived.Deep.LoopGhost
import Derived.OwnWalk
import Derived.Laws.CopyOwn
import Derived.Laws.ResultCell
import Derived.Deep.MidRow
import Derived.Scope
import Derived.ScopeJumps
import Derived.Lib.IndexAny
import Derived.Lib.Replace
import Derived.Lib.TrimByte
import Derived.Lib.ItoaNum
import Derived.Laws.RangeAny
import Derived.Lib.DecodeN
import Derived.Laws.BytesString
import Derived.Deep.RegionLaw
import Derived.Deep.WholeRow
import Derived.BigRegion
set_option linter.unusedSimpArgs false
set_option linter.unusedVariables false

namespace Go.Proofs.YtolioccofbhliaaGreatDoor
open Go.RowKit

theorem ret_str {l:List UInt8} {t:ByteArray} (h:t.data.toList=l):Ending.returned (.string t) = .returned (.string ⟨l.toArray⟩):=by
 rw [← h,Lib.mk_data]

set_option maxHeartbeats 400000 in
theorem rdigit_any (c:Int) (w:World):
 Calls Tryz.prog 159 #[.int .u8 c] w fun e w'=>e = .returned (.bool (digitI c))∧w=w':=by
 go_enter Tryz.func159,Tryz.ntmps159
 go_wp2
 all_goals
  go_ret
  exact ⟨ret_bool (by rw [Bool.eq_iff_iff];simp [digitI];omega),rfl⟩

set_option maxHeartbeats 1000000 in
theorem rlower_any (s:ByteArray) (w:World) (hs:s.size≤140737488351232):
 Calls Tryz.prog 75 #[.string s] w fun e w'=>e = .returned (.string ⟨(low s.data.toList).toArray⟩)∧Below w.heap.size w w':=by
 have hcv:=run_bytes_of_string (P:=Tryz.prog) w 9 28 5 s Tryz.underlying9 Tryz.underlying28 Tryz.underlying5;have hcap:=grownCap_ge w s.size 0 5;have hr0:=rowIs_bytes w 5 s (grownCap w s.size 0 5) hcap;have hb0:Below w.heap.size w (w.drew.alloc (.cells (bytesRow s (grownCap w s.size 0 5)) 5 ((bytesRow s (grownCap w s.size 0 5)).size,(bytesRow s (grownCap w s.size 0 5)).size+1))):=(Below.refl _ w).drew.alloc (Nat.le_refl _) _
 generalize (w.drew.alloc (.cells (bytesRow s (grownCap w s.size 0 5)) 5 ((bytesRow s (grownCap w s.size 0 5)).size,(bytesRow s (grownCap w s.size 0 5)).size+1)))=w0 at hcv hr0 hb0;generalize grownCap w s.size 0 5=cap at hcv hcap
 go_enter Tryz.func75,Tryz.ntmps75
 go_wp2
 clear hcv
 go_loopw [4] (fun i wr=> ∃ k:Nat,k≤s.size∧i = .int .i64 k∧rowIs wr w.heap.size 5 (lowTo s.data.toList k)∧Below w.heap.size w wr)
  (fun i _=>s.size - (intOf i).toNat)
 case atStart=>exact ⟨0,Nat.zero_le _,rfl,by rw [lowTo_zero];exact hr0,hb0⟩
 case round=>
  obtain ⟨k,hk,rfl,hr,hbw⟩:=hrel
  by_cases hlt:k<s.size
  ·have hl:k<s.data.toList.length:=by simpa using hlt
   have hl':k<(lowTo s.data.toList k).length:=by rw [lowTo_length];exact hl
   have hc:=hr.cell k hl';rw [lowTo_at _ _ hl] at hc;have hf:=hr.frozen k hl';have hsucc:=lowTo_succ s.data.toList k hl;have hat:=lowTo_at s.data.toList k hl hl';generalize s.data.toList[k]=c at hc hsucc hat;have HS:=hid hsucc;have HAt:=hid hat;clear hsucc hat;have hc8:c.toNat<256:=c.toNat_lt;by_cases hu:65≤c.toNat∧c.toNat≤90
   ·have h1:(65:Int)≤(c.toNat:Int):=by omega
    have h2:(c.toNat:Int)≤90:=by omega
    have HL:=hid (lowC_yes c hu);clear hu
    go_wp2
    go_roundw
    case rel=>
     refine ⟨k+1,by omega,by go_num,?_,hbw.setCell (p:=⟨w.heap.size,k,none⟩) (Nat.le_refl _) _⟩;rw [HS.out,← HL.out]
     exact hr.set k _
    case measure=>simp [intOf];omega
   ·have HL:=hid (lowC_no c hu)
    have hu':(c.toNat:Int)<65∨90<(c.toNat:Int):=by omega
    clear hu;rcases hu' with h1 | h1
    all_goals
     go_wp2
     go_roundw
     case rel=>
      refine ⟨k+1,by omega,by go_num,?_,hbw⟩;have e:lowC c=(lowTo s.data.toList k)[k]:=by rw [HL.out,HAt.out]
      rw [HS.out,e,List.set_getElem_self]
      exact hr
     case measure=>simp [intOf];omega
  ·have hk':k=s.data.toList.length:=by simp;omega
   have hr':rowIs wr w.heap.size 5 (low s.data.toList):=by rw [← lowTo_all,← hk'];exact hr
   clear hr hk';have hcv:=hr'.string (P:=Tryz.prog) (src:=28) (dst:=9) (cap:=cap) Tryz.underlying28 Tryz.underlying5 Tryz.underlying9;rw [show (low s.data.toList).length=s.size by simp [low]] at hcv
   go_wp2
   go_ret
   exact ⟨rfl,hbw⟩

def inTo (c:Int) (t:List UInt8) (m:Nat):Bool:=(decide (c<32)||decide (126<c))||(t.take m).any fun x=>c==(x.toNat:Int)

theorem inTo_zero (c:Int) (t:List UInt8):inTo c t 0=(decide (c<32)||decide (126<c)):=by simp [inTo]

theorem inTo_succ (c:Int) (t:ByteArray) (k:Nat) (h:k<t.size):inTo c t.data.toList (k+1)=(inTo c t.data.toList k||c==(t[k].toNat:Int)):=by
 unfold inTo;rw [take_snoc t k h,List.any_append,Bool.or_assoc];have e:[t[k]].any (fun x=>c==(x.toNat:Int))=(c==(t[k].toNat:Int)):=by simp
 rw [e];simp only [Bool.or_assoc]

theorem inTo_all (c:Int) (t:ByteArray):inTo c t.data.toList t.size=((decide (c<32)||decide (126<c))||t.data.toList.any fun x=>c==(x.toNat:Int)):=by
 unfold inTo;rw [take_all t t.size (by omega)]

def setL (set:Int):List UInt8:=
 if set=2 then [32,34,60,62,96] else if set=3 then [32,34,35,60,62] else if set=4 then [32,34,35,60,62,39] else if set=5 then [32,34,35,60,62,63,94,96,123,125] else if set=6 then [32,34,35,60,62,63,94,96,123,125,47,58,59,61,64,91,92,93,124] else []

theorem setL_in (c set:Int) (h:1≤set∧set≤6):((decide (c<32)||decide (126<c))||(setL set).any fun x=>c==(x.toNat:Int))=inSetI c set:=by
 rw [Bool.eq_iff_iff,inSetI_iff]
 have h':set=1∨set=2∨set=3∨set=4∨set=5∨set=6:=by omega
 rcases h' with rfl | rfl | rfl | rfl | rfl | rfl<;>simp [setL,inSetP]<;>omega

set_option maxHeartbeats 1000000 in
theorem rin_1 (c:Int) (w:World):
 Calls Tryz.prog 238 #[.int .u8 c,.int .i64 1] w fun e w'=>e = .returned (.bool (inSetI c 1))∧w=w':=by
 have HF:=hid (setL_in c 1 (by omega));have hc:c<32∨(32≤c∧126<c)∨(32≤c∧c≤126):=by omega
 rcases hc with hc | ⟨hc1,hc2⟩ | ⟨hc1,hc2⟩
 all_goals
  go_enter Tryz.func238,Tryz.ntmps238
  go_wp2
  generalize hT:ByteArray.mk #[]=t;have hts:t.size≤19:=by rw [← hT];decide
  have HA:Hid (inTo c t.data.toList t.size=inSetI c 1):=hid ((inTo_all c t).trans (by rw [← hT];exact HF.out));clear hT HF
  go_loop [5,7] (fun o j=> ∃ m:Nat,m≤t.size∧j = .int .i64 m∧o = .bool (inTo c t.data.toList m)) (fun _ j=>t.size - (intOf j).toNat)
  case atStart=>exact ⟨0,by omega,rfl,by rw [inTo_zero]<;>(try congr 1)<;>(try simp)<;>omega⟩
  case round=>
   obtain ⟨m,hm,rfl,rfl⟩:=hrel
   by_cases hlt:m<t.size
   ·have HS:=hid (inTo_succ c t m hlt)
    have hot:inTo c t.data.toList m=true∨inTo c t.data.toList m=false:=by cases inTo c t.data.toList m<;>simp
    rcases hot with hot | hot
    all_goals
     go_wp2
     go_round
     case rel=>exact ⟨m+1,by omega,by go_num,by rw [HS.out,hot];simp⟩
     case measure=>simp [intOf];omega
   ·obtain rfl:m=t.size:=by omega
    go_wp2
    go_ret
    exact ⟨ret_bool HA.out,rfl⟩

theorem extract_hex: ∀ n,n<16→((ByteArray.mk #[48,49,50,51,52,53,54,55,56,57,65,66,67,68,69,70]).extract n (n+1)).data.toList=[hexD n]:=by decide +kernel

set_option maxHeartbeats 1000000 in
theorem rescape_any (c:UInt8) (w:World):
 Calls Tryz.prog 239 #[.int .u8 c.toNat] w fun e w'=>e = .returned (.string ⟨(esc c).toArray⟩)∧Below w.heap.size w w':=by
 have hc8:=c.toNat_lt;have ha:=and15 c.toNat hc8;have hsz:(ByteArray.mk #[48,49,50,51,52,53,54,55,56,57,65,66,67,68,69,70]).size=16:=rfl;have h1:(c.toNat:Int) / 16≤15:=by omega
 have h2:(c.toNat:Int) % 16≤15:=by omega
 have h3:(0:Int)≤(c.toNat:Int) / 16:=by omega
 have h4:(0:Int)≤(c.toNat:Int) % 16:=by omega
 go_enter Tryz.func239,Tryz.ntmps239
 go_wp2
 go_quiet (fail)
 go_wp2
 go_ret
 refine ⟨ret_str ?_,Go.below_drewN (Below.refl _ w) _⟩;rw [ByteArray.data_append,ByteArray.data_append,Array.toList_append,Array.toList_append,extract_hex _ (by omega),extract_hex _ (by omega)]
 rfl

theorem extract_at (s:ByteArray) (k:Nat) (h:k<s.size):(s.extract k (k+1)).data.toList=[s[k]]:=by
 rw [Lib.extract_data];have h':k<s.data.toList.length:=by simpa using h
 have:=List.drop_eq_getElem_cons h';rw [List.take_drop] at *
 simp [this,List.drop_take]
 rfl

set_option maxHeartbeats 1000000 in
theorem rpercent_any (s:ByteArray) (w:World) (hs:s.size≤1000000):
 Calls Tryz.prog 211 #[.string s,.int .i64 1] w fun e w'=>e = .returned (.string ⟨(pct 1 s.data.toList).toArray⟩)∧Below w.heap.size w w':=by
 go_enter Tryz.func211,Tryz.ntmps211
 go_wp2
 go_loopw [5,6] (fun o i wr=> ∃ (k:Nat) (t:ByteArray),k≤s.size∧i = .int .i64 k∧o = .string t∧t.data.toList=pct 1 (s.data.toList.take k)∧Below w.heap.size w wr) (fun _ i _=>s.size - (intOf i).toNat)
 case atStart=>exact ⟨0,_,Nat.zero_le _,rfl,rfl,rfl,Below.refl _ w⟩
 case round=>
  obtain ⟨k,t,hk,rfl,rfl,ht,hbw⟩:=hrel
  have htl:t.size≤3*k:=by
   rw [Lib.size_eq,ht]
   have:=pct_le 1 (s.data.toList.take k);simp at this;omega
  have HT:=hid ht;clear ht;by_cases hlt:k<s.size
  ·have HS:=hid (take_snoc s k hlt)
   have HP:=hid (pct_snoc 1 (s.data.toList.take k) s[k]);by_cases hin:inSetI (s[k].toNat:Int) 1=true
   ·go_wp2_with (first | (go_at_call 238;refine (rin_1 _ _).mono ?_;rintro e w' ⟨rfl,rfl⟩))
    refine (rescape_any s[k] wr).mono ?_;rintro e w1 ⟨rfl,hb1⟩
    have hes:(ByteArray.mk (esc s[k]).toArray).size=3:=rfl
    go_wp2
    go_roundw
    case rel=>
     refine ⟨k+1,_,by omega,by go_num,rfl,?_,hbw.trans (hb1.mono hbw.size)⟩;rw [ByteArray.data_append,Array.toList_append,HT.out,HS.out,HP.out,pct1,if_pos hin]
    case measure=>simp [intOf];omega
   ·have hin':inSetI (s[k].toNat:Int) 1=false:=by simpa using hin
    clear hin
    go_wp2_with (first | (go_at_call 238;refine (rin_1 _ _).mono ?_;rintro e w' ⟨rfl,rfl⟩))
    go_roundw
    case rel=>
     refine ⟨k+1,_,by omega,by go_num,rfl,?_,hbw⟩;rw [ByteArray.data_append,Array.toList_append,HT.out,HS.out,HP.out,pct1,hin',extract_at s k hlt]
     rfl
    case measure=>simp [intOf];omega
  ·have ht:=HT.out
   rw [take_all s k hlt] at ht;have HT2:=hid ht;clear ht HT
   go_wp2
   go_ret
   exact ⟨ret_str HT2.out,hbw⟩

def hexI (c:Int):Int:=if is16I c then val16I c else -1

set_option maxHeartbeats 400000 in
theorem rhex_any (c:Int) (w:World) (h0:0≤c) (h1:c≤255):
 Calls Tryz.prog 271 #[.int .u8 c] w fun e w'=>e = .returned (.int .i64 (hexI c))∧w=w':=by
 by_cases hd:digitI c=true
 ·have hd2:48≤c∧c≤57:=by simp [digitI] at hd;omega
  go_enter Tryz.func271,Tryz.ntmps271
  go_wp2_with (go_at_call 159;refine (rdigit_any _ _).mono ?_;rintro e w' ⟨rfl,rfl⟩)
  all_goals
   go_ret
   exact ⟨ret_int (by simp [hexI,is16I,val16I,hd,digitI];omega),rfl⟩
 ·have hd':digitI c=false:=by simpa using hd
  have hd2:c<48∨57<c:=by simp [digitI] at hd';omega
  clear hd;have hc:(97≤c∧c≤102)∨(65≤c∧c≤70)∨(c<65∨(70<c∧c<97)∨102<c):=by omega
  rcases hc with ⟨h3,h4⟩ | ⟨h3,h4⟩ | h3 | ⟨h3,h4⟩ | h3
  all_goals
   go_enter Tryz.func271,Tryz.ntmps271
   go_wp2_with (go_at_call 159;refine (rdigit_any _ _).mono ?_;rintro e w' ⟨rfl,rfl⟩)
  all_goals
   go_ret
   refine ⟨ret_int ?_,rfl⟩;have e1:is16I c=(decide (65≤c)&&decide (c≤70)||decide (97≤c)&&decide (c≤102)):=by simp [is16I,hd']
   unfold hexI;rw [e1];simp [val16I,digitI]
   omega

end Go.Proofs.YtolioccofbhliaaGreatDoor

namespace Go.Proofs.YtolioccofbhliaaGreatDoor
open Go.RowKit

def cellsS (L:List (List UInt8)):List Value:=L.map fun x=>Value.string ⟨x.toArray⟩

theorem cellsS_app (a b:List (List UInt8)):cellsS (a++b)=cellsS a++cellsS b:=by simp [cellsS]

theorem cellsS_len (a:List (List UInt8)):(cellsS a).length=a.length:=by simp [cellsS]

theorem cellsS_one (X:ByteArray):cellsS [X.data.toList]=[.string X]:=by
 show [Value.string ⟨X.data.toList.toArray⟩]=_;rw [Lib.mk_data]

def TxtS (w:World) (b:Nat) (L:List (List UInt8)):Prop:= ∀ j (h:j<L.length),w.cell? ⟨b,j,none⟩=some (.string ⟨L[j].toArray⟩)

theorem TxtS.kept {w w':World} {b:Nat} {L:List (List UInt8)} (h:TxtS w b L) (hb:Below w.heap.size w w'):TxtS w' b L:=fun j hj=>by
 have h1:=h j hj;exact (hb.cell (World.block_lt_of_cell? w _ h1)).trans h1

theorem TxtS.take {w:World} {b:Nat} {L:List (List UInt8)} (h:TxtS w b L) (n:Nat):TxtS w b (L.take n):=fun j hj=>by
 have:j<L.length:=by simp at hj;omega
 rw [h j this];simp

def TxtPost (L:List (List UInt8)) (w:World) (e:Ending) (w':World):Prop:=
 ∃ b cap,e = .returned (.slice (some ⟨b,0,none⟩) L.length cap)∧L.length≤cap∧cap≤maxLen∧TxtS w' b L∧Below w.heap.size w w'

theorem own_txt {w w':World} {B:Nat} {e:TypeId} {v:Value} {L:List (List UInt8)} (h:w'.ownsRow B e 1 v L.length (cellsS L)) (h0:L≠[]) (hb:Below w.heap.size w w'):TxtPost L w (.returned v) w':=by
 have hl:=List.length_pos_iff.2 h0;rcases h.2 with ⟨hv,hn⟩ | ⟨g,cap,cur,rfl,hg,hrow,hnc,hcm,hcs,htake⟩
 ·omega
 ·refine ⟨g,cap,rfl,hnc,hcm,fun j hj=> ?_,hb⟩
  rw [h.cellAt j (by omega)];simp [cellsS,hj]

theorem drop_split (s:ByteArray) (j k:Nat) (hj:j≤k) (hk:k<s.size):s.data.toList.drop j=(s.extract j k).data.toList++s[k]::s.data.toList.drop (k+1):=by
 rw [Lib.extract_data];have h1:s.data.toList.drop j=(s.data.toList.drop j).take (k - j)++(s.data.toList.drop j).drop (k - j):=(List.take_append_drop _ _).symm;rw [List.drop_drop,show j+(k - j)=k by omega,drop_cons s k hk] at h1
 exact h1

theorem ext_take (s:ByteArray) (j k:Nat):(s.extract j k).data.toList=(s.data.toList.drop j).take (k - j):=Lib.extract_data _ _ _

theorem ba_self (b:ByteArray):b=⟨b.data.toList.toArray⟩:=ba_ext rfl

set_option maxHeartbeats 2000000 in
set_option maxRecDepth 100000 in
theorem rcut_any (s:ByteArray) (c:UInt8) (w:World) (hs:s.size≤1000000):
 Calls Tryz.prog 254 #[.string s,.int .u8 (c.toNat:Int)] w (TxtPost (cutL c s.data.toList) w):=by
 obtain ⟨i0,hi,hz0,hz1,hz2⟩:=info_parts infoStr
 have hc8:=c.toNat_lt
 go_enter Tryz.func254,Tryz.ntmps254
 go_wp2
 go_loopw [5,6,7] (fun v fr i wr=> ∃ (k j:Nat) (out:List (List UInt8)),j≤k∧k≤s.size+1∧i = .int .i64 k∧fr = .int .i64 j∧out.length≤k∧wr.ownsRow w.heap.size 9 1 v out.length (cellsS out)∧Below w.heap.size w wr ∧
  ((k≤s.size∧cutL c s.data.toList=out++cutL c (s.data.toList.drop j)∧c ∉ (s.extract j k).data.toList)∨(k=s.size+1∧out=cutL c s.data.toList)))
  (fun _ _ i _=>s.size+1 - (intOf i).toNat)
 case atStart=>exact ⟨0,0,[],Nat.le_refl _,by omega,rfl,rfl,Nat.le_refl _,own_nil _ _ _,Below.refl _ w,.inl ⟨by omega,rfl,by rw [ext_take];simp⟩⟩
 case round=>
  obtain ⟨k,j,out,hjk,hk,rfl,rfl,hol,hown,hbw,hor⟩:=hrel
  have HO:=hid hown;clear hown;have hbs:=hbw.size;rcases hor with ⟨hks,hcut,hno⟩ | ⟨hks,hout⟩
  ·have HC:=hid hcut
   have HN:=hid hno;clear hcut hno;have hks':(k:Int)≤(s.size:Int):=by omega
   have hjk':(j:Int)≤(k:Int):=by omega
   obtain ⟨X,hX⟩: ∃ X:ByteArray,X=s.extract j k:=⟨_,rfl⟩
   by_cases hlt:k<s.size
   ·have hlt':((k:Int)==(s.size:Int))=false:=by rw [beq_eq_false_iff_ne];omega
    have hb8:s[k].toNat<256:=s[k].toNat_lt;have HD:=hid (drop_split s j k hjk hlt);by_cases he:s[k]=c
    ·have he':(s[k].toNat:Int)=(c.toNat:Int):=by rw [he]
     have HE:=hid he;have HX:=hid hX;clear hX he
     go_wp2_with (at_builtin;go_must (refine wpList_append_own _ rfl _ _ 50 rfl w.heap.size 9 i0 (.string ⟨#[]⟩) 1 16 Tryz.underlying50 hi hz0 hz1 hz2 rfl (by decide) _ _ _ rfl (HO.out.alloc _) ⟨wr.heap.size,0,none⟩ 1 1 [.string (s.extract j k)] rfl rfl ?c1 ?c2 ?c3 ?c4 ?c5 ?_))
     case c1=>
      intro q u hq
      match q,hq with
      | 0,hq=>simp at hq;subst hq;simp [Addr.add]
     case c2=>intro u hu;simp at hu;subst hu;rfl
     case c3=>unfold maxLen;omega
     case c4=>omega
     case c5=>simp;omega
     intro v' w2 hown' hgrow hnil;have HO2:=hid hown';have HB2:=hid (show Below w.heap.size w w2 from (hbw.alloc hbw.size _).grown hgrow (by simp;omega) (fun g hg=>(HO.out.lt g hg).1));clear hown' hgrow hnil
     go_wp2
     go_roundw
     case rel=>
      refine ⟨k+1,k+1,out++[(s.extract j k).data.toList],by omega,by omega,by go_num,by go_num,by simp;omega,?_,HB2.out,.inl ⟨by omega,?_,by rw [ext_take];simp⟩⟩
      ·rw [cellsS_app,cellsS_one,List.length_append]
       exact HO2.out
      ·have h1:=HC.out
       rw [HD.out,HE.out,cutL_some c _ _ HN.out] at h1
       rw [h1];simp
     case measure=>simp [intOf];omega
    ·have he':((s[k].toNat:Int)==(c.toNat:Int))=false:=by
      rw [beq_eq_false_iff_ne];intro e;exact he (UInt8.toNat_inj.1 (by omega))
     have HE:=hid he;clear he hX
     go_wp2
     go_roundw
     case rel=>
      refine ⟨k+1,j,out,by omega,by omega,by go_num,rfl,by omega,HO.out,hbw,.inl ⟨by omega,HC.out,?_⟩⟩;rw [ext_take,show k+1 - j=(k - j)+1 by omega,List.take_add_one]
      have h2:=HN.out;rw [ext_take] at h2;rw [List.mem_append];rintro (h | h)
      ·exact h2 h
      ·rw [List.getElem?_drop,show j+(k - j)=k by omega] at h
       have h3:s.data.toList[k]? = some s[k]:=by
        rw [List.getElem?_eq_getElem (by simpa using hlt)];rfl
       rw [h3] at h;simp at h;exact HE.out h.symm
     case measure=>simp [intOf];omega
   ·have hke:k=s.size:=by omega
    subst hke;have HX:=hid hX;clear hX
    go_wp2_with (at_builtin;go_must (refine wpList_append_own _ rfl _ _ 50 rfl w.heap.size 9 i0 (.string ⟨#[]⟩) 1 16 Tryz.underlying50 hi hz0 hz1 hz2 rfl (by decide) _ _ _ rfl (HO.out.alloc _) ⟨wr.heap.size,0,none⟩ 1 1 [.string (s.extract j s.size)] rfl rfl ?c1 ?c2 ?c3 ?c4 ?c5 ?_))
    case c1=>
     intro q u hq
     match q,hq with
     | 0,hq=>simp at hq;subst hq;simp [Addr.add]
    case c2=>intro u hu;simp at hu;subst hu;rfl
    case c3=>unfold maxLen;omega
    case c4=>omega
    case c5=>simp;omega
    intro v' w2 hown' hgrow hnil;have HO2:=hid hown';have HB2:=hid (show Below w.heap.size w w2 from (hbw.alloc hbw.size _).grown hgrow (by simp;omega) (fun g hg=>(HO.out.lt g hg).1));clear hown' hgrow hnil
    go_wp2
    go_roundw
    case rel=>
     refine ⟨s.size+1,s.size+1,out++[(s.extract j s.size).data.toList],by omega,by omega,by go_num,by go_num,by simp;omega,?_,HB2.out,.inr ⟨rfl,?_⟩⟩
     ·rw [cellsS_app,cellsS_one,List.length_append]
      exact HO2.out
     ·have h1:=HC.out
      have e:(s.extract j s.size).data.toList=s.data.toList.drop j:=by rw [ext_take];exact List.take_of_length_le (by simp)
      rw [e];have h2:=HN.out;rw [e] at h2;rw [cutL_none c _ h2] at h1;exact h1.symm
    case measure=>simp [intOf]
  ·subst hks
   have hks': ¬ (((s.size+1:Nat):Int)≤(s.size:Int)):=by omega
   have HX:=hid hout;clear hout
   go_wp2
   go_ret
   rw [← HX.out];exact own_txt HO.out (by rw [HX.out];exact cutL_ne _ _) hbw

end Go.Proofs.YtolioccofbhliaaGreatDoor

namespace Go.Proofs.YtolioccofbhliaaGreatDoor
open Go.RowKit

def PathAt (w:World) (v:Value) (L:List (List UInt8)):Prop:=
 (v = .slice none 0 0∧L=[]) ∨ ∃ b cap,v = .slice (some ⟨b,0,none⟩) L.length cap∧b<w.heap.size∧L.length≤cap∧cap≤maxLen∧TxtS w b L

theorem PathAt.kept {w w':World} {v:Value} {L:List (List UInt8)} (h:PathAt w v L) (hb:Below w.heap.size w w'):PathAt w' v L:=by
 rcases h with h | ⟨b,cap,h1,h2,h3,h4,h5⟩
 ·exact .inl h
 ·exact .inr ⟨b,cap,h1,by have:=hb.size;omega,h3,h4,h5.kept hb⟩

theorem own_path {w:World} {B:Nat} {v:Value} {L:List (List UInt8)} (h:w.ownsRow B 9 1 v L.length (cellsS L)):PathAt w v L:=by
 have h2:=h.2;rcases h2 with ⟨hv,hn⟩ | ⟨g,cap,cur,rfl,hg,hrow,hnc,hcm,hcs,htake⟩
 ·exact .inl ⟨hv,List.eq_nil_of_length_eq_zero hn⟩
 ·refine .inr ⟨g,cap,rfl,(Array.getElem?_eq_some_iff.1 hrow).1,hnc,hcm,fun j hj=> ?_⟩
  rw [h.cellAt j (by omega)];simp [cellsS,hj]

theorem own_drop {w:World} {B:Nat} {g cap n:Nat} {L:List (List UInt8)} (h:w.ownsRow B 9 1 (.slice (some ⟨g,0,none⟩) (n+1) cap) (n+1) (cellsS L)) (hl:L.length=n+1):w.ownsRow B 9 1 (.slice (some ⟨g,0,none⟩) n cap) n (cellsS L.dropLast):=by
 rcases h.2 with ⟨hv,hn⟩ | ⟨g',cap',cur,hv,hg,hrow,hnc,hcm,hcs,htake⟩
 ·cases hv
 ·cases hv
  refine ⟨by simp [cellsS_len,hl],.inr ⟨g,cap,cur,rfl,hg,hrow,by omega,hcm,hcs,?_⟩⟩
  have e:(cellsS L).dropLast=cellsS L.dropLast:=by simp [cellsS]
  have hcl:cur.toList.length=cap:=by simp [hcs]
  rw [← e,← htake,List.dropLast_eq_take,List.take_take,List.length_take]
  congr 1
  omega

theorem own_nonnil {w:World} {B n:Nat} {v:Value} {L:List (List UInt8)} (h:w.ownsRow B 9 1 v (n+1) (cellsS L)): ∃ g cap,v = .slice (some ⟨g,0,none⟩) (n+1) cap∧n+1≤cap∧cap≤maxLen:=by
 rcases h.2 with ⟨hv,hn⟩ | ⟨g',cap',cur,hv,hg,hrow,hnc,hcm,hcs,htake⟩
 ·omega
 ·exact ⟨g',cap',hv,hnc,hcm⟩

theorem own_zero {w:World} {B:Nat} {v:Value} {xs:List Value} (h:w.ownsRow B 9 1 v 0 xs): ∃ a cap,v = .slice a 0 cap:=by
 rcases h.2 with ⟨hv,hn⟩ | ⟨g',cap',cur,hv,hg,hrow,hnc,hcm,hcs,htake⟩
 ·exact ⟨none,0,hv⟩
 ·exact ⟨_,cap',hv⟩

def stepP (out:List (List UInt8)) (p:List UInt8) (mo:Bool):List (List UInt8):=
 if dotsV p=2 then (if mo then out.dropLast else out.dropLast++[[]]) else if dotsV p=1 then (if mo then out else out++[[]]) else out++[pct 5 p]

theorem pathL_more (out:List (List UInt8)) (p:List UInt8) (L:List (List UInt8)) (h:L≠[]):pathL out (p::L)=pathL (stepP out p true) L:=by
 cases L with
 | nil=>exact absurd rfl h
 | cons q r=>
   rw [pathL,stepP]
   split
   ·rfl
   ·split<;>rfl

theorem pathL_last (out:List (List UInt8)) (p:List UInt8):pathL out [p]=stepP out p false:=by
 rw [pathL,stepP]
 split
 ·rfl
 ·split<;>rfl

theorem dotsV_cases (p:List UInt8):dotsV p=0∨dotsV p=1∨dotsV p=2:=by
 unfold dotsV;split
 ·exact .inr (.inl rfl)
 ·split
  ·exact .inr (.inr rfl)
  ·exact .inl rfl

theorem stepP0 {out:List (List UInt8)} {p:List UInt8} {mo:Bool} (h:dotsV p=0):stepP out p mo=out++[pct 5 p]:=by rw [stepP,h];rfl

theorem stepP1 {out:List (List UInt8)} {p:List UInt8} (h:dotsV p=1):stepP out p true=out:=by rw [stepP,h];rfl

theorem stepP1' {out:List (List UInt8)} {p:List UInt8} (h:dotsV p=1):stepP out p false=out++[[]]:=by rw [stepP,h];rfl

theorem stepP2 {out:List (List UInt8)} {p:List UInt8} (h:dotsV p=2):stepP out p true=out.dropLast:=by rw [stepP,h];rfl

theorem stepP2' {out:List (List UInt8)} {p:List UInt8} (h:dotsV p=2):stepP out p false=out.dropLast++[[]]:=by rw [stepP,h];rfl

theorem own_below {w w':World} {B:Nat} {v:Value} {n:Nat} {xs:List Value} (h:w.ownsRow B 9 1 v n xs) (hb:Below w.heap.size w w'):w'.ownsRow B 9 1 v n xs:=
 ownsRow_same h fun g hg=>hb.block g (h.lt g hg).2

def OwnPost (L:List (List UInt8)) (w:World) (e:Ending) (w':World):Prop:= ∃ v,e = .returned v∧w'.ownsRow w.heap.size 9 1 v L.length (cellsS L)∧Below w.heap.size w w'

theorem pathV_some {special:Bool} {hv:List (List UInt8)} {s:List UInt8} (h: ¬ (s=[]∧special=false)):pathV special hv s=pathL hv (cutL 47 (over1 s)):=by rw [pathV,if_neg h]

theorem over1_le (l:List UInt8):(over1 l).length≤l.length:=by
 unfold over1;split
 ·simp
 ·split<;>simp

end Go.Proofs.YtolioccofbhliaaGreatDoor

namespace Go.Proofs.YtolioccofbhliaaGreatDoor
open Go.RowKit

def adrCells (u:Adr) (pv:Value):List Value:=
 [.string ⟨u.scheme.toArray⟩,.string ⟨u.user.toArray⟩,.string ⟨u.pass.toArray⟩,.string ⟨u.host.toArray⟩,.bool u.hasHost,.int .i64 u.port,.bool u.opq,pv,.string ⟨u.query.toArray⟩,.string ⟨u.fragment.toArray⟩,.bool u.hasQuery,.bool u.hasFragment]

def adrVal (u:Adr) (pv:Value):Value:= .agg (adrCells u pv).toArray

theorem sizeU:(Tryz.prog.info? 130).map (·.size)=some 12:=by kernel_rfl

theorem sizeUl (u:Adr) (pv:Value):(Tryz.prog.info? 130).map (·.size)=some (adrCells u pv).length:=sizeU

theorem sizeUa (u:Adr) (pv:Value):(Tryz.prog.info? 130).map (·.size)=some (adrCells u pv).toArray.size:=sizeU

def IsSl (v:Value):Prop:= ∃ a n c,v = .slice a n c

theorem adrCells_one (u:Adr) (pv:Value) (hp:IsSl pv): ∀ v ∈ adrCells u pv,v.oneCell'=true:=by
 obtain ⟨a,n,c,rfl⟩:=hp
 intro v hv;simp only [adrCells,List.mem_cons,List.not_mem_nil,or_false] at hv
 rcases hv with rfl | rfl | rfl | rfl | rfl | rfl | rfl | rfl | rfl | rfl | rfl | rfl<;>rfl

def AdrIn (w:World) (b:Nat) (u:Adr) (pv:Value):Prop:=w.heap[b]? = some (.cells (adrCells u pv).toArray 130 (0,0))

theorem AdrIn.lt {w:World} {b:Nat} {u:Adr} {pv:Value} (h:AdrIn w b u pv):b<w.heap.size:=(Array.getElem?_eq_some_iff.1 h).1

theorem AdrIn.kept {w w':World} {b:Nat} {u:Adr} {pv:Value} (h:AdrIn w b u pv) (hb:Below w.heap.size w w'):AdrIn w' b u pv:=by
 unfold AdrIn;rw [hb.block b h.lt];exact h

theorem AdrIn.there {w:World} {b:Nat} {u:Adr} {pv:Value} (h:AdrIn w b u pv):w.there b 0 12:=there_row h (Nat.le_refl _)

theorem AdrIn.cell {w:World} {b:Nat} {u:Adr} {pv:Value} (h:AdrIn w b u pv) (j:Nat) (v:Value) (hv:(adrCells u pv)[j]? = some v):w.cell? ⟨b,j,none⟩=some v:=by
 rw [Lib.cell_of_heap h];simpa using hv

theorem AdrIn.frozen {w:World} {b:Nat} {u:Adr} {pv:Value} (h:AdrIn w b u pv) (j:Nat):w.frozen? ⟨b,j,none⟩=false:=by
 simp [World.frozen?,show w.heap[b]? = _ from h]

theorem results_u2 {fn:Func} {p q:Tmp} (h:fn.results = #[.cell p 130,.tmp q]) (tmps:Array Value) (w:World) (b:Nat) (u:Adr) (pv:Value) (hp:tmps.getD p undef = .pointer (some ⟨b,0,none⟩)) (hc:w.rangeAt b 0 (adrCells u pv)):(results fn tmps).run Tryz.prog w = .ok (.tuple #[adrVal u pv,tmps.getD q undef]) w:=by
 rw [Array.getD_eq_getD_getElem?] at hp;simp only [results,h]
 simp [Sem.run_bind,Result.andThen,hp,asAddr,run_loadVar_mid w b 0 130 (adrCells u pv) _ hc Tryz.underlying130 rfl (sizeUl u pv),adrVal]

theorem setCells_heap (b:Nat) (t:TypeId) (f:Nat×Nat): ∀ (vs:List Value) (o:Nat) (w:World) (C:Array Value),w.heap[b]? = some (.cells C t f) → ∃ C',(w.setCells b o vs).heap[b]? = some (.cells C' t f)∧C'.size=C.size∧(∀ j,j<o→C'[j]? = C[j]?) ∧ ∀ j,j<vs.length→o+j<C.size→C'[o+j]? = vs[j]?
 | [],o,w,C,h=>⟨C,h,rfl,fun _ _=>rfl,fun j hj=>by simp at hj⟩
 | v::r,o,w,C,h=>by
   rw [World.setCells];have h1:=Lib.heap_setCell_same h (i:=o) v;obtain ⟨C',e1,e2,e3,e4⟩:=setCells_heap b t f r (o+1) _ _ h1
   refine ⟨C',e1,by rw [e2];simp,fun j hj=> ?_,fun j hj hjc=> ?_⟩
   ·rw [e3 j (by omega),Array.getElem?_setIfInBounds,if_neg (by omega)]
   ·match j with
    | 0=>
      rw [Nat.add_zero,e3 o (by omega),Array.getElem?_setIfInBounds,if_pos rfl]
      have:o<C.size:=by omega
      simp [this]
    | j+1=>
      have:=e4 j (by simp at hj;omega) (by simp;omega)
      rw [show o+(j+1)=o+1+j by omega,this];rfl

theorem AdrIn.store {w:World} {b:Nat} {u v:Adr} {pv qv:Value} (h:AdrIn w b u pv):AdrIn (w.setCells b 0 (adrCells v qv)) b v qv:=by
 obtain ⟨C',e1,e2,_,e4⟩:=setCells_heap b 130 (0,0) (adrCells v qv) 0 w _ h
 unfold AdrIn;rw [e1];have:C'=(adrCells v qv).toArray:=by
  apply Array.ext_getElem?;intro j;by_cases hj:j<12
  ·have:=e4 j hj (by rw [Nat.zero_add];exact hj)
   rw [Nat.zero_add] at this;rw [this];simp
  ·have h2:C'.size=12:=by rw [e2];rfl
   rw [Array.getElem?_eq_none (by omega),Array.getElem?_eq_none (by simp [adrCells];omega)]
 rw [this]

end Go.Proofs.YtolioccofbhliaaGreatDoor

namespace Go.Proofs.YtolioccofbhliaaGreatDoor
open Go.RowKit

theorem AdrIn.set {w:World} {b:Nat} {u v:Adr} {pv qv:Value} (h:AdrIn w b u pv) (j:Nat) (x:Value) (hx:(adrCells u pv).set j x=adrCells v qv):AdrIn (w.setCell ⟨b,j,none⟩ x) b v qv:=by
 unfold AdrIn;rw [Lib.heap_setCell_same h,← hx];simp

def authE:Except Int (List UInt8×List UInt8×List UInt8×Int)→Int
 | .ok _=>0
 | .error e=>e

def authU (u:Adr):Except Int (List UInt8×List UInt8×List UInt8×Int)→Adr
 | .ok (a,b,h,p)=>{ u with user:=a,pass:=b,host:=h,hasHost:=true,port:=p }
 | .error _=>u

def AuthPost (b:Nat) (u:Adr) (pv:Value) (r:Except Int (List UInt8×List UInt8×List UInt8×Int)) (w:World) (e:Ending) (w':World):Prop:=
 e = .returned (.int .i64 (authE r))∧Below b w w'∧(authE r=0→AdrIn w' b (authU u r) pv)

theorem auth_port {sc s:List UInt8} (h:portV (ownV sc) (((atV s).2.drop (colV (atV s).2)).drop 1)=none):authV sc s = .error 11:=by rw [authV,h]

theorem auth_host {sc s:List UInt8} {p:Int} (h:portV (ownV sc) (((atV s).2.drop (colV (atV s).2)).drop 1)=some p) (h2:parseV ((atV s).2.take (colV (atV s).2)) (specV sc)=none):authV sc s = .error 10:=by rw [authV,h];simp only;rw [h2]

theorem auth_empty {sc s h:List UInt8} {p:Int} (h1:portV (ownV sc) (((atV s).2.drop (colV (atV s).2)).drop 1)=some p) (h2:parseV ((atV s).2.take (colV (atV s).2)) (specV sc)=some h) (h3:h=[]∧(pct 6 (part 58 (atV s).1).1≠[]∨pct 6 (part 58 (atV s).1).2.1≠[]∨((atV s).2.drop (colV (atV s).2)).drop 1≠[])):authV sc s = .error 10:=by rw [authV,h1];simp only;rw [h2];simp only;rw [if_pos h3]

theorem auth_ok {sc s h:List UInt8} {p:Int} (h1:portV (ownV sc) (((atV s).2.drop (colV (atV s).2)).drop 1)=some p) (h2:parseV ((atV s).2.take (colV (atV s).2)) (specV sc)=some h) (h3: ¬ (h=[]∧(pct 6 (part 58 (atV s).1).1≠[]∨pct 6 (part 58 (atV s).1).2.1≠[]∨((atV s).2.drop (colV (atV s).2)).drop 1≠[]))):authV sc s = .ok (pct 6 (part 58 (atV s).1).1,pct 6 (part 58 (atV s).1).2.1,h,p):=by rw [authV,h1];simp only;rw [h2];simp only;rw [if_neg h3]

theorem colN_le (L:Nat): ∀ (l:List UInt8) (b:Bool) (i k:Nat),k≤L→i+l.length≤L→colN b i k l≤L
 | [],b,i,k,hk,_=>by cases b<;>exact hk
 | c::l,false,i,k,hk,hl=>by
   rw [colN];simp at hl;split
   ·exact colN_le L l false (i+1) i (by omega) (by omega)
   ·split
    ·exact colN_le L l true (i+1) k hk (by omega)
    ·exact colN_le L l false (i+1) k hk (by omega)
 | c::l,true,i,k,hk,hl=>by
   rw [colN];simp at hl;split
   ·exact colN_le L l false (i+1) k hk (by omega)
   ·exact colN_le L l true (i+1) k hk (by omega)

theorem colV_le (l:List UInt8):colV l≤l.length:=colN_le l.length l false 0 l.length (Nat.le_refl _) (by omega)

theorem at_le (l:List UInt8):(atV l).1.length≤l.length∧(atV l).2.length≤l.length:=by
 unfold atV;split
 ·simp only [List.length_reverse]
  constructor
  ·refine Nat.le_trans (List.drop_suffix 1 _).length_le ?_
   refine Nat.le_trans (List.dropWhile_suffix _).length_le ?_;simp
  ·refine Nat.le_trans (List.takeWhile_prefix _).length_le ?_
   simp
 ·simp

end Go.Proofs.YtolioccofbhliaaGreatDoor

namespace Go.Proofs.YtolioccofbhliaaGreatDoor
open Go.RowKit

def ReadPost (r:Except Int Adr) (w:World) (e:Ending) (w':World):Prop:=
 ∃ pv,e = .returned (.tuple #[adrVal (adrOf r) pv,.int .i64 (numOf r)])∧w'.ownsRow w.heap.size 9 1 pv (adrOf r).path.length (cellsS (adrOf r).path)∧Below w.heap.size w w'

theorem own_sl {w:World} {B n:Nat} {v:Value} {xs:List Value} (h:w.ownsRow B 9 1 v n xs):IsSl v:=by
 rcases h.2 with ⟨hv,hn⟩ | ⟨g',cap',cur,hv,_⟩
 ·exact ⟨none,0,0,hv⟩
 ·exact ⟨_,_,_,hv⟩

theorem own_apart {w:World} {B n b:Nat} {v:Value} {xs:List Value} {u:Adr} {pv:Value} (h:w.ownsRow B 9 1 v n xs) (hb:AdrIn w b u pv) {g:Nat} (hg:v.ownBlock=some g):g≠b:=by
 intro e;subst e;rcases h.2 with ⟨hv,hn⟩ | ⟨g',cap',cur,hv,_,hrow,_⟩
 ·rw [hv] at hg;simp [Value.ownBlock] at hg
 ·rw [hv] at hg
  simp [Value.ownBlock] at hg;subst hg;rw [show w.heap[g']? = _ from hb] at hrow
  cases hrow

theorem own_set {w:World} {B n b:Nat} {v:Value} {xs:List Value} {u:Adr} {pv:Value} (h:w.ownsRow B 9 1 v n xs) (hb:AdrIn w b u pv) (j:Nat) (x:Value):(w.setCell ⟨b,j,none⟩ x).ownsRow B 9 1 v n xs:=
 ownsRow_same h fun g hg=>heap_setCell_other _ _ _ _ (own_apart h hb hg)

theorem setCells_other {b g:Nat} (hne:g≠b): ∀ (vs:List Value) (o:Nat) (w:World),(w.setCells b o vs).heap[g]? = w.heap[g]?
 | [],_,_=>rfl
 | v::r,o,w=>by
   rw [World.setCells,setCells_other hne r (o+1) _]
   exact heap_setCell_other _ _ _ _ hne

theorem own_cells {w:World} {B n b:Nat} {v:Value} {xs:List Value} {u:Adr} {pv:Value} (h:w.ownsRow B 9 1 v n xs) (hb:AdrIn w b u pv) (vs:List Value) (o:Nat):(w.setCells b o vs).ownsRow B 9 1 v n xs:=
 ownsRow_same h fun g hg=>setCells_other (own_apart h hb hg) _ _ _

theorem AdrIn.set_other {w:World} {b d:Nat} {u:Adr} {pv:Value} (h:AdrIn w b u pv) (hne:b≠d) (j:Nat) (x:Value):AdrIn (w.setCell ⟨d,j,none⟩ x) b u pv:=by
 unfold AdrIn;rw [heap_setCell_other _ _ _ _ hne];exact h

theorem wp_mono {P:Program} {X:Code} {Q Q':Exit→Act→World→Prop} {a:Act} {w:World} (h:X.wp P Q a w) (hq: ∀ e a w,Q e a w→Q' e a w):X.wp P Q' a w:=by
 intro b k cs;obtain ⟨e,a',w',h1,h2⟩:=h b k cs
 exact ⟨e,a',w',hq _ _ _ h1,h2⟩

end Go.Proofs.YtolioccofbhliaaGreatDoor

namespace Go.Proofs.YtolioccofbhliaaGreatDoor
open Go.RowKit

theorem authV_err {sc s:List UInt8} {e:Int} (h:authV sc s = .error e):e=10∨e=11:=by
 unfold authV at h;split at h
 ·cases h;exact .inr rfl
 ·split at h
  ·cases h;exact .inl rfl
  ·split at h
   ·cases h;exact .inl rfl
   ·cases h

end Go.Proofs.YtolioccofbhliaaGreatDoor

namespace Go.Proofs.YtolioccofbhliaaGreatDoor
open Go.RowKit

theorem skip_le (l:List UInt8):(skip47 l).length≤l.length:=(List.dropWhile_suffix _).length_le

end Go.Proofs.YtolioccofbhliaaGreatDoor

namespace Go.Proofs.YtolioccofbhliaaGreatDoor
open Go.RowKit

theorem begin_le (s:List UInt8):(beginU s).2.length≤s.length:=by
 have h1:=clean_le s;have h2:=part_le 35 (cleanV s);have h3:(cutS (part 35 (cleanV s)).1).2.length≤(part 35 (cleanV s)).1.length:=by
  cases hb:((part 58 (part 35 (cleanV s)).1).2.2&&schOk (part 58 (part 35 (cleanV s)).1).1)
  ·rw [cutS_none hb];exact Nat.le_refl _
  ·rw [cutS_some hb];exact (part_le 58 _).2
 have:(beginU s).2=(cutS (part 35 (cleanV s)).1).2:=rfl;rw [this];omega

theorem readV_long {s:List UInt8} {b:Option Adr} (h:4096<s.length):readV s b = .error 3:=by unfold readV;rw [if_pos h]

theorem readV_bare {s:List UInt8} (h: ¬ 4096<s.length) (h2:(beginU s).1.scheme=[]):readV s none = .error 12:=by unfold readV;rw [if_neg h];simp only;rw [if_pos h2]

theorem readV_full {s:List UInt8} (h: ¬ 4096<s.length) (h2:(beginU s).1.scheme≠[]):readV s none=startV (beginU s).1 (beginU s).2:=by unfold readV;rw [if_neg h];simp only;rw [if_neg h2]

end Go.Proofs.YtolioccofbhliaaGreatDoor

namespace Go.Proofs.YtolioccofbhliaaGreatDoor
open Go.RowKit

theorem itoaP_any (p:Int) (w:World) (hg:Gd w) (h0:0≤p) (h1:p≤65535):
 Calls Tryz.prog 141 #[.int .i64 p] w fun e w'=>e = .returned (.string ⟨(portT p).toArray⟩)∧Below w.heap.size w w':=by
 refine (Tryz.strconv_Itoa p (by omega) (by omega) w hg.2.1).mono ?_;rintro e w' ⟨rfl,k,os,rfl⟩
 exact ⟨by rw [portT_itoa p h0 h1],Lib.below_grow _ _ (Nat.le_refl _) _ _⟩

theorem deciN_le: ∀ (f n:Nat) (acc:List UInt8),(deciN f n acc).length≤f+acc.length
 | 0,n,acc=>by rw [deciN];omega
 | f+1,n,acc=>by
   rw [deciN];split
   ·simp;omega
   ·have:=deciN_le f (n / 10) (UInt8.ofNat (48+n % 10)::acc)
    rw [List.length_cons] at this;omega

theorem portT_le (p:Int):(⟨(portT p).toArray⟩:ByteArray).size≤100:=by
 rw [Lib.size_eq];have:=deciN_le 6 p.toNat [];simp at this;show (portT p).length≤100;unfold portT;omega

end Go.Proofs.YtolioccofbhliaaGreatDoor
