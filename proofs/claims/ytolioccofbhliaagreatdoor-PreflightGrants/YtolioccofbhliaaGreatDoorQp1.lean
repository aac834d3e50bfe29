/-
  Walks and plain facts that this claim leans on, put together out of 18 texts: Pa, Pb, Pd, Pe, Pf, Ha, Hb, Sh, Vb, Vj, Vc, Vd, Ve, Wb, Wa, Vf, Vg, Vh.
-/
import Derived.Test.YtolioccofbhliaaGreatDoorProg
import Derived.WalkKit
import Derived.Lib.Strings
import Derived.Lib.UnsafeStr
import Derived.Laws.IdiomStrings
import Derived.Laws.AppendOwn
import Derived.Laws.BitsAllLaws
import Derived.Lib.Bytealg
import Derived.Lib.BufferMore
import Derived.Lib.IndexMore
import Derived.Lib.Join
import Derived.Lib.LastIndexByte
import Derived.Shelf.Strings.Builder1
import Derived.Shelf.Strings.Builder2
import Derived.Shelf.Strings.OnBuilder
import Derived.Shelf.Strings.Trim
import Derived.Shelf.Small.Utf8
import Derived.Shelf.Small.Bits
import Derived.Shelf.Small.Strs
import Derived.Shelf.Small.Wraps
import Derived.Shelf.Strings.BuilderF
import Derived.Shelf.Strings.BuilderK
import Derived.Shelf.Strings.Builder2Cap
import Derived.Shelf.Strconv.Itoa0
import Derived.Shelf.Strconv.Itoa1
import Derived.Shelf.LaysM
import Derived.Shelf.Strconv.Itoa2
import Derived.Shelf.Strconv.Itoa3
import Derived.Shelf.Strings.Search1
import Derived.Shelf.Strings.Search2
import Derived.Shelf.Strings.Cut
import Derived.Shelf.Strings.Shaped
import Derived.Shelf.Sort.Plain
import Derived.Shelf.Strings.Prefix
import Derived.Shelf.Strings.Runes
import Derived.Shelf.Strings.IndexAny
import Derived.Shelf.Strings.AsciiSet
import Derived.Shelf.Strings.IndexAnyAll
import Derived.Shelf.Unicode.DecodeSlow
import Derived.Shelf.Unicode.DecodeAny
import Derived.Shelf.Unicode.DecodeLast
import Derived.Shelf.Slices.CompactS
import Derived.Shelf.Slices.In.SortNone
import Derived.Ground.SlgnProg
import Derived.Shelf.SlicesE.Compact
import Derived.Ground.SlgfProg
import Derived.Shelf.SlicesE.IndexFunc
import Derived.Shelf.SlicesE.DeleteFunc
import Derived.WalkSpells
import Derived.WalkLawsBesides
import Derived.Lib.AppendIntMem
import Derived.Lib.SmallJoins
import Derived.WalkSmall
import Derived.Deep.LoopGhost
import Derived.Deep.MidRow
import Derived.WalkMore
import Derived.Lib.FrozenHead2
import Derived.Lib.OthersKept
import Derived.Lib.Builder
import Derived.Deep.RegionWith
import Derived.OwnWalk
set_option linter.unusedSimpArgs false
set_option linter.unusedVariables false

namespace Go.Proofs.YtolioccofbhliaaGreatDoor
def blankI (c:Int):Bool:=c==9||(c==10||(c==12||(c==13||c==32)))

def digitI (c:Int):Bool:=decide (48≤c)&&decide (c≤57)

def letterI (c:Int):Bool:=(decide (65≤c)&&decide (c≤90))||(decide (97≤c)&&decide (c≤122))

def signI (c:Int):Bool:=c==33||(c==35||(c==36||(c==37||(c==38||(c==39||(c==42||(c==43||(c==45||(c==46||(c==94||(c==95||(c==96||(c==124||c==126)))))))))))))

def tokI (c:Int):Bool:=signI c||(letterI c||digitI c)

def is16I (c:Int):Bool:=digitI c||((decide (65≤c)&&decide (c≤70))||(decide (97≤c)&&decide (c≤102)))

def val16I (c:Int):Int:=
 if 97≤c∧c≤102 then c - 87 else if 65≤c∧c≤70 then c - 55 else if 48≤c∧c≤57 then c - 48 else 0

theorem hid {p:Prop} (h:p):RowKit.Hid p:=h

theorem ret_bool {a b:Bool} (h:a=b):Ending.returned (.bool a) = .returned (.bool b):=by rw [h]

theorem ret_int {k:IntKind} {a b:Int} (h:a=b):Ending.returned (.int k a) = .returned (.int k b):=by rw [h]

theorem ret_ib {k:IntKind} {a b:Int} {x y:Bool} (h:a=b) (g:x=y):Ending.returned (.tuple #[.int k a,.bool x]) = .returned (.tuple #[.int k b,.bool y]):=by rw [h,g]

end Go.Proofs.YtolioccofbhliaaGreatDoor

namespace Go.Proofs.YtolioccofbhliaaGreatDoor
theorem take_snoc (s:ByteArray) (k:Nat) (h:k<s.size):s.data.toList.take (k+1)=s.data.toList.take k++[s[k]]:=by
 rw [List.take_succ_eq_append_getElem (by simpa using h)];rfl

theorem take_all (s:ByteArray) (k:Nat) (h: ¬ k<s.size):s.data.toList.take k=s.data.toList:=
 List.take_of_length_le (by simp;omega)

theorem byteCells_one (c:UInt8):Lib.byteCells [c]=[.int .u8 c.toNat]:=rfl

end Go.Proofs.YtolioccofbhliaaGreatDoor

namespace Go.Proofs.YtolioccofbhliaaGreatDoor
abbrev inSetP (c set : Int) : Prop :=
 (1≤set∧set≤6)∧(c<32∨126<c∨(2≤set∧(c=32∨c=34∨c=60∨c=62))∨(set=2∧c=96)∨(3≤set∧c=35)∨(set=4∧c=39)∨(5≤set∧(c=63∨c=94∨c=96∨c=123∨c=125)) ∨
   (set=6∧(c=47∨c=58∨c=59∨c=61∨c=64∨c=91∨c=92∨c=93∨c=124)))

def inSetI (c set:Int):Bool:=decide (inSetP c set)

theorem inSetI_iff (c set:Int):inSetI c set=true ↔ inSetP c set:=by unfold inSetI;exact decide_eq_true_iff

end Go.Proofs.YtolioccofbhliaaGreatDoor

namespace Go.Proofs.YtolioccofbhliaaGreatDoor
def hexD (n:Nat):UInt8:=if n<10 then UInt8.ofNat (48+n) else UInt8.ofNat (55+n)

theorem and15 (n:Nat) (h:n<256):bits .and .u8 (n:Int) 15=(n:Int) % 16:=by
 have:=u8_and_nat n 15 h (by omega)
 rw [nat_mask4] at this;simpa using this

def esc (c:UInt8):List UInt8:=[37,hexD (c.toNat / 16),hexD (c.toNat % 16)]

def pct1 (set:Int) (c:UInt8):List UInt8:=if inSetI c.toNat set then esc c else [c]

def pct (set:Int) (l:List UInt8):List UInt8:=l.flatMap (pct1 set)

theorem pct1_le (set:Int) (c:UInt8):(pct1 set c).length≤3:=by unfold pct1 esc;split<;>simp

theorem pct_snoc (set:Int) (l:List UInt8) (c:UInt8):pct set (l++[c])=pct set l++pct1 set c:=by simp [pct]

theorem pct_le (set:Int) (l:List UInt8):(pct set l).length≤3*l.length:=by
 induction l with
 | nil=>simp [pct]
 | cons c l ih=>
   have h1:=pct1_le set c;have h2:pct set (c::l)=pct1 set c++pct set l:=by simp [pct]
   rw [h2];simp;omega

def pcd (l:List UInt8):UInt8×Bool:=
 match l with
 | 37::a::b::_=>if is16I a.toNat&&is16I b.toNat then (UInt8.ofNat (val16I a.toNat*16+val16I b.toNat).toNat,true) else (37,false)
 | c::_=>(c,false)
 | []=>(0,false)

def unpctN:Nat→List UInt8→List UInt8
 | 0,_=>[]
 | _+1,[]=>[]
 | f+1,c::l=>(pcd (c::l)).1::unpctN f (if (pcd (c::l)).2 then l.drop 2 else l)

def unpct (l:List UInt8):List UInt8:=unpctN l.length l

theorem list_one (s:ByteArray) (h:0<s.size): ∃ r,s.data.toList=s[0]::r:=by
 have h':0<s.data.toList.length:=by simpa using h
 match hl:s.data.toList,h' with
 | a::r,_=>
   refine ⟨r,?_⟩
   have e:s[0]=s.data.toList[0]'(by rw [hl];simp):=rfl
   rw [e];simp [hl]

theorem pcd_short (l:List UInt8) (c:UInt8) (h:(c::l).length<3):pcd (c::l)=(c,false):=by
 match l,h with
 | [],_=>unfold pcd;split<;>simp_all
 | [a],_=>unfold pcd;split<;>simp_all

theorem pcd_other (l:List UInt8) (c:UInt8) (h:c≠37):pcd (c::l)=(c,false):=by
 unfold pcd;split<;>simp_all

theorem pcd_three (a b:UInt8) (l:List UInt8):pcd (37::a::b::l)=if is16I a.toNat&&is16I b.toNat then (UInt8.ofNat (val16I a.toNat*16+val16I b.toNat).toNat,true) else (37,false):=rfl

theorem val16_lt (c:Int):0≤val16I c∧val16I c<16:=by unfold val16I;split<;>(try split)<;>(try split)<;>omega

theorem unpctN_fuel (f:Nat): ∀ (g:Nat) (l:List UInt8),l.length≤f→l.length≤g→unpctN f l=unpctN g l:=by
 induction f with
 | zero=>
   intro g l h _;have:l=[]:=List.eq_nil_of_length_eq_zero (by omega)
   subst this
   cases g<;>rfl
 | succ f ih=>
   intro g l h hg
   match l,g,h,hg with
   | [],g,_,_=>cases g<;>rfl
   | c::l,0,_,hg=>simp at hg
   | c::l,g+1,h,hg=>
     simp only [List.length_cons] at h hg;show _::unpctN f _=_::unpctN g _;rw [ih g _ ?_ ?_]
     ·split
      ·simp;omega
      ·omega
     ·split
      ·simp;omega
      ·omega

theorem unpct_cons (c:UInt8) (l:List UInt8):unpct (c::l)=(pcd (c::l)).1::unpct (if (pcd (c::l)).2 then l.drop 2 else l):=by
 show _::unpctN l.length _=_;unfold unpct;rw [unpctN_fuel l.length _ _ ?_ (Nat.le_refl _)];split
 ·simp
 ·omega

theorem drop_cons (s:ByteArray) (k:Nat) (h:k<s.size):s.data.toList.drop k=s[k]::s.data.toList.drop (k+1):=by
 rw [List.drop_eq_getElem_cons (by simpa using h)];rfl

theorem drop_none (s:ByteArray) (k:Nat) (h: ¬ k<s.size):s.data.toList.drop k=[]:=List.drop_eq_nil_iff.2 (by simp;omega)

theorem extract_drop (s:ByteArray) (k:Nat):(s.extract k s.size).data.toList=s.data.toList.drop k:=by
 rw [Lib.extract_data,List.take_of_length_le (by simp)]

end Go.Proofs.YtolioccofbhliaaGreatDoor

namespace Go.Proofs.YtolioccofbhliaaGreatDoor
open Go.RowKit

def rowIs (w:World) (g:Nat) (e:TypeId) (l:List UInt8):Prop:=
 ∃ (C:Array Value) (fz:Nat×Nat),w.heap[g]? = some (.cells C e fz)∧l.length≤fz.1 ∧ ∀ j (h:j<l.length),C[j]? = some (.int .u8 (l[j].toNat:Int))

theorem rowIs.cell {w:World} {g:Nat} {e:TypeId} {l:List UInt8} (h:rowIs w g e l) (j:Nat) (hj:j<l.length):w.cell? ⟨g,j,none⟩=some (.int .u8 (l[j].toNat:Int)):=by
 obtain ⟨C,fz,hg,_,hc⟩:=h
 rw [Lib.cell_of_heap hg];exact hc j hj

theorem rowIs.frozen {w:World} {g:Nat} {e:TypeId} {l:List UInt8} (h:rowIs w g e l) (j:Nat) (hj:j<l.length):w.frozen? ⟨g,j,none⟩=false:=by
 obtain ⟨C,fz,hg,hf,_⟩:=h
 simp [World.frozen?,hg]
 omega

theorem rowIs.set {w:World} {g:Nat} {e:TypeId} {l:List UInt8} (h:rowIs w g e l) (j:Nat) (c:UInt8):rowIs (w.setCell ⟨g,j,none⟩ (.int .u8 (c.toNat:Int))) g e (l.set j c):=by
 obtain ⟨C,fz,hg,hf,hc⟩:=h
 refine ⟨_,fz,Lib.heap_setCell_same hg _,by simpa using hf,?_⟩
 intro i hi;have hi':i<l.length:=by simpa using hi
 have hCi:=hc i hi';have hlt:i<C.size:=(Array.getElem?_eq_some_iff.1 hCi).1;by_cases e:j=i
 ·subst e;simp [hlt]
 ·simp [Array.getElem?_setIfInBounds,e,hCi]

theorem rowIs.drew {w:World} {g:Nat} {e:TypeId} {l:List UInt8} (h:rowIs w g e l):rowIs w.drew g e l:=h

theorem rowIs_bytes (w:World) (e:TypeId) (s:ByteArray) (cap:Nat) (hcap:s.size≤cap):rowIs (w.drew.alloc (.cells (bytesRow s cap) e ((bytesRow s cap).size,(bytesRow s cap).size+1))) w.heap.size e s.data.toList:=by
 refine ⟨_,_,heap_alloc_new w.drew _,?_,?_⟩
 ·simp [bytesRow]
 ·intro j hj
  have hj':j<s.data.size:=by simpa using hj
  rw [bytesRow_at s cap j hj'];simp

theorem rowIs.string {P:Program} {w:World} {g cap:Nat} {e src dst:TypeId} {l:List UInt8} (h:rowIs w g e l) (hs:P.underlying src=some (.slice e)) (he:P.underlying e=some (.int .u8)) (hd:P.underlying dst=some .string):
 (convert src dst (.slice (some ⟨g,0,none⟩) l.length cap)).run P w = .ok (.string ⟨l.toArray⟩) w:=by
 refine run_convert_bytes_back w src dst e ⟨g,0,none⟩ cap l hs he hd fun j hj=> ?_
 have:=h.cell j hj;rw [Addr.add_lit];simpa using this

def lowC (c:UInt8):UInt8:=if 65≤c.toNat∧c.toNat≤90 then UInt8.ofNat (c.toNat+32) else c

def low (l:List UInt8):List UInt8:=l.map lowC

theorem lowC_yes (c:UInt8) (h:65≤c.toNat∧c.toNat≤90):((lowC c).toNat:Int)=(c.toNat:Int)+32:=by
 unfold lowC;rw [if_pos h];have:(UInt8.ofNat (c.toNat+32)).toNat=(c.toNat+32) % 256:=by simp
 rw [this];omega

theorem lowC_no (c:UInt8) (h: ¬ (65≤c.toNat∧c.toNat≤90)):lowC c=c:=by unfold lowC;rw [if_neg h]

def lowTo (l:List UInt8) (k:Nat):List UInt8:=(l.take k).map lowC++l.drop k

theorem lowTo_length (l:List UInt8) (k:Nat):(lowTo l k).length=l.length:=by simp [lowTo];omega

theorem lowTo_at (l:List UInt8) (k:Nat) (h:k<l.length) (h':k<(lowTo l k).length):(lowTo l k)[k]=l[k]:=by
 simp [lowTo,List.getElem_append,List.length_take]
 have:min k l.length=k:=by omega
 simp [this]

theorem lowTo_succ (l:List UInt8) (k:Nat) (h:k<l.length):lowTo l (k+1)=(lowTo l k).set k (lowC l[k]):=by
 have e1:(l.take k).length=k:=by simp;omega
 unfold lowTo;rw [List.take_succ_eq_append_getElem h,List.drop_eq_getElem_cons h,List.map_append,List.set_append_right _ _ (by simp;omega)];have e2:k - (List.map lowC (List.take k l)).length=0:=by simp;omega
 rw [e2,List.append_assoc];rfl

theorem lowTo_zero (l:List UInt8):lowTo l 0=l:=by simp [lowTo]

theorem lowTo_all (l:List UInt8):lowTo l l.length=low l:=by simp [lowTo,low]

end Go.Proofs.YtolioccofbhliaaGreatDoor

namespace Go.Proofs.YtolioccofbhliaaGreatDoor
def forbL:List UInt8:=[0,9,10,13,32,35,47,58,60,62,63,64,91,92,93,94,124]

def forb (c:UInt8):Bool:=decide (0≤Lib.indexByte forbL c)

def dig16 (c:UInt8):Nat:=
 if 48≤c.toNat∧c.toNat≤57 then c.toNat - 48 else if 97≤c.toNat∧c.toNat≤102 then c.toNat - 87 else if 65≤c.toNat∧c.toNat≤70 then c.toNat - 55 else 16

def valN (base:Nat):Nat→List UInt8→Option Nat
 | n,[]=>some n
 | n,c::l=>if dig16 c<base then valN base (min (n*base+dig16 c) 4294967296) l else none

def valV (base:Nat) (l:List UInt8):Option Nat:=valN base 0 l

def marked (l:List UInt8):Bool:=Lib.hasPrefix l [48,120]||Lib.hasPrefix l [48,88]

def numV (l:List UInt8):Option Nat:=
 if marked l then valV 16 (l.drop 2)
 else match l with
  | []=>none
  | c::r=>if c=48 then valV 8 r else valV 10 (c::r)

def fourN:Nat→Nat→List UInt8→Option Nat
 | 0,_,_=>none
 | r+1,high,rest=>
   match numV (Lib.cut rest [46]).1 with
   | none=>none
   | some n=>
     if (Lib.cut rest [46]).2.2 then (if 255<n then none else fourN r (high*256+n) (Lib.cut rest [46]).2.1)
     else if n<2 ^ (8*(r+1)) then some (high*2 ^ (8*(r+1))+n) else none

def noDot (l:List UInt8):List UInt8:=Lib.trimSuffix l [46]

def fourV (l:List UInt8):Option Nat:=fourN 4 0 (noDot l)

def lastLab (l:List UInt8):List UInt8:=(l.reverse.takeWhile (· != 46)).reverse

def numberedV (l:List UInt8):Bool:=
 if marked (lastLab (noDot l)) then (valV 16 ((lastLab (noDot l)).drop 2)).isSome
 else decide (lastLab (noDot l)≠[])&&(valV 10 (lastLab (noDot l))).isSome

def dec8 (n:Nat):List UInt8:=
 if n<10 then [UInt8.ofNat (48+n)] else if n<100 then [UInt8.ofNat (48+n / 10),UInt8.ofNat (48+n % 10)] else [UInt8.ofNat (48+n / 100),UInt8.ofNat (48+n / 10 % 10),UInt8.ofNat (48+n % 10)]

def text4 (n:Nat):List UInt8:=dec8 (n / 16777216 % 256)++46::(dec8 (n / 65536 % 256)++46::(dec8 (n / 256 % 256)++46::dec8 (n % 256)))

def plainB (l:List UInt8):Option Nat:=
 match valV 10 l with
 | none=>none
 | some n=>if 255<n∨l=[]∨(l.head? = some 48∧l≠[48]) then none else some n

def dotN:Nat→Nat→List UInt8→Option Nat
 | 0,n,_=>some n
 | r+1,n,rest=>
   match plainB (Lib.cut rest [46]).1 with
   | none=>none
   | some b=>if (Lib.cut rest [46]).2.2=decide (r≠0) then dotN r (n*256+b) (Lib.cut rest [46]).2.1 else none

def dottedV (l:List UInt8):Option Nat:=dotN 4 0 l

def scanP (whole:Option Nat) (last:Bool):Nat→Nat→List UInt8→Option (List Nat)
 | i,n,[]=>if i=0 then none else some [n]
 | i,n,c::l=>
   if c=46∧last=true then whole.map fun m=>[m / 65536,m % 65536]
   else if dig16 c<16∧i≠4 then scanP whole last (i+1) (n*16+dig16 c) l else none

def pieceV (last:Bool) (p:List UInt8):Option (List Nat):=scanP (dottedV p) last 0 0 p

def piecesN (atEnd:Bool):Nat→List Nat→List UInt8→Bool→Option (List Nat)
 | _,out,_,false=>some out
 | 0,_,_,true=>none
 | f+1,out,rest,true=>
   match pieceV (atEnd && !(Lib.cut rest [58]).2.2) (Lib.cut rest [58]).1 with
   | none=>none
   | some ns=>piecesN atEnd f (out++ns) (Lib.cut rest [58]).2.1 (Lib.cut rest [58]).2.2

def piecesV (l:List UInt8) (atEnd:Bool):Option (List Nat):=piecesN atEnd 8 [] l (decide (l≠[]))

def sixV (l:List UInt8):Option (List Nat):=
 match piecesV (Lib.cut l [58,58]).1 (!(Lib.cut l [58,58]).2.2),piecesV (Lib.cut l [58,58]).2.1 true with
 | some a,some b=>
   if a.length+b.length≤8∧((Lib.cut l [58,58]).2.2=true ↔ a.length+b.length<8) then some (a++List.replicate (8 - a.length - b.length) 0++b) else none
 | _,_=>none

def digC (n:Nat):UInt8:=if n<10 then UInt8.ofNat (48+n) else UInt8.ofNat (87+n)

def digsN (base:Nat):Nat→Nat→List UInt8→List UInt8
 | 0,_,acc=>acc
 | f+1,n,acc=>if n<base then digC n::acc else digsN base f (n / base) (digC (n % base)::acc)

def hex16 (n:Nat):List UInt8:=digsN 16 4 n []

def zeros:List Nat→Nat
 | []=>0
 | n::l=>if n=0 then zeros l+1 else 0

def lrunN:Nat→Nat→Nat→Nat→List Nat→Nat×Nat
 | _,_,fr,tu,[]=>(fr,tu)
 | f,i,fr,tu,n::l=>
   if max (tu - fr) 1<zeros (n::l) then lrunN f (i+1) i (i+zeros (n::l)) l else lrunN f (i+1) fr tu l

def lrun (x:List Nat):Nat×Nat:=lrunN 0 0 0 0 x

def joined (x:List Nat):List UInt8:=Lib.join (x.map hex16) [58]

def text6 (x:List Nat):List UInt8:=
 if (lrun x).1=(lrun x).2 then joined x else joined (x.take (lrun x).1)++([58,58]++joined (x.drop (lrun x).2))

def nameB (c:UInt8):Bool:= !(decide (c.toNat<33)||(decide (126<c.toNat)||(c==37||forb c)))

def coded (l:List UInt8):Bool:=Lib.hasPrefix l [120,110,45,45]||Lib.contains l [46,120,110,45,45]

def allN (l:List UInt8):Bool:=l.all nameB

def nameV (l:List UInt8):Option (List UInt8):=
 if l=[]∨allN l=false∨coded l=true then none
 else if numberedV l then (fourV l).map text4 else some l

def otherV (l:List UInt8):Option (List UInt8):=if l.any forb then none else some (pct 1 l)

def bracketV (l:List UInt8):Option (List UInt8):=
 if Lib.hasSuffix l [93] then (sixV (Lib.trimSuffix l [93])).map fun x=>91::(text6 x++[93]) else none

def parseV (l:List UInt8) (special:Bool):Option (List UInt8):=
 if Lib.hasPrefix l [91] then bracketV (l.drop 1) else if special then nameV (low (unpct l)) else otherV l

end Go.Proofs.YtolioccofbhliaaGreatDoor

namespace Go.Proofs.YtolioccofbhliaaGreatDoor
theorem ba_ext {a:ByteArray} {l:List UInt8} (h:a.data.toList=l):a=⟨l.toArray⟩:=by
 subst h;exact (Lib.mk_data a).symm

theorem lastLab_none (l:List UInt8) (h: ∀ c ∈ l,c≠46):lastLab l=l:=by
 unfold lastLab;have e:=List.takeWhile_append_of_pos (p:=fun x:UInt8=>x != 46) (l₁:=l.reverse) (l₂:=[]) (by intro c hc;have:=h c (by simpa using hc);simpa using this)
 rw [List.append_nil] at e;rw [e];simp

def er {α:Type} (o:Option α):Int:=match o with | some _=>0 | none=>10

theorem noDot_le (l:List UInt8):(noDot l).length≤l.length:=Lib.trimSuffix_le _ _

theorem cut_le (l sep:List UInt8):(Lib.cut l sep).1.length≤l.length∧(Lib.cut l sep).2.1.length≤l.length:=by
 unfold Lib.cut;split
 ·simp
  omega
 ·simp

end Go.Proofs.YtolioccofbhliaaGreatDoor

namespace Go.Proofs
open Go.Shelf

def Tryz.lays156_ren:Go.Shelf.Ren:=⟨fun | 156=>87 | 165=>137 | 166=>138 | 169=>139 | 240=>180 | 241=>181 | 276=>221 | 277=>222 | n=>n,fun | 31=>50 | 9=>9 | 3=>3 | 4=>4 | 0=>0 | 20=>20 | 72=>188 | 76=>192 | 70=>186 | 37=>28 | 75=>191 | 127=>222 | 164=>249 | 5=>5 | 80=>194 | n=>n,fun | n=>n⟩

theorem Tryz.lays156:Go.Proofs.Lays.n156 Tryz.prog Tryz.lays156_ren:={
 mixed:=by kernel_rfl
 f156:=Tryz.func87.trans (congrArg some (by kernel_rfl))
 f165:=Tryz.func137.trans (congrArg some (by kernel_rfl))
 f166:=Tryz.func138.trans (congrArg some (by kernel_rfl))
 f169:=Tryz.func139.trans (congrArg some (by kernel_rfl))
 f240:=Tryz.func180.trans (congrArg some (by kernel_rfl))
 f241:=Tryz.func181.trans (congrArg some (by kernel_rfl))
 f276:=Tryz.func221.trans (congrArg some (by kernel_rfl))
 f277:=Tryz.func222.trans (congrArg some (by kernel_rfl))
 t0:=Tryz.underlying0
 a0:=Tryz.isAgg0
 z0:=Tryz.sizeOf0
 v0:=Tryz.zeroValue0
 t3:=Tryz.underlying3
 a3:=Tryz.isAgg3
 z3:=Tryz.sizeOf3
 v3:=Tryz.zeroValue3
 t4:=Tryz.underlying4
 a4:=Tryz.isAgg4
 z4:=Tryz.sizeOf4
 v4:=Tryz.zeroValue4
 t9:=Tryz.underlying9
 a9:=Tryz.isAgg9
 z9:=Tryz.sizeOf9
 v9:=Tryz.zeroValue9
 t20:=Tryz.underlying20
 a20:=Tryz.isAgg20
 z20:=Tryz.sizeOf20
 v20:=Tryz.zeroValue20
 t31:=Tryz.underlying50
 a31:=Tryz.isAgg50
 z31:=Tryz.sizeOf50
 v31:=Tryz.zeroValue50
 t37:=Tryz.underlying28
 a37:=Tryz.isAgg28
 z37:=Tryz.sizeOf28
 v37:=Tryz.zeroValue28
 t70:=Tryz.underlying186
 a70:=Tryz.isAgg186
 z70:=Tryz.sizeOf186
 v70:=Tryz.zeroValue186
 t72:=Tryz.underlying188
 a72:=Tryz.isAgg188
 z72:=Tryz.sizeOf188
 v72:=Tryz.zeroValue188
 t75:=Tryz.underlying191
 a75:=Tryz.isAgg191
 z75:=Tryz.sizeOf191
 v75:=Tryz.zeroValue191
 t76:=Tryz.underlying192
 a76:=Tryz.isAgg192
 z76:=Tryz.sizeOf192
 v76:=Tryz.zeroValue192
 t127:=Tryz.underlying222
 a127:=Tryz.isAgg222
 z127:=Tryz.sizeOf222
 v127:=Tryz.zeroValue222
 t164:=Tryz.underlying249
 a164:=Tryz.isAgg249
 z164:=Tryz.sizeOf249
 v164:=Tryz.zeroValue249 }

theorem Tryz.Builder_Extra_156:Builder.Extra Tryz.prog Tryz.lays156_ren:={
 sizeBuilder:=by kernel_rfl
 liesBuilder:=by kernel_rfl
 t5:=Tryz.underlying5
 a5:=Tryz.isAgg5
 z5:=Tryz.sizeOf5
 v5:=Tryz.zeroValue5
 infoByte:=by kernel_rfl
 cellsByte:=by kernel_rfl
 sizeByte:=by kernel_rfl
 neB5:=by decide }

open Go.RowKit in
theorem Tryz.strings_Join_none (a:Option Addr) (c:Nat) (sep:ByteArray) (w:World):
 Calls Tryz.prog 87 #[.slice a 0 c,.string sep] w fun e w'=>e = .returned (.string ⟨#[]⟩)∧w'=w:=Any.strings_Join_none Tryz.lays156 Tryz.Builder_Extra_156 a c sep w

open Go.RowKit in
theorem Tryz.strings_Join (bk o c:Nat) (xs:List ByteArray) (sep:ByteArray) (w:World) (hcells: ∀ (j:Nat) x,xs[j]? = some x→w.cell? ⟨bk,o+j,none⟩=some (.string x)) (hbk:bk<w.heap.size) (hN:xs.length≤140737488355328) (hcap:xs.length≤c) (hlen:(Lib.join (xs.map (·.data.toList)) sep.data.toList).length≤140737488355328):
 Calls Tryz.prog 87 #[.slice (some ⟨bk,o,none⟩) xs.length c,.string sep] w fun e w'=>e = .returned (.string ⟨(Lib.join (xs.map (·.data.toList)) sep.data.toList).toArray⟩)∧Below w.heap.size w w':=Any.strings_Join Tryz.lays156 Tryz.Builder_Extra_156 bk o c xs sep w hcells hbk hN hcap hlen

def Tryz.lays160_ren:Go.Shelf.Ren:=⟨fun | 160=>149 | 232=>185 | 231=>184 | 227=>186 | 234=>188 | 233=>187 | 236=>190 | 235=>189 | 228=>223 | 271=>226 | 151=>225 | 197=>224 | 120=>244 | 152=>243 | 260=>242 | 137=>256 | 119=>257 | 224=>248 | 225=>247 | 217=>246 | 266=>258 | n=>n,fun | 9=>9 | 4=>4 | 3=>3 | 5=>5 | 117=>227 | 116=>226 | 0=>0 | 124=>230 | 21=>21 | 105=>252 | 46=>156 | 119=>274 | 139=>277 | 138=>276 | n=>n,fun | 3=>4 | 4=>5 | n=>n⟩

theorem Tryz.lays160:Go.Proofs.Lays.n160 Tryz.prog Tryz.lays160_ren:={
 mixed:=by kernel_rfl
 f119:=Tryz.func257.trans (congrArg some (by kernel_rfl))
 f120:=Tryz.func244.trans (congrArg some (by kernel_rfl))
 f137:=Tryz.func256.trans (congrArg some (by kernel_rfl))
 f151:=Tryz.func225.trans (congrArg some (by kernel_rfl))
 f152:=Tryz.func243.trans (congrArg some (by kernel_rfl))
 f160:=Tryz.func149.trans (congrArg some (by kernel_rfl))
 f197:=Tryz.func224.trans (congrArg some (by kernel_rfl))
 f217:=Tryz.func246.trans (congrArg some (by kernel_rfl))
 f224:=Tryz.func248.trans (congrArg some (by kernel_rfl))
 f225:=Tryz.func247.trans (congrArg some (by kernel_rfl))
 f227:=Tryz.func186.trans (congrArg some (by kernel_rfl))
 f228:=Tryz.func223.trans (congrArg some (by kernel_rfl))
 f231:=Tryz.func184.trans (congrArg some (by kernel_rfl))
 f232:=Tryz.func185.trans (congrArg some (by kernel_rfl))
 f233:=Tryz.func187.trans (congrArg some (by kernel_rfl))
 f234:=Tryz.func188.trans (congrArg some (by kernel_rfl))
 f235:=Tryz.func189.trans (congrArg some (by kernel_rfl))
 f236:=Tryz.func190.trans (congrArg some (by kernel_rfl))
 f260:=Tryz.func242.trans (congrArg some (by kernel_rfl))
 f266:=Tryz.func258.trans (congrArg some (by kernel_rfl))
 f271:=Tryz.func226.trans (congrArg some (by kernel_rfl))
 t0:=Tryz.underlying0
 a0:=Tryz.isAgg0
 z0:=Tryz.sizeOf0
 v0:=Tryz.zeroValue0
 t3:=Tryz.underlying3
 a3:=Tryz.isAgg3
 z3:=Tryz.sizeOf3
 v3:=Tryz.zeroValue3
 t4:=Tryz.underlying4
 a4:=Tryz.isAgg4
 z4:=Tryz.sizeOf4
 v4:=Tryz.zeroValue4
 t5:=Tryz.underlying5
 a5:=Tryz.isAgg5
 z5:=Tryz.sizeOf5
 v5:=Tryz.zeroValue5
 t9:=Tryz.underlying9
 a9:=Tryz.isAgg9
 z9:=Tryz.sizeOf9
 v9:=Tryz.zeroValue9
 t21:=Tryz.underlying21
 a21:=Tryz.isAgg21
 z21:=Tryz.sizeOf21
 v21:=Tryz.zeroValue21
 t46:=Tryz.underlying156
 a46:=Tryz.isAgg156
 z46:=Tryz.sizeOf156
 v46:=Tryz.zeroValue156
 t105:=Tryz.underlying252
 a105:=Tryz.isAgg252
 z105:=Tryz.sizeOf252
 v105:=Tryz.zeroValue252
 t116:=Tryz.underlying226
 a116:=Tryz.isAgg226
 z116:=Tryz.sizeOf226
 t117:=Tryz.underlying227
 a117:=Tryz.isAgg227
 z117:=Tryz.sizeOf227
 v117:=Tryz.zeroValue227
 t119:=Tryz.underlying274
 a119:=Tryz.isAgg274
 z119:=Tryz.sizeOf274
 t124:=Tryz.underlying230
 a124:=Tryz.isAgg230
 z124:=Tryz.sizeOf230
 v124:=Tryz.zeroValue230
 t138:=Tryz.underlying276
 a138:=Tryz.isAgg276
 z138:=Tryz.sizeOf276
 v138:=Tryz.zeroValue276
 t139:=Tryz.underlying277
 a139:=Tryz.isAgg277
 z139:=Tryz.sizeOf277
 v139:=Tryz.zeroValue277
 g3:=by kernel_rfl
 g4:=by kernel_rfl }

def Tryz.laysM171_ren:Go.Shelf.Ren:=⟨fun | 171=>141 | 243=>182 | 246=>122 | 283=>165 | 284=>166 | 285=>167 | 286=>168 | 129=>200 | 317=>206 | 318=>207 | 319=>208 | 320=>209 | 337=>236 | 338=>237 | n=>n,fun | 3=>3 | 9=>9 | 2=>2 | 4=>4 | 171=>210 | 0=>0 | 53=>211 | 37=>28 | 5=>5 | 173=>214 | 212=>244 | 51=>239 | 20=>20 | 213=>245 | 46=>156 | 232=>270 | 233=>271 | n=>n,fun | 17=>0 | 18=>2 | 19=>3 | n=>n⟩

theorem Tryz.laysM171:Go.Proofs.LaysM.n171 Tryz.prog Tryz.laysM171_ren:={
 mixed:=by kernel_rfl
 f129:=Tryz.func200.trans (congrArg some (by kernel_rfl))
 f171:=Tryz.func141.trans (congrArg some (by kernel_rfl))
 f243:=Tryz.func182.trans (congrArg some (by kernel_rfl))
 f246:=Tryz.func122.trans (congrArg some (by kernel_rfl))
 f283:=Tryz.func165.trans (congrArg some (by kernel_rfl))
 f284:=Tryz.func166.trans (congrArg some (by kernel_rfl))
 f285:=Tryz.func167.trans (congrArg some (by kernel_rfl))
 f286:=Tryz.func168.trans (congrArg some (by kernel_rfl))
 f317:=Tryz.func206.trans (congrArg some (by kernel_rfl))
 f318:=Tryz.func207.trans (congrArg some (by kernel_rfl))
 f319:=Tryz.func208.trans (congrArg some (by kernel_rfl))
 f320:=Tryz.func209.trans (congrArg some (by kernel_rfl))
 f337:=Tryz.func236.trans (congrArg some (by kernel_rfl))
 f338:=Tryz.func237.trans (congrArg some (by kernel_rfl))
 t0:=Tryz.underlying0
 a0:=Tryz.isAgg0
 z0:=Tryz.sizeOf0
 v0:=Tryz.zeroValue0
 t2:=Tryz.underlying2
 a2:=Tryz.isAgg2
 z2:=Tryz.sizeOf2
 v2:=Tryz.zeroValue2
 t3:=Tryz.underlying3
 a3:=Tryz.isAgg3
 z3:=Tryz.sizeOf3
 v3:=Tryz.zeroValue3
 t4:=Tryz.underlying4
 a4:=Tryz.isAgg4
 z4:=Tryz.sizeOf4
 v4:=Tryz.zeroValue4
 t5:=Tryz.underlying5
 a5:=Tryz.isAgg5
 z5:=Tryz.sizeOf5
 v5:=Tryz.zeroValue5
 t9:=Tryz.underlying9
 a9:=Tryz.isAgg9
 z9:=Tryz.sizeOf9
 v9:=Tryz.zeroValue9
 t20:=Tryz.underlying20
 a20:=Tryz.isAgg20
 z20:=Tryz.sizeOf20
 v20:=Tryz.zeroValue20
 t37:=Tryz.underlying28
 a37:=Tryz.isAgg28
 z37:=Tryz.sizeOf28
 v37:=Tryz.zeroValue28
 t46:=Tryz.underlying156
 a46:=Tryz.isAgg156
 z46:=Tryz.sizeOf156
 v46:=Tryz.zeroValue156
 t51:=Tryz.underlying239
 a51:=Tryz.isAgg239
 z51:=Tryz.sizeOf239
 v51:=Tryz.zeroValue239
 t53:=Tryz.underlying211
 a53:=Tryz.isAgg211
 z53:=Tryz.sizeOf211
 v53:=Tryz.zeroValue211
 t171:=Tryz.underlying210
 a171:=Tryz.isAgg210
 z171:=Tryz.sizeOf210
 v171:=Tryz.zeroValue210
 t173:=Tryz.underlying214
 a173:=Tryz.isAgg214
 z173:=Tryz.sizeOf214
 v173:=Tryz.zeroValue214
 t212:=Tryz.underlying244
 a212:=Tryz.isAgg244
 z212:=Tryz.sizeOf244
 v212:=Tryz.zeroValue244
 t213:=Tryz.underlying245
 a213:=Tryz.isAgg245
 z213:=Tryz.sizeOf245
 t232:=Tryz.underlying270
 a232:=Tryz.isAgg270
 z232:=Tryz.sizeOf270
 v232:=Tryz.zeroValue270
 t233:=Tryz.underlying271
 a233:=Tryz.isAgg271
 z233:=Tryz.sizeOf271
 v233:=Tryz.zeroValue271
 g17:=by kernel_rfl
 g18:=by kernel_rfl
 g19:=by kernel_rfl
 i0:=by kernel_rfl
 i2:=by kernel_rfl
 i3:=by kernel_rfl
 i4:=by kernel_rfl
 i5:=by kernel_rfl
 i9:=by kernel_rfl
 i20:=by kernel_rfl
 i37:=by kernel_rfl
 i46:=by kernel_rfl
 i51:=by kernel_rfl
 i53:=by kernel_rfl
 i171:=by kernel_rfl
 i173:=by kernel_rfl
 i212:=by kernel_rfl
 i232:=by kernel_rfl
 i233:=by kernel_rfl
 m17:=by kernel_rfl
 m18:=by kernel_rfl
 m19:=by kernel_rfl }

open Go.RowKit Go.Sort Go.Lib in
theorem Tryz.strconv_Itoa (n : Int) (h0 : -9223372036854775808 ≤ n) (h1 : n ≤ 9223372036854775807) (w : World) (htab : Lib.TabIs Tryz.prog w "internal/strconv.uint64pow10" .u64 Lib.pow10Tab) :
 Calls Tryz.prog 141 #[.int .i64 n] w fun e w'=>e = .returned (.string ⟨(Lib.itoa n).toArray⟩) ∧ ∃ k os,w'=grow (w.drewN k) os:=Any.strconv_Itoa Tryz.laysM171 n h0 h1 w htab

def Tryz.laysM145_ren:Go.Shelf.Ren:=⟨fun | 145=>152 | 220=>201 | 219=>232 | 217=>246 | 225=>247 | 224=>248 | 267=>249 | 266=>258 | 314=>259 | n=>n,fun | 9=>9 | 4=>4 | 59=>171 | 3=>3 | 5=>5 | 46=>156 | 146=>279 | 51=>239 | n=>n,fun | 1=>1 | n=>n⟩

theorem Tryz.laysM145:Go.Proofs.LaysM.n145 Tryz.prog Tryz.laysM145_ren:={
 mixed:=by kernel_rfl
 f145:=Tryz.func152.trans (congrArg some (by kernel_rfl))
 f217:=Tryz.func246.trans (congrArg some (by kernel_rfl))
 f219:=Tryz.func232.trans (congrArg some (by kernel_rfl))
 f220:=Tryz.func201.trans (congrArg some (by kernel_rfl))
 f224:=Tryz.func248.trans (congrArg some (by kernel_rfl))
 f225:=Tryz.func247.trans (congrArg some (by kernel_rfl))
 f266:=Tryz.func258.trans (congrArg some (by kernel_rfl))
 f267:=Tryz.func249.trans (congrArg some (by kernel_rfl))
 f314:=Tryz.func259.trans (congrArg some (by kernel_rfl))
 t3:=Tryz.underlying3
 a3:=Tryz.isAgg3
 z3:=Tryz.sizeOf3
 v3:=Tryz.zeroValue3
 t4:=Tryz.underlying4
 a4:=Tryz.isAgg4
 z4:=Tryz.sizeOf4
 v4:=Tryz.zeroValue4
 t5:=Tryz.underlying5
 a5:=Tryz.isAgg5
 z5:=Tryz.sizeOf5
 v5:=Tryz.zeroValue5
 t9:=Tryz.underlying9
 a9:=Tryz.isAgg9
 z9:=Tryz.sizeOf9
 v9:=Tryz.zeroValue9
 t46:=Tryz.underlying156
 a46:=Tryz.isAgg156
 z46:=Tryz.sizeOf156
 v46:=Tryz.zeroValue156
 t51:=Tryz.underlying239
 a51:=Tryz.isAgg239
 z51:=Tryz.sizeOf239
 v51:=Tryz.zeroValue239
 t59:=Tryz.underlying171
 a59:=Tryz.isAgg171
 z59:=Tryz.sizeOf171
 v59:=Tryz.zeroValue171
 t146:=Tryz.underlying279
 a146:=Tryz.isAgg279
 z146:=Tryz.sizeOf279
 v146:=Tryz.zeroValue279
 g1:=by kernel_rfl
 i3:=by kernel_rfl
 i4:=by kernel_rfl
 i5:=by kernel_rfl
 i9:=by kernel_rfl
 i46:=by kernel_rfl
 i51:=by kernel_rfl
 i59:=by kernel_rfl
 i146:=by kernel_rfl
 m1:=by kernel_rfl
 s1_3:=fun w h=>Go.Proofs.cell_of_shapedOpen_int (zero:= #[.int .i64 0]) (t:=3) h (of_decide_eq_true (by kernel_rfl)) (by kernel_rfl) rfl (by kernel_rfl) (by kernel_rfl) Tryz.underlying3 }

def Tryz.lays190_ren:Go.Shelf.Ren:=⟨fun | 190=>100 | 125=>151 | 258=>150 | 128=>199 | 129=>200 | 302=>191 | 303=>192 | 304=>193 | 305=>194 | 306=>195 | 307=>196 | 308=>178 | 309=>197 | 310=>198 | 333=>227 | 329=>228 | 330=>229 | 334=>230 | 335=>231 | 336=>220 | 344=>245 | n=>n,fun | 31=>50 | 9=>9 | 3=>3 | 46=>156 | 0=>0 | 51=>239 | 53=>211 | 4=>4 | 183=>233 | 182=>232 | 131=>184 | 5=>5 | 218=>255 | 222=>259 | 228=>266 | 229=>267 | n=>n,fun | n=>n⟩

theorem Tryz.lays190:Go.Proofs.Lays.n190 Tryz.prog Tryz.lays190_ren:={
 mixed:=by kernel_rfl
 f125:=Tryz.func151.trans (congrArg some (by kernel_rfl))
 f128:=Tryz.func199.trans (congrArg some (by kernel_rfl))
 f129:=Tryz.func200.trans (congrArg some (by kernel_rfl))
 f190:=Tryz.func100.trans (congrArg some (by kernel_rfl))
 f258:=Tryz.func150.trans (congrArg some (by kernel_rfl))
 f302:=Tryz.func191.trans (congrArg some (by kernel_rfl))
 f303:=Tryz.func192.trans (congrArg some (by kernel_rfl))
 f304:=Tryz.func193.trans (congrArg some (by kernel_rfl))
 f305:=Tryz.func194.trans (congrArg some (by kernel_rfl))
 f306:=Tryz.func195.trans (congrArg some (by kernel_rfl))
 f307:=Tryz.func196.trans (congrArg some (by kernel_rfl))
 f308:=Tryz.func178.trans (congrArg some (by kernel_rfl))
 f309:=Tryz.func197.trans (congrArg some (by kernel_rfl))
 f310:=Tryz.func198.trans (congrArg some (by kernel_rfl))
 f329:=Tryz.func228.trans (congrArg some (by kernel_rfl))
 f330:=Tryz.func229.trans (congrArg some (by kernel_rfl))
 f333:=Tryz.func227.trans (congrArg some (by kernel_rfl))
 f334:=Tryz.func230.trans (congrArg some (by kernel_rfl))
 f335:=Tryz.func231.trans (congrArg some (by kernel_rfl))
 f336:=Tryz.func220.trans (congrArg some (by kernel_rfl))
 f344:=Tryz.func245.trans (congrArg some (by kernel_rfl))
 t0:=Tryz.underlying0
 a0:=Tryz.isAgg0
 z0:=Tryz.sizeOf0
 v0:=Tryz.zeroValue0
 t3:=Tryz.underlying3
 a3:=Tryz.isAgg3
 z3:=Tryz.sizeOf3
 v3:=Tryz.zeroValue3
 t4:=Tryz.underlying4
 a4:=Tryz.isAgg4
 z4:=Tryz.sizeOf4
 v4:=Tryz.zeroValue4
 t5:=Tryz.underlying5
 a5:=Tryz.isAgg5
 z5:=Tryz.sizeOf5
 v5:=Tryz.zeroValue5
 t9:=Tryz.underlying9
 a9:=Tryz.isAgg9
 z9:=Tryz.sizeOf9
 v9:=Tryz.zeroValue9
 t31:=Tryz.underlying50
 a31:=Tryz.isAgg50
 z31:=Tryz.sizeOf50
 v31:=Tryz.zeroValue50
 t46:=Tryz.underlying156
 a46:=Tryz.isAgg156
 z46:=Tryz.sizeOf156
 v46:=Tryz.zeroValue156
 t51:=Tryz.underlying239
 a51:=Tryz.isAgg239
 z51:=Tryz.sizeOf239
 v51:=Tryz.zeroValue239
 t53:=Tryz.underlying211
 a53:=Tryz.isAgg211
 z53:=Tryz.sizeOf211
 v53:=Tryz.zeroValue211
 t131:=Tryz.underlying184
 a131:=Tryz.isAgg184
 z131:=Tryz.sizeOf184
 v131:=Tryz.zeroValue184
 t182:=Tryz.underlying232
 a182:=Tryz.isAgg232
 z182:=Tryz.sizeOf232
 v182:=Tryz.zeroValue232
 t183:=Tryz.underlying233
 a183:=Tryz.isAgg233
 z183:=Tryz.sizeOf233
 v183:=Tryz.zeroValue233
 t218:=Tryz.underlying255
 a218:=Tryz.isAgg255
 z218:=Tryz.sizeOf255
 v218:=Tryz.zeroValue255
 t222:=Tryz.underlying259
 a222:=Tryz.isAgg259
 z222:=Tryz.sizeOf259
 v222:=Tryz.zeroValue259
 t228:=Tryz.underlying266
 a228:=Tryz.isAgg266
 z228:=Tryz.sizeOf266
 v228:=Tryz.zeroValue266
 t229:=Tryz.underlying267
 a229:=Tryz.isAgg267
 z229:=Tryz.sizeOf267
 v229:=Tryz.zeroValue267 }

open Go.Sort Go.RowKit in
theorem Tryz.slices_Sort_string (blk off cap:Nat) (ss:List (List UInt8)) (w:World) (hH:Holds encStr w blk off ss.toArray) (hblk:blk<w.heap.size) (hsz:ss.length<4611686018427387904):
 Calls Tryz.prog 100 #[.slice (some ⟨blk,off,none⟩) ss.length cap] w fun e w'=>
  e = .returned (.tuple #[]) ∧ ∃ n os,w'=grow (putRow encStr (Sort.ahead w n) blk off (ss.mergeSort fun x y=>decide (x≤y)).toArray) os:=Any.slices_Sort_string Tryz.lays190 blk off cap ss w hH hblk hsz

def Tryz.lays194_ren:Go.Shelf.Ren:=⟨fun | 194=>101 | n=>n,fun | 31=>50 | 9=>9 | 3=>3 | 4=>4 | 0=>0 | n=>n,fun | n=>n⟩

theorem Tryz.lays194:Go.Proofs.Lays.n194 Tryz.prog Tryz.lays194_ren:={
 mixed:=by kernel_rfl
 f194:=Tryz.func101.trans (congrArg some (by kernel_rfl))
 t0:=Tryz.underlying0
 a0:=Tryz.isAgg0
 z0:=Tryz.sizeOf0
 v0:=Tryz.zeroValue0
 t3:=Tryz.underlying3
 a3:=Tryz.isAgg3
 z3:=Tryz.sizeOf3
 v3:=Tryz.zeroValue3
 t4:=Tryz.underlying4
 a4:=Tryz.isAgg4
 z4:=Tryz.sizeOf4
 v4:=Tryz.zeroValue4
 t9:=Tryz.underlying9
 a9:=Tryz.isAgg9
 z9:=Tryz.sizeOf9
 v9:=Tryz.zeroValue9
 t31:=Tryz.underlying50
 a31:=Tryz.isAgg50
 z31:=Tryz.sizeOf50
 v31:=Tryz.zeroValue50 }

open Go.RowKit Go.Lib Go.Sort in
theorem Tryz.slices_Compact_string (blk off cap:Nat) (zs:List (List UInt8)) (w:World) (hH:Holds encStr w blk off zs.toArray) (hsz:zs.length≤9223372036854775807) (hcap:zs.length≤cap):
 Calls Tryz.prog 101 #[.slice (some ⟨blk,off,none⟩) zs.length cap] w fun e w'=>e = .returned (.slice (some ⟨blk,off,none⟩) (Lib.compact zs).length cap) ∧ ∃ q,w'=putRow encStr (Sort.ahead w q) blk off (Lib.compact zs++List.replicate (zs.length - (Lib.compact zs).length) []).toArray:=Any.slices_Compact_string Tryz.lays194 blk off cap zs w hH hsz hcap

open Go.RowKit Go.Lib Go.Sort in
theorem Tryz.slices_Compact_string_empty (a:Option Addr) (cap:Nat) (w:World):
 Calls Tryz.prog 101 #[.slice a 0 cap] w fun e w'=>e = .returned (.slice a 0 cap)∧w'=w:=Any.slices_Compact_string_empty Tryz.lays194 a cap w

open Go.RowKit Go.Sort in
theorem Tryz.slices_Sort_string_none (p:Option Addr) (cap:Nat) (w:World):
 Calls Tryz.prog 100 #[.slice p 0 cap] w fun e w'=>e = .returned (.tuple #[])∧w'=w:=Any.slices_Sort_string_none Tryz.lays190 p cap w

def Tryz.laysSlH6_f176_ren:Go.Shelf.Ren:=⟨fun | 6=>176 | n=>n,fun | 22=>50 | 23=>9 | 25=>139 | 3=>3 | 0=>0 | 4=>4 | n=>n,fun | n=>n⟩

theorem Tryz.laysSlH6_f176:Go.Proofs.SlLaysH.n6 Tryz.prog Tryz.laysSlH6_f176_ren:={
 mixed:=by kernel_rfl
 f6:=⟨Tryz.f176.name,by decide,Tryz.func176.trans (congrArg some (by kernel_rfl))⟩
 t0:=Tryz.underlying0
 a0:=Tryz.isAgg0
 z0:=Tryz.sizeOf0
 v0:=Tryz.zeroValue0
 t3:=Tryz.underlying3
 a3:=Tryz.isAgg3
 z3:=Tryz.sizeOf3
 v3:=Tryz.zeroValue3
 t4:=Tryz.underlying4
 a4:=Tryz.isAgg4
 z4:=Tryz.sizeOf4
 v4:=Tryz.zeroValue4
 t22:=Tryz.underlying50
 a22:=Tryz.isAgg50
 z22:=Tryz.sizeOf50
 v22:=Tryz.zeroValue50
 a23:=Tryz.isAgg9
 z23:=Tryz.sizeOf9
 t25:=Tryz.underlying139
 a25:=Tryz.isAgg139
 z25:=Tryz.sizeOf139
 v25:=Tryz.zeroValue139 }

open Go.RowKit Go.Lib in
theorem Tryz.slices_IndexFunc_empty {α:Type} [Inhabited α] (a:Option Addr) (c:Nat) (fv:Value) (w:World):
 Calls Tryz.prog 176 #[.slice a 0 c,fv] w fun e w'=>e = .returned (.int .i64 (-1))∧w'=w:=AnyE.slices_IndexFunc_empty Tryz.laysSlH6_f176 a c fv w

def Tryz.laysSlH10_f131_ren:Go.Shelf.Ren:=⟨fun | 10=>131 | 6=>176 | n=>n,fun | 22=>50 | 23=>9 | 25=>139 | 3=>3 | 4=>4 | 0=>0 | n=>n,fun | n=>n⟩

theorem Tryz.laysSlH10_f131:Go.Proofs.SlLaysH.n10 Tryz.prog Tryz.laysSlH10_f131_ren:={
 mixed:=by kernel_rfl
 f6:=⟨Tryz.f176.name,by decide,Tryz.func176.trans (congrArg some (by kernel_rfl))⟩
 f10:=⟨Tryz.f131.name,by decide,Tryz.func131.trans (congrArg some (by kernel_rfl))⟩
 t0:=Tryz.underlying0
 a0:=Tryz.isAgg0
 z0:=Tryz.sizeOf0
 v0:=Tryz.zeroValue0
 t3:=Tryz.underlying3
 a3:=Tryz.isAgg3
 z3:=Tryz.sizeOf3
 v3:=Tryz.zeroValue3
 t4:=Tryz.underlying4
 a4:=Tryz.isAgg4
 z4:=Tryz.sizeOf4
 v4:=Tryz.zeroValue4
 t22:=Tryz.underlying50
 a22:=Tryz.isAgg50
 z22:=Tryz.sizeOf50
 v22:=Tryz.zeroValue50
 a23:=Tryz.isAgg9
 z23:=Tryz.sizeOf9
 t25:=Tryz.underlying139
 a25:=Tryz.isAgg139
 z25:=Tryz.sizeOf139
 v25:=Tryz.zeroValue139 }

open Go.RowKit Go.Lib Go.Sort in
theorem Tryz.slices_DeleteFunc {α:Type} [Inhabited α] (enc:α→Value) (hO:OneCell enc) (p:α→Bool) (g:Nat) (lb:Array Value) (eg: ∀ args w,(callFunc g args).run Tryz.prog w = .ok (.enter g args) w) (zr:α) (v23: ∀ w,(zeroValue 9).run Tryz.prog w = .ok (enc zr) w) (blk off cap:Nat) (d:Array α) (w:World) (hp:PredAt Tryz.prog g lb enc p w) (hpo:PredOver Tryz.prog g lb enc p blk off d.size w) (hH:Holds enc w blk off d) (hsz:d.size≤9223372036854775807) (hcap:d.size≤cap):
 Calls Tryz.prog 131 #[.slice (some ⟨blk,off,none⟩) d.size cap,.func (.func g) #[] lb] w fun e w'=>e = .returned (.slice (some ⟨blk,off,none⟩) (d.toList.filter fun x=> !p x).length cap) ∧ ∃ q,w'=putRow enc (Sort.ahead w q) blk off ((d.toList.filter fun x=> !p x)++List.replicate (d.size - (d.toList.filter fun x=> !p x).length) zr).toArray:=AnyE.slices_DeleteFunc Tryz.laysSlH10_f131 enc hO p g lb eg zr v23 blk off cap d w hp hpo hH hsz hcap

end Go.Proofs

namespace Go.Proofs.YtolioccofbhliaaGreatDoor
open Go.RowKit

def dB64:List Int:=[0,1,56,2,57,49,28,3,61,58,42,50,38,29,17,4,62,47,59,36,45,43,51,22,53,39,33,30,24,18,12,5,63,55,48,27,60,41,37,16,46,35,44,21,52,32,23,11,54,26,40,15,34,20,31,10,25,14,19,9,13,8,7,6]

theorem gPow10 : Tryz.prog.globalNamed "internal/strconv.uint64pow10" = some 0 := by kernel_rfl

theorem gDB64 : Tryz.prog.globalNamed "math/bits.deBruijn64tab" = some 3 := by kernel_rfl

def Gd (w:World):Prop:=
 (∃ m, w.cell? ⟨1, 0, none⟩ = some (.int .i64 m)) ∧ Lib.TabIs Tryz.prog w "internal/strconv.uint64pow10" .u64 Lib.pow10Tab ∧ Lib.TabIs Tryz.prog w "math/bits.deBruijn64tab" .u8 dB64

theorem Gd.kept {w w':World} (h:Gd w) (hb:Below w.heap.size w w'):Gd w':=by
 obtain ⟨⟨m,hm⟩,h1,h2⟩:=h
 exact ⟨⟨m,(hb.cell (World.block_lt_of_cell? w _ hm)).trans hm⟩,Joins.tab_stays gPow10 h1 hb (Nat.le_refl _),Joins.tab_stays gDB64 h2 hb (Nat.le_refl _)⟩

theorem below2 {a b c:World} (h1:Below a.heap.size a b) (h2:Below b.heap.size b c):Below a.heap.size a c:=h1.trans (h2.mono h1.size)

def behind (l:List UInt8):List UInt8:=if marked l then l.drop 2 else []

end Go.Proofs.YtolioccofbhliaaGreatDoor

namespace Go.Proofs.YtolioccofbhliaaGreatDoor
open Go.RowKit

def Tail (w:World) (g:Nat) (T:List UInt8):Prop:=
 ∃ cur:Array Value,w.heap[g]? = some (.cells cur 245 (0,0))∧cur.size=65∧T.length≤65 ∧ ∀ j (h:j<T.length),cur[65 - T.length+j]? = some (.int .u8 (T[j].toNat:Int))

theorem Tail.cell {w:World} {g:Nat} {T:List UInt8} (h:Tail w g T) (k:Nat) (hk:k<65): ∃ v,w.cell? ⟨g,k,none⟩=some v:=by
 obtain ⟨cur,hg,hs,_,_⟩:=h
 rw [cell_of_row w g k cur _ _ hg];exact ⟨cur[k],by simp [hs,hk]⟩

theorem Tail.frozen {w:World} {g:Nat} {T:List UInt8} (h:Tail w g T) (k:Nat):w.frozen? ⟨g,k,none⟩=false:=by
 obtain ⟨cur,hg,_⟩:=h
 simp [World.frozen?,hg]

theorem Tail.set {w:World} {g:Nat} {T:List UInt8} (h:Tail w g T) (c:UInt8) (hT:T.length<65):Tail (w.setCell ⟨g,64 - T.length,none⟩ (.int .u8 (c.toNat:Int))) g (c::T):=by
 obtain ⟨cur,hg,hs,hl,hc⟩:=h
 refine ⟨_,Lib.heap_setCell_same hg _,by simpa using hs,by simp;omega,?_⟩
 intro j hj
 cases j with
 | zero=>
   have e:65 - (c::T).length+0=64 - T.length:=by rw [List.length_cons];omega
   rw [e];have hlt:64 - T.length<cur.size:=by omega
   simp [hlt]
 | succ j=>
   have hj':j<T.length:=by simpa using hj
   have e:65 - (c::T).length+(j+1)=65 - T.length+j:=by rw [List.length_cons];omega
   rw [e];have hne:64 - T.length≠65 - T.length+j:=by omega
   simp [Array.getElem?_setIfInBounds,hne]
   exact hc j hj'

theorem Tail.string {w:World} {g cap:Nat} {T:List UInt8} (h:Tail w g T):(convert 28 9 (.slice (some ⟨g,65 - T.length,none⟩) T.length cap)).run Tryz.prog w = .ok (.string ⟨T.toArray⟩) w:=by
 obtain ⟨cur,hg,hs,hl,hc⟩:=h
 refine run_convert_bytes_back w 28 9 5 _ cap T Tryz.underlying28 Tryz.underlying5 Tryz.underlying9 fun j hj=> ?_
 rw [Addr.add_mid,cell_of_row w g _ cur _ _ hg]
 exact hc j hj

theorem digsN_more (base f n:Nat) (T:List UInt8) (h: ¬ n<base):digsN base (f+1) n T=digsN base f (n / base) (digC (n % base)::T):=by rw [digsN,if_neg h]

theorem digsN_last (base f n:Nat) (T:List UInt8) (h:n<base):digsN base (f+1) n T=digC n::T:=by rw [digsN,if_pos h]

end Go.Proofs.YtolioccofbhliaaGreatDoor

namespace Go.Proofs.YtolioccofbhliaaGreatDoor
open Go.RowKit

theorem size_le {l:List UInt8} {s:ByteArray} {n:Nat} (h:l.length≤s.data.toList.length) (hs:s.size≤n):(⟨l.toArray⟩:ByteArray).size≤n:=by
 have e:(⟨l.toArray⟩:ByteArray).size=l.length:=by show l.toArray.size=_;simp
 simp at h;omega

theorem empty_yes (s:ByteArray) (h:s.data.toList=[]):s.toList.isEmpty=true:=by rw [Lib.toList_data,h];rfl

theorem empty_no (s:ByteArray) (h:s.data.toList≠[]):s.toList.isEmpty=false:=by
 rw [Lib.toList_data];cases hl:s.data.toList with
 | nil=>exact absurd hl h
 | cons a l=>rfl

end Go.Proofs.YtolioccofbhliaaGreatDoor

namespace Go.Proofs.YtolioccofbhliaaGreatDoor
open Go.RowKit

theorem getD_some {o:Option Nat} {n:Nat} (h:o=some n):o.getD 0=n:=by rw [h];rfl

theorem getD_none {o:Option Nat} (h:o=none):o.getD 0=0:=by rw [h];rfl

theorem orN (k h n:Nat) (hn:n<2 ^ k) (hh:h*2 ^ k+n<18446744073709551616):bits .or .u64 ((h:Int)*2 ^ k) (n:Int)=((h*2 ^ k+n:Nat):Int):=by
 have e:(h:Int)*2 ^ k=((h*2 ^ k:Nat):Int):=by simp
 rw [e,u64_or_nat _ _ (by omega) (by omega)]
 congr 1
 rw [← Nat.shiftLeft_eq,Nat.shiftLeft_add_eq_or_of_lt hn]

end Go.Proofs.YtolioccofbhliaaGreatDoor

namespace Go.Proofs.YtolioccofbhliaaGreatDoor
open Go.RowKit

theorem and255 (n:Nat) (h:n<4294967296):bits .and .u32 (n:Int) 255=((n % 256:Nat):Int):=by
 have:=u32_and_nat n 255 h (by omega)
 rw [nat_mask8] at this;simpa using this

def txt4 (n:Nat):Nat→List UInt8
 | 0=>text4 n
 | 1=>dec8 (n / 16777216 % 256)++([46]++dec8 (n / 65536 % 256))++([46]++dec8 (n / 256 % 256))
 | 2=>dec8 (n / 16777216 % 256)++([46]++dec8 (n / 65536 % 256))
 | _=>dec8 (n / 16777216 % 256)

theorem dec8_le (n:Nat):(dec8 n).length≤3:=by
 unfold dec8;split
 ·simp
 ·split<;>simp

theorem text4_le (n:Nat):(text4 n).length≤15:=by
 unfold text4;have h1:=dec8_le (n / 16777216 % 256);have h2:=dec8_le (n / 65536 % 256);have h3:=dec8_le (n / 256 % 256);have h4:=dec8_le (n % 256)
 simp;omega

theorem txt4_le (n g:Nat):(txt4 n g).length≤15:=by
 have h1:=dec8_le (n / 16777216 % 256);have h2:=dec8_le (n / 65536 % 256);have h3:=dec8_le (n / 256 % 256);unfold txt4;split
 ·exact text4_le n
 ·simp;omega
 ·simp;omega
 ·omega

theorem ba_app (a b:List UInt8):(⟨a.toArray⟩:ByteArray)++⟨b.toArray⟩=⟨(a++b).toArray⟩:=by
 refine ba_ext ?_;simp

end Go.Proofs.YtolioccofbhliaaGreatDoor

namespace Go.Proofs.YtolioccofbhliaaGreatDoor
open Go.RowKit

theorem sizeBuilder:(Tryz.prog.info? 188).map (·.size)=some 2:=by kernel_rfl

theorem liesBuilder:liesAt Tryz.prog Tryz.prog.depth 188 (2 / Tryz.prog.cellsOf 188) 0 188 1=true:=by kernel_rfl

theorem infoByte:(Tryz.prog.info? 5).map (fun i=>(i.zero,i.size,i.bytes))=some (some (.int .u8 0),1,1):=by kernel_rfl

end Go.Proofs.YtolioccofbhliaaGreatDoor

namespace Go.Proofs.YtolioccofbhliaaGreatDoor
open Go.RowKit

set_option maxHeartbeats 400000 in
theorem digit_any (c:Int) (w:World):
 Calls Tryz.prog 154 #[.int .u8 c] w fun e w'=>e = .returned (.bool (digitI c))∧w=w':=by
 go_enter Tryz.func154,Tryz.ntmps154
 go_wp2
 all_goals
  go_ret
  exact ⟨ret_bool (by rw [Bool.eq_iff_iff];simp [digitI];omega),rfl⟩

set_option maxHeartbeats 400000 in
theorem letter_any (c:Int) (w:World):
 Calls Tryz.prog 219 #[.int .u8 c] w fun e w'=>e = .returned (.bool (letterI c))∧w=w':=by
 go_enter Tryz.func219,Tryz.ntmps219
 go_wp2
 all_goals
  go_ret
  exact ⟨ret_bool (by rw [Bool.eq_iff_iff];simp [letterI];omega),rfl⟩

set_option maxHeartbeats 1000000 in
theorem tokenByte_any (c:Int) (w:World):
 Calls Tryz.prog 177 #[.int .u8 c] w fun e w'=>e = .returned (.bool (tokI c))∧w=w':=by
 go_enter Tryz.func177,Tryz.ntmps177
 go_wp2_with (first | (go_at_call 219;refine (letter_any _ _).mono ?_;rintro e w' ⟨rfl,rfl⟩) | (go_at_call 154;refine (digit_any _ _).mono ?_;rintro e w' ⟨rfl,rfl⟩))
 all_goals
  go_ret
  exact ⟨ret_bool (by simp [tokI,signI, *]),rfl⟩

end Go.Proofs.YtolioccofbhliaaGreatDoor

namespace Go.Proofs.YtolioccofbhliaaGreatDoor
open Go.RowKit

theorem nameV_bad {l:List UInt8} (h:l=[]∨allN l=false∨coded l=true):nameV l=none:=by rw [nameV,if_pos h]

theorem nameV_name {l:List UInt8} (h0:l≠[]) (h1:allN l=true) (h2:coded l=false) (h3:numberedV l=false):nameV l=some l:=by simp [nameV,h0,h1,h2,h3]

theorem nameV_num {l:List UInt8} (h0:l≠[]) (h1:allN l=true) (h2:coded l=false) (h3:numberedV l=true):nameV l=(fourV l).map text4:=by simp [nameV,h0,h1,h2,h3]

theorem fourN_lt: ∀ (r h:Nat) (l:List UInt8) (n:Nat),r≤4→h<2 ^ (8*(4 - r))→fourN r h l=some n→n<4294967296
 | 0,_,_,_,_,_,e=>by cases e
 | r+1,h,l,n,hr,hh,e=>by
   have ep:2 ^ (8*(4 - (r+1)))*2 ^ (8*(r+1))=4294967296:=by
    rw [← Nat.pow_add,show 8*(4 - (r+1))+8*(r+1)=32 by omega]
   rw [fourN] at e;split at e
   ·cases e
   ·split at e
    ·split at e
     ·cases e
     ·refine fourN_lt r _ _ n (by omega) ?_ e
      have e2:8*(4 - r)=8*(4 - (r+1))+8:=by omega
      rw [e2,Nat.pow_add]
      omega
    ·split at e
     ·rename_i m _ _ hm
      cases e
      have h1:(h+1)*2 ^ (8*(r+1))≤2 ^ (8*(4 - (r+1)))*2 ^ (8*(r+1)):=Nat.mul_le_mul_right _ hh;rw [ep,Nat.add_mul,Nat.one_mul] at h1
      omega
     ·cases e

theorem fourV_lt {l:List UInt8} {n:Nat} (h:fourV l=some n):n<4294967296:=fourN_lt 4 0 _ n (by omega) (by decide) h

end Go.Proofs.YtolioccofbhliaaGreatDoor

namespace Go.Proofs.YtolioccofbhliaaGreatDoor
open Go.RowKit

theorem plainB_le {l:List UInt8} {n:Nat} (h:plainB l=some n):n≤255:=by
 unfold plainB at h;split at h
 ·cases h
 ·split at h
  ·cases h
  ·cases h;omega

end Go.Proofs.YtolioccofbhliaaGreatDoor

namespace Go.Proofs.YtolioccofbhliaaGreatDoor
open Go.RowKit

theorem infoU16:(Tryz.prog.info? 281).map (fun i=>(i.zero,i.size,i.bytes))=some (some (.int .u16 0),1,2):=by kernel_rfl

def cells16 (l:List Nat):List Value:=l.map fun (n:Nat)=>Value.int .u16 (n:Int)

theorem cells16_app (a b:List Nat):cells16 (a++b)=cells16 a++cells16 b:=by simp [cells16]

theorem cells16_len (a:List Nat):(cells16 a).length=a.length:=by simp [cells16]

theorem own_form {w:World} {base:Nat} {e:TypeId} {size n:Nat} {v:Value} {xs:List Value} (h:w.ownsRow base e size v n xs): ∃ a cap,v = .slice a n cap:=by
 rcases h.2 with ⟨rfl,rfl⟩ | ⟨g,cap,cur,rfl,_⟩
 ·exact ⟨none,0,rfl⟩
 ·exact ⟨_,cap,rfl⟩

theorem piecesN_done {e:Bool} {f:Nat} {out:List Nat} {l:List UInt8}:piecesN e f out l false=some out:=by cases f<;>rfl

theorem own_kept {w w':World} {base:Nat} {e:TypeId} {size n:Nat} {v:Value} {xs:List Value} (h:w.ownsRow base e size v n xs) (hb:Below w.heap.size w w'):w'.ownsRow base e size v n xs:=by
 refine ⟨h.1,?_⟩
 rcases h.2 with h | ⟨g,cap,cur,hv,h1,h2,h3⟩
 ·exact .inl h
 ·refine .inr ⟨g,cap,cur,hv,h1,?_,h3⟩
  have hlt:g<w.heap.size:=by
   rcases Nat.lt_or_ge g w.heap.size with h' | h'
   ·exact h'
   ·rw [Array.getElem?_eq_none h'] at h2;cases h2
  rw [hb.block g hlt];exact h2

theorem own_nil (w:World) (base:Nat) (e:TypeId):w.ownsRow base e 1 (.slice none 0 0) 0 []:=⟨rfl,.inl ⟨rfl,rfl⟩⟩

end Go.Proofs.YtolioccofbhliaaGreatDoor
