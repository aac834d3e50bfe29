/-
  Walks and plain facts that this claim leans on, put together out of 15 texts: Pa, Pb, Pf, Pg, Ph, Xa, Xb, Xc, Xd, Wa, Wi, Pe, Xe, Wl, Xi.
-/
import Derived.Test.YtpopljcmkbchcaaGreatDoorProg
import Derived.WalkKit
import Derived.Lib.Strings
import Derived.Lib.UnsafeStr
import Derived.Laws.IdiomStrings
import Derived.Laws.AppendOwn
import Derived.Lib.BufferMore
import Derived.Lib.SlTrimSet
import Derived.Lib.Join
import Derived.Lib.IndexMore
import Derived.Laws.OwnMore
import Derived.Below
import Derived.WalkSmall
import Derived.Lib.SmallJoins
import Derived.WalkSpells
import Derived.WalkLawsBesides
import Derived.Laws.BitsAllLaws
import Derived.Lib.Bytealg
import Derived.Deep.QuietTactic
import Derived.BigQuiet
import Derived.Deep.LoopGhost
import Derived.Deep.MidRow
set_option linter.unusedSimpArgs false
set_option linter.unusedVariables false

namespace Go.Proofs.YtpopljcmkbchcaaGreatDoor
def blankI (c:Int):Bool:=c==9||(c==10||(c==12||(c==13||c==32)))

def digitI (c:Int):Bool:=decide (48≤c)&&decide (c≤57)

def letterI (c:Int):Bool:=(decide (65≤c)&&decide (c≤90))||(decide (97≤c)&&decide (c≤122))

def signI (c:Int):Bool:=c==33||(c==35||(c==36||(c==37||(c==38||(c==39||(c==42||(c==43||(c==45||(c==46||(c==94||(c==95||(c==96||(c==124||c==126)))))))))))))

def tokI (c:Int):Bool:=signI c||(letterI c||digitI c)

theorem hid {p:Prop} (h:p):RowKit.Hid p:=h

theorem ret_bool {a b:Bool} (h:a=b):Ending.returned (.bool a) = .returned (.bool b):=by rw [h]

theorem ret_int {k:IntKind} {a b:Int} (h:a=b):Ending.returned (.int k a) = .returned (.int k b):=by rw [h]

theorem ret_ib {k:IntKind} {a b:Int} {x y:Bool} (h:a=b) (g:x=y):Ending.returned (.tuple #[.int k a,.bool x]) = .returned (.tuple #[.int k b,.bool y]):=by rw [h,g]

end Go.Proofs.YtpopljcmkbchcaaGreatDoor

namespace Go.Proofs.YtpopljcmkbchcaaGreatDoor
theorem take_snoc (s:ByteArray) (k:Nat) (h:k<s.size):s.data.toList.take (k+1)=s.data.toList.take k++[s[k]]:=by
 rw [List.take_succ_eq_append_getElem (by simpa using h)];rfl

theorem take_all (s:ByteArray) (k:Nat) (h: ¬ k<s.size):s.data.toList.take k=s.data.toList:=
 List.take_of_length_le (by simp;omega)

end Go.Proofs.YtpopljcmkbchcaaGreatDoor

namespace Go.Proofs.YtpopljcmkbchcaaGreatDoor
open Go.RowKit

def rowIs (w:World) (g:Nat) (e:TypeId) (l:List UInt8):Prop:=
 ∃ (C:Array Value) (fz:Nat×Nat),w.heap[g]? = some (.cells C e fz)∧l.length≤fz.1 ∧ ∀ j (h:j<l.length),C[j]? = some (.int .u8 (l[j].toNat:Int))

theorem rowIs.cell {w:World} {g:Nat} {e:TypeId} {l:List UInt8} (h:rowIs w g e l) (j:Nat) (hj:j<l.length):w.cell? ⟨g,j,none⟩=some (.int .u8 (l[j].toNat:Int)):=by
 obtain ⟨C,fz,hg,_,hc⟩:=h
 rw [Lib.cell_of_heap hg];exact hc j hj

theorem rowIs.frozen {w:World} {g:Nat} {e:TypeId} {l:List UInt8} (h:rowIs w g e l) (j:Nat) (hj:j<l.length):w.frozen? ⟨g,j,none⟩=false:=by
 obtain ⟨C,fz,hg,hf,_⟩:=h
 simp [World.frozen?,hg]
 omega

theorem rowIs.set {w:World} {g:Nat} {e:TypeId} {l:List UInt8} (h:rowIs w g e l) (j:Nat) (c:UInt8):rowIs (w.setCell ⟨g,j,none⟩ (.int .u8 (c.toNat:Int))) g e (l.set j c):=by
 obtain ⟨C,fz,hg,hf,hc⟩:=h
 refine ⟨_,fz,Lib.heap_setCell_same hg _,by simpa using hf,?_⟩
 intro i hi;have hi':i<l.length:=by simpa using hi
 have hCi:=hc i hi';have hlt:i<C.size:=(Array.getElem?_eq_some_iff.1 hCi).1;by_cases e:j=i
 ·subst e;simp [hlt]
 ·simp [Array.getElem?_setIfInBounds,e,hCi]

theorem rowIs.drew {w:World} {g:Nat} {e:TypeId} {l:List UInt8} (h:rowIs w g e l):rowIs w.drew g e l:=h

theorem rowIs_bytes (w:World) (e:TypeId) (s:ByteArray) (cap:Nat) (hcap:s.size≤cap):rowIs (w.drew.alloc (.cells (bytesRow s cap) e ((bytesRow s cap).size,(bytesRow s cap).size+1))) w.heap.size e s.data.toList:=by
 refine ⟨_,_,heap_alloc_new w.drew _,?_,?_⟩
 ·simp [bytesRow]
 ·intro j hj
  have hj':j<s.data.size:=by simpa using hj
  rw [bytesRow_at s cap j hj'];simp

theorem rowIs.string {P:Program} {w:World} {g cap:Nat} {e src dst:TypeId} {l:List UInt8} (h:rowIs w g e l) (hs:P.underlying src=some (.slice e)) (he:P.underlying e=some (.int .u8)) (hd:P.underlying dst=some .string):
 (convert src dst (.slice (some ⟨g,0,none⟩) l.length cap)).run P w = .ok (.string ⟨l.toArray⟩) w:=by
 refine run_convert_bytes_back w src dst e ⟨g,0,none⟩ cap l hs he hd fun j hj=> ?_
 have:=h.cell j hj;rw [Addr.add_lit];simpa using this

def lowC (c:UInt8):UInt8:=if 65≤c.toNat∧c.toNat≤90 then UInt8.ofNat (c.toNat+32) else c

def low (l:List UInt8):List UInt8:=l.map lowC

theorem lowC_yes (c:UInt8) (h:65≤c.toNat∧c.toNat≤90):((lowC c).toNat:Int)=(c.toNat:Int)+32:=by
 unfold lowC;rw [if_pos h];have:(UInt8.ofNat (c.toNat+32)).toNat=(c.toNat+32) % 256:=by simp
 rw [this];omega

theorem lowC_no (c:UInt8) (h: ¬ (65≤c.toNat∧c.toNat≤90)):lowC c=c:=by unfold lowC;rw [if_neg h]

def lowTo (l:List UInt8) (k:Nat):List UInt8:=(l.take k).map lowC++l.drop k

theorem lowTo_length (l:List UInt8) (k:Nat):(lowTo l k).length=l.length:=by simp [lowTo];omega

theorem lowTo_at (l:List UInt8) (k:Nat) (h:k<l.length) (h':k<(lowTo l k).length):(lowTo l k)[k]=l[k]:=by
 simp [lowTo,List.getElem_append,List.length_take]
 have:min k l.length=k:=by omega
 simp [this]

theorem lowTo_succ (l:List UInt8) (k:Nat) (h:k<l.length):lowTo l (k+1)=(lowTo l k).set k (lowC l[k]):=by
 have e1:(l.take k).length=k:=by simp;omega
 unfold lowTo;rw [List.take_succ_eq_append_getElem h,List.drop_eq_getElem_cons h,List.map_append,List.set_append_right _ _ (by simp;omega)];have e2:k - (List.map lowC (List.take k l)).length=0:=by simp;omega
 rw [e2,List.append_assoc];rfl

theorem lowTo_zero (l:List UInt8):lowTo l 0=l:=by simp [lowTo]

theorem lowTo_all (l:List UInt8):lowTo l l.length=low l:=by simp [lowTo,low]

end Go.Proofs.YtpopljcmkbchcaaGreatDoor

namespace Go.Proofs.YtpopljcmkbchcaaGreatDoor
def blC (c:UInt8):Bool:=blankI c.toNat

def strip (l:List UInt8):List UInt8:=(((l.dropWhile blC).reverse).dropWhile blC).reverse

theorem dropBl_all (A X:List UInt8) (h:A.all blC=true):(A++X).dropWhile blC=X.dropWhile blC:=by
 induction A with
 | nil=>rfl
 | cons a A ih=>
   simp only [List.all_cons,Bool.and_eq_true] at h
   simp [List.dropWhile_cons,h.1,ih h.2]

theorem dropWhile_stop (c:UInt8) (X:List UInt8) (h:blC c=false):(c::X).dropWhile blC=c::X:=by simp [List.dropWhile_cons,h]

theorem all_reverse (A:List UInt8) (h:A.all blC=true):A.reverse.all blC=true:=by simpa using h

theorem strip_parts (A M B:List UInt8) (hA:A.all blC=true) (hB:B.all blC=true) (hM:M=[]∨(∃ c r,M=c::r∧blC c=false) ∧ ∃ r c,M=r++[c]∧blC c=false):strip (A++M++B)=M:=by
 unfold strip;rw [List.append_assoc,dropBl_all A _ hA]
 rcases hM with rfl | ⟨⟨c,r,e1,h1⟩,⟨r2,c2,e2,h2⟩⟩
 ·have:B.dropWhile blC=[]:=by
   have:=dropBl_all B [] hB;simpa using this
  simp [this]
 ·rw [e1,List.cons_append,dropWhile_stop _ _ h1,← List.cons_append,← e1,List.reverse_append,dropBl_all _ _ (all_reverse B hB),e2,List.reverse_append]
  simp [dropWhile_stop,h2,List.dropWhile_cons]

theorem strip_between (l:List UInt8) (k m:Nat) (hkm:k≤m) (hm:m≤l.length) (hA:(l.take k).all blC=true) (hB:(l.drop m).all blC=true)
 (h:k=m ∨ ∃ h1:k<l.length,∃ h2:m - 1<l.length,k<m∧blC l[k]=false∧blC l[m - 1]=false):strip l=(l.take m).drop k:=by
 have e:l=l.take k++(l.take m).drop k++l.drop m:=by
  have h1:l.take k=(l.take m).take k:=by rw [List.take_take];congr 1;omega
  rw [h1,List.take_append_drop,List.take_append_drop]
 conv=>lhs;rw [e]
 refine strip_parts _ _ _ hA hB ?_;rcases h with rfl | ⟨h1,h2,hlt,c1,c2⟩
 ·left;simp
 ·right
  refine ⟨⟨l[k],(l.take m).drop (k+1),?_,c1⟩,⟨(l.take (m - 1)).drop k,l[m - 1],?_,c2⟩⟩
  ·rw [List.drop_eq_getElem_cons (by simp;omega)];simp
  ·have e2:l.take m=l.take (m - 1)++[l[m - 1]]:=by
    have:=List.take_succ_eq_append_getElem h2
    rwa [show m - 1+1=m by omega] at this
   rw [e2,List.drop_append]
   have:k - (l.take (m - 1)).length=0:=by simp;omega
   rw [this];rfl

end Go.Proofs.YtpopljcmkbchcaaGreatDoor

namespace Go.Proofs.YtpopljcmkbchcaaGreatDoor
def ten (n d:Int):Int:=if (9223372036854775807 - d) / 10<n then 9223372036854775807 else n*10+d

def numI (l:List UInt8):Int:=l.foldl (fun n c=>ten n ((c.toNat:Int) - 48)) 0

def digP (c:UInt8):Bool:=digitI c.toNat

def intV (l:List UInt8):Int:=if l.all digP && !l.isEmpty then numI l else 0

def intOk (l:List UInt8):Bool:=l.all digP && !l.isEmpty

theorem numI_snoc (l:List UInt8) (c:UInt8):numI (l++[c])=ten (numI l) ((c.toNat:Int) - 48):=by simp [numI]

theorem ten_range (n d:Int) (h:0≤n∧n≤9223372036854775807) (hd:0≤d∧d≤9):0≤ten n d∧ten n d≤9223372036854775807:=by
 unfold ten;split<;>omega

theorem numI_range (l:List UInt8) (h:l.all digP=true):0≤numI l∧numI l≤9223372036854775807:=by
 suffices H: ∀ (l:List UInt8) (n:Int),0≤n∧n≤9223372036854775807→l.all digP=true→0≤l.foldl (fun n c=>ten n ((c.toNat:Int) - 48)) n∧l.foldl (fun n c=>ten n ((c.toNat:Int) - 48)) n≤9223372036854775807 from H l 0 (by omega) h
 intro l
 induction l with
 | nil=>intro n h _;exact h
 | cons c l ih=>
   intro n hn hall;simp only [List.all_cons,Bool.and_eq_true] at hall
   refine ih _ (ten_range n _ hn ?_) hall.2;have:=hall.1;simp [digP,digitI] at this
   omega

end Go.Proofs.YtpopljcmkbchcaaGreatDoor

namespace Go.Proofs.YtpopljcmkbchcaaGreatDoor
structure Hd where
 name:List UInt8
 value:List UInt8
deriving DecidableEq

def isN (n:List UInt8) (h:Hd):Bool:=low h.name==low n

def selV (L:List Hd) (n:List UInt8):List (List UInt8):=(L.filter (isN n)).map (·.value)

def getT (L:List Hd) (n:List UInt8):List UInt8:=Lib.join (selV L n) [44,32]

def getB (L:List Hd) (n:List UInt8):Bool:= !(selV L n).isEmpty

theorem selV_snoc (L:List Hd) (h:Hd) (n:List UInt8):selV (L++[h]) n=selV L n++(if isN n h then [h.value] else []):=by
 unfold selV;rw [List.filter_append,List.map_append]
 by_cases hh:isN n h=true<;>simp [hh]

def clos:List UInt8→Nat
 | []=>0
 | [c]=>if c=34 then 0 else if c=92 then 2 else 1
 | c::d::r=>if c=34 then 0 else if c=92 then 2+clos r else 1+clos (d::r)

def cutQ:Bool→List UInt8→Option Nat
 | _,[]=>none
 | false,c::r=>if c=44 then some 0 else if c=34 then (cutQ true r).map (· + 1) else (cutQ false r).map (· + 1)
 | true,[_]=>none
 | true,c::d::r=>if c=34 then (cutQ false (d::r)).map (· + 1) else if c=92 then (cutQ true r).map (· + 2) else (cutQ true (d::r)).map (· + 1)

theorem clos_quote (r:List UInt8):clos (34::r)=0:=by cases r<;>simp [clos]

theorem clos_back (r:List UInt8):clos (92::r)=2+clos (r.drop 1):=by cases r<;>simp [clos]

theorem clos_other (c:UInt8) (r:List UInt8) (h1:c≠34) (h2:c≠92):clos (c::r)=1+clos r:=by cases r<;>simp [clos,h1,h2]

theorem cutQ_comma (r:List UInt8):cutQ false (44::r)=some 0:=by simp [cutQ]

theorem cutQ_open (r:List UInt8):cutQ false (34::r)=(cutQ true r).map (· + 1):=by simp [cutQ]

theorem cutQ_other (c:UInt8) (r:List UInt8) (h1:c≠44) (h2:c≠34):cutQ false (c::r)=(cutQ false r).map (· + 1):=by simp [cutQ,h1,h2]

theorem cutQ_close (r:List UInt8):cutQ true (34::r)=(cutQ false r).map (· + 1):=by cases r<;>simp [cutQ]

theorem cutQ_back (r:List UInt8):cutQ true (92::r)=(cutQ true (r.drop 1)).map (· + 2):=by cases r<;>simp [cutQ]

theorem cutQ_in (c:UInt8) (r:List UInt8) (h1:c≠34) (h2:c≠92):cutQ true (c::r)=(cutQ true r).map (· + 1):=by cases r<;>simp [cutQ,h1,h2]

theorem map_map_add (o:Option Nat) (a b:Nat):(o.map (· + a)).map (· + b)=o.map (· + (a+b)):=by
 cases o<;>simp [Nat.add_assoc]

theorem cutQ_true: ∀ (n:Nat) (r:List UInt8),r.length≤n→cutQ true r=(cutQ false (r.drop (clos r+1))).map (· + (clos r+1)):=by
 intro n
 induction n with
 | zero=>
   intro r hr;have:r=[]:=List.eq_nil_of_length_eq_zero (by omega)
   subst this;rfl
 | succ n ih=>
   intro r hr
   cases r with
   | nil=>rfl
   | cons c r=>
     simp at hr;by_cases h1:c=34
     ·subst h1;rw [cutQ_close,clos_quote];rfl
     ·by_cases h2:c=92
      ·subst h2
       rw [cutQ_back,clos_back,ih (r.drop 1) (by simp;omega),map_map_add,List.drop_drop]
       rw [show 2+clos (r.drop 1)+1=(1+(clos (r.drop 1)+1))+1 by omega,List.drop_succ_cons]
       congr 2
       funext x;omega
      ·rw [cutQ_in c r h1 h2,clos_other c r h1 h2,ih r (by omega),map_map_add]
       rw [show 1+clos r+1=(clos r+1)+1 by omega,List.drop_succ_cons]

theorem cutQ_false_open (r:List UInt8):cutQ false (34::r)=(cutQ false (r.drop (clos r+1))).map (· + (clos r+2)):=by
 rw [cutQ_open,cutQ_true r.length r (Nat.le_refl _),map_map_add]

theorem cutQ_lt: ∀ (n:Nat) (q:Bool) (l:List UInt8) (k:Nat),l.length≤n→cutQ q l=some k→k<l.length:=by
 intro n
 induction n with
 | zero=>
   intro q l k hl h;have:l=[]:=List.eq_nil_of_length_eq_zero (by omega)
   subst this;cases q<;>simp [cutQ] at h
 | succ n ih=>
   intro q l k hl h
   cases l with
   | nil=>cases q<;>simp [cutQ] at h
   | cons c r=>
     simp at hl;have step: ∀ (q:Bool) (r':List UInt8) (a:Nat),r'.length+a≤r.length+1→1≤a→(cutQ q r').map (· + a)=some k→k<(c::r).length:=by
      intro q r' a ha ha1 hk;obtain ⟨j,hj,rfl⟩:=Option.map_eq_some_iff.1 hk
      have:=ih q r' j (by omega) hj
      simp;omega
     cases q with
     | false=>
       by_cases h1:c=44
       ·subst h1;rw [cutQ_comma] at h;simp at h;subst h;simp
       ·by_cases h2:c=34
        ·subst h2;rw [cutQ_open] at h;exact step true r 1 (by omega) (by omega) h
        ·rw [cutQ_other c r h1 h2] at h;exact step false r 1 (by omega) (by omega) h
     | true=>
       by_cases h1:c=34
       ·subst h1;rw [cutQ_close] at h;exact step false r 1 (by omega) (by omega) h
       ·by_cases h2:c=92
        ·subst h2;rw [cutQ_back] at h
         cases r with
         | nil=>simp [cutQ] at h
         | cons d r=>exact step true r 2 (by simp) (by omega) h
        ·rw [cutQ_in c r h1 h2] at h;exact step true r 1 (by omega) (by omega) h

def pcsN:Nat→List UInt8→List (List UInt8)
 | 0,l=>[l]
 | f+1,l=>match cutQ false l with
   | none=>[l]
   | some k=>l.take k::pcsN f (l.drop (k+1))

def pcs (l:List UInt8):List (List UInt8):=pcsN l.length l

theorem pcsN_succ: ∀ (g:Nat) (m:List UInt8),m.length≤g→pcsN (g+1) m=pcsN g m:=by
 intro g
 induction g with
 | zero=>
   intro m hm;have:m=[]:=List.eq_nil_of_length_eq_zero (by omega)
   subst this;simp [pcsN,cutQ]
 | succ g ihg=>
   intro m hm;rw [pcsN,pcsN]
   cases hc:cutQ false m with
   | none=>rfl
   | some k=>
     have:=cutQ_lt m.length false m k (Nat.le_refl _) hc;simp only;rw [ihg _ (by simp;omega)]

theorem pcsN_more (f:Nat) (l:List UInt8) (hl:l.length≤f):pcsN f l=pcsN l.length l:=by
 obtain ⟨d,rfl⟩: ∃ d,f=l.length+d:=⟨f - l.length,by omega⟩
 clear hl
 induction d with
 | zero=>rfl
 | succ d ih=>rw [← Nat.add_assoc,pcsN_succ _ _ (by omega),ih]

theorem pcs_none (l:List UInt8) (h:cutQ false l=none):pcs l=[l]:=by
 unfold pcs
 cases hn:l.length with
 | zero=>simp [pcsN]
 | succ n=>simp [pcsN,h]

theorem pcs_some (l:List UInt8) (k:Nat) (h:cutQ false l=some k):pcs l=l.take k::pcs (l.drop (k+1)):=by
 have hk:=cutQ_lt l.length false l k (Nat.le_refl _) h;unfold pcs
 cases hn:l.length with
 | zero=>omega
 | succ n=>
   simp only [pcsN,h]
   rw [pcsN_more n _ (by simp;omega)]

def trimB (l:List UInt8):List UInt8:=Lib.trimS l [9,32]

def splitV (L:List Hd) (n:List UInt8):List (List UInt8):=(pcs (getT L n)).map trimB

def bndV (l:List UInt8):Int:=if l=[] then -1 else intV l

def bndOk (l:List UInt8):Bool:=l==[]||intOk l

end Go.Proofs.YtpopljcmkbchcaaGreatDoor

namespace Go.Proofs.YtpopljcmkbchcaaGreatDoor
def Dec (n:Nat) (T:List UInt8):Prop:=T≠[]∧T.all digP=true∧numI T=(n:Int)∧T.length≤40

theorem Dec.no {n:Nat} {T:List UInt8} (h:Dec n T) (c:UInt8) (hc:digP c=false):c ∉ T:=by
 intro hm;have:=List.all_eq_true.1 h.2.1 c hm;rw [hc] at this
 cases this

theorem Dec.int {n:Nat} {T:List UInt8} (h:Dec n T):bndV T=n∧bndOk T=true:=by
 have e:(T.all digP && !T.isEmpty)=true:=by
  rw [h.2.1];have:=h.1
  cases T with
  | nil=>exact absurd rfl this
  | cons a b=>rfl
 constructor
 ·unfold bndV intV
  rw [if_neg h.1,if_pos e,h.2.2.1]
 ·unfold bndOk intOk
  rw [e];simp

end Go.Proofs.YtpopljcmkbchcaaGreatDoor

namespace Go.Proofs.YtpopljcmkbchcaaGreatDoor
open Go.RowKit

def cellsT (L:List (List UInt8)):List Value:=L.map fun x=>Value.string ⟨x.toArray⟩

theorem cellsT_app (a b:List (List UInt8)):cellsT (a++b)=cellsT a++cellsT b:=by simp [cellsT]

theorem cellsT_one (X:ByteArray):cellsT [X.data.toList]=[.string X]:=by
 show [Value.string ⟨X.data.toList.toArray⟩]=_;rw [Lib.mk_data]

def cellsH (L:List Hd):List Value:=L.flatMap fun h=>[.string ⟨h.name.toArray⟩,.string ⟨h.value.toArray⟩]

theorem cellsH_app (a b:List Hd):cellsH (a++b)=cellsH a++cellsH b:=by simp [cellsH]

theorem cellsH_len (a:List Hd):(cellsH a).length=a.length*2:=by
 induction a with
 | nil=>rfl
 | cons h a ih=>simp [cellsH] at ih ⊢;omega

theorem cellsH_one (h:Hd):cellsH [h]=[.string ⟨h.name.toArray⟩,.string ⟨h.value.toArray⟩]:=rfl

theorem cellsH_at (L:List Hd): ∀ j (h:j<L.length),(cellsH L)[j*2]? = some (.string ⟨L[j].name.toArray⟩)∧(cellsH L)[j*2+1]? = some (.string ⟨L[j].value.toArray⟩):=by
 induction L with
 | nil=>intro j h;simp at h
 | cons a L ih=>
   intro j h;have e:cellsH (a::L)=Value.string ⟨a.name.toArray⟩::Value.string ⟨a.value.toArray⟩::cellsH L:=rfl
   cases j with
   | zero=>rw [e];exact ⟨rfl,rfl⟩
   | succ j=>
     have:=ih j (by simpa using h)
     rw [e,show (j+1)*2=j*2+1+1 by omega]
     simpa using this

def TxL (w:World) (b off:Nat) (L:List (List UInt8)):Prop:= ∀ j (h:j<L.length),w.cell? ⟨b,off+j,none⟩=some (.string ⟨L[j].toArray⟩)

def TxAt (w:World) (v:Value) (L:List (List UInt8)):Prop:=
 ∃ a cap,v = .slice a L.length cap∧L.length≤cap∧cap≤maxLen ∧ ∀ j (hj:j<L.length),∃ b off,a=some ⟨b,off,none⟩∧w.cell? ⟨b,off+j,none⟩=some (.string ⟨L[j].toArray⟩)

theorem TxAt.view {w:World} {v:Value} {L:List (List UInt8)} (h:TxAt w v L): ∃ a cap,v = .slice a L.length cap∧L.length≤cap∧cap≤maxLen ∧ ∀ j (hj:j<L.length),∃ b off,a=some ⟨b,off,none⟩∧w.cell? ⟨b,off+j,none⟩=some (.string ⟨L[j].toArray⟩):=h

theorem tx_of {w:World} {b off cap:Nat} {L:List (List UInt8)} (h1:L.length≤cap) (h2:cap≤maxLen) (h:TxL w b off L):TxAt w (.slice (some ⟨b,off,none⟩) L.length cap) L:=
 ⟨_,cap,rfl,h1,h2,fun j hj=>⟨b,off,rfl,h j hj⟩⟩

theorem tx_nil (w:World):TxAt w (.slice none 0 0) []:=⟨none,0,rfl,Nat.le_refl _,by decide,fun j hj=>by simp at hj⟩

def HdS (w:World) (b off:Nat) (L:List Hd):Prop:=
 ∀ j (h:j<L.length),w.cell? ⟨b,off+j*2,none⟩=some (.string ⟨L[j].name.toArray⟩)∧w.cell? ⟨b,off+j*2+1,none⟩=some (.string ⟨L[j].value.toArray⟩)

def HdAt (w:World) (v:Value) (L:List Hd):Prop:=
 ∃ a cap,v = .slice a L.length cap∧L.length≤cap∧cap≤maxLen ∧ ∀ j (hj:j<L.length),∃ b off,a=some ⟨b,off,none⟩∧w.cell? ⟨b,off+j*2,none⟩=some (.string ⟨L[j].name.toArray⟩)∧w.cell? ⟨b,off+j*2+1,none⟩=some (.string ⟨L[j].value.toArray⟩)

theorem HdAt.view {w:World} {v:Value} {L:List Hd} (h:HdAt w v L): ∃ a cap,v = .slice a L.length cap∧L.length≤cap∧cap≤maxLen ∧ ∀ j (hj:j<L.length),∃ b off,a=some ⟨b,off,none⟩∧w.cell? ⟨b,off+j*2,none⟩=some (.string ⟨L[j].name.toArray⟩)∧w.cell? ⟨b,off+j*2+1,none⟩=some (.string ⟨L[j].value.toArray⟩):=h

theorem hd_of {w:World} {b off cap:Nat} {L:List Hd} (h1:L.length≤cap) (h2:cap≤maxLen) (h:HdS w b off L):HdAt w (.slice (some ⟨b,off,none⟩) L.length cap) L:=
 ⟨_,cap,rfl,h1,h2,fun j hj=>⟨b,off,rfl,h j hj⟩⟩

theorem hd_nil (w:World):HdAt w (.slice none 0 0) []:=⟨none,0,rfl,Nat.le_refl _,by decide,fun j hj=>by simp at hj⟩

theorem HdS.kept {w w':World} {b off:Nat} {L:List Hd} (h:HdS w b off L) (hb:Below w.heap.size w w'):HdS w' b off L:=fun j hj=>by
 have h1:=h j hj;exact ⟨(hb.cell (World.block_lt_of_cell? w _ h1.1)).trans h1.1,(hb.cell (World.block_lt_of_cell? w _ h1.2)).trans h1.2⟩

theorem TxL.kept {w w':World} {b off:Nat} {L:List (List UInt8)} (h:TxL w b off L) (hb:Below w.heap.size w w'):TxL w' b off L:=fun j hj=>by
 have h1:=h j hj;exact (hb.cell (World.block_lt_of_cell? w _ h1)).trans h1

theorem HdAt.kept {w w':World} {v:Value} {L:List Hd} (h:HdAt w v L) (hb:Below w.heap.size w w'):HdAt w' v L:=by
 obtain ⟨a,cap,h1,h2,h3,h4⟩:=h
 refine ⟨a,cap,h1,h2,h3,fun j hj=> ?_⟩
 obtain ⟨b,off,e,c1,c2⟩:=h4 j hj
 exact ⟨b,off,e,(hb.cell (World.block_lt_of_cell? w _ c1)).trans c1,(hb.cell (World.block_lt_of_cell? w _ c2)).trans c2⟩

theorem TxAt.kept {w w':World} {v:Value} {L:List (List UInt8)} (h:TxAt w v L) (hb:Below w.heap.size w w'):TxAt w' v L:=by
 obtain ⟨a,cap,h1,h2,h3,h4⟩:=h
 refine ⟨a,cap,h1,h2,h3,fun j hj=> ?_⟩
 obtain ⟨b,off,e,c1⟩:=h4 j hj
 exact ⟨b,off,e,(hb.cell (World.block_lt_of_cell? w _ c1)).trans c1⟩

theorem own_txt' {w:World} {B:Nat} {e:TypeId} {v:Value} {L:List (List UInt8)} (h:w.ownsRow B e 1 v L.length (cellsT L)):TxAt w v L:=by
 have h2:=h.2;rcases h2 with ⟨hv,hn⟩ | ⟨g,cap,cur,rfl,hg,hrow,hnc,hcm,hcs,htake⟩
 ·obtain rfl:=List.eq_nil_of_length_eq_zero hn
  rw [hv];exact tx_nil w
 ·refine tx_of hnc hcm fun j hj=> ?_
  rw [Nat.zero_add,h.cellAt j (by omega)]
  simp [cellsT,hj]

theorem own_hd {w:World} {B:Nat} {e:TypeId} {v:Value} {L:List Hd} (h:w.ownsRow B e 2 v L.length (cellsH L)):HdAt w v L:=by
 have h2:=h.2;rcases h2 with ⟨hv,hn⟩ | ⟨g,cap,cur,rfl,hg,hrow,hnc,hcm,hcs,htake⟩
 ·obtain rfl:=List.eq_nil_of_length_eq_zero hn
  rw [hv];exact hd_nil w
 ·refine hd_of hnc hcm fun j hj=> ?_
  rw [Nat.zero_add,h.cellAt _ (by omega),h.cellAt _ (by omega)]
  exact cellsH_at L j hj

theorem own_same {w w':World} {B:Nat} {e:TypeId} {k:Nat} {v:Value} {n:Nat} {xs:List Value} (h:w.ownsRow B e k v n xs) (hb:Below w.heap.size w w'):w'.ownsRow B e k v n xs:=by
 rcases h.2 with h' | ⟨g,cap,cur,hv,hg,hrow,rest⟩
 ·exact ⟨h.1,.inl h'⟩
 ·exact ⟨h.1,.inr ⟨g,cap,cur,hv,hg,(hb.block g (Array.getElem?_eq_some_iff.1 hrow).1).trans hrow,rest⟩⟩

theorem belowT {a b c:World} (h1:Below a.heap.size a b) (h2:Below b.heap.size b c):Below a.heap.size a c:=h1.trans (h2.mono h1.size)

theorem xba {a b:ByteArray} (h:a.data.toList=b.data.toList):a=b:=by
 cases a;cases b;simp at h;simp [h]

theorem xself (b:ByteArray):b=⟨b.data.toList.toArray⟩:=xba rfl

theorem xsize (l:List UInt8):(⟨l.toArray⟩:ByteArray).size=l.length:=by simp [ByteArray.size]

end Go.Proofs.YtpopljcmkbchcaaGreatDoor

namespace Go.Proofs.YtpopljcmkbchcaaGreatDoor
def Closed (X:List UInt8):Prop:= ∀ r,cutQ false (X++r)=(cutQ false r).map (· + X.length)

def bl2 (c:UInt8):Bool:=[9,32].contains c

def Ends (x:List UInt8):Prop:=x≠[]∧(∀ c,x.head? = some c→bl2 c=false)∧(∀ c,x.getLast? = some c→bl2 c=false)

def Put (s:List UInt8) (W:List (List UInt8)):Prop:=
 ∃ (A v x:List UInt8) (Q:List (List UInt8)),s=A++(v++x)∧(∀ r,(pcs (A++r)).map trimB=Q++(pcs r).map trimB)∧Closed (v++x)∧v.all bl2=true∧Ends x∧W=Q++[x]

end Go.Proofs.YtpopljcmkbchcaaGreatDoor

namespace Go.Proofs.YtpopljcmkbchcaaGreatDoor
open Go.RowKit

set_option maxHeartbeats 400000 in
theorem blank_any (c:Int) (w:World):
 Calls Tryz.prog 162 #[.int .u8 c] w fun e w'=>e = .returned (.bool (blankI c))∧w=w':=by
 go_enter Tryz.func162,Tryz.ntmps162
 go_wp2
 all_goals
  go_ret
  exact ⟨ret_bool (by simp [blankI, *]),rfl⟩

set_option maxHeartbeats 400000 in
theorem digit_any (c:Int) (w:World):
 Calls Tryz.prog 158 #[.int .u8 c] w fun e w'=>e = .returned (.bool (digitI c))∧w=w':=by
 go_enter Tryz.func158,Tryz.ntmps158
 go_wp2
 all_goals
  go_ret
  exact ⟨ret_bool (by rw [Bool.eq_iff_iff];simp [digitI];omega),rfl⟩

set_option maxHeartbeats 400000 in
theorem letter_any (c:Int) (w:World):
 Calls Tryz.prog 172 #[.int .u8 c] w fun e w'=>e = .returned (.bool (letterI c))∧w=w':=by
 go_enter Tryz.func172,Tryz.ntmps172
 go_wp2
 all_goals
  go_ret
  exact ⟨ret_bool (by rw [Bool.eq_iff_iff];simp [letterI];omega),rfl⟩

set_option maxHeartbeats 1000000 in
theorem tokenByte_any (c:Int) (w:World):
 Calls Tryz.prog 125 #[.int .u8 c] w fun e w'=>e = .returned (.bool (tokI c))∧w=w':=by
 go_enter Tryz.func125,Tryz.ntmps125
 go_wp2_with (first | (go_at_call 172;refine (letter_any _ _).mono ?_;rintro e w' ⟨rfl,rfl⟩) | (go_at_call 158;refine (digit_any _ _).mono ?_;rintro e w' ⟨rfl,rfl⟩))
 all_goals
  go_ret
  exact ⟨ret_bool (by simp [tokI,signI, *]),rfl⟩

end Go.Proofs.YtpopljcmkbchcaaGreatDoor

namespace Go.Proofs.YtpopljcmkbchcaaGreatDoor
open Go.RowKit

set_option maxHeartbeats 1000000 in
theorem lower_any (s:ByteArray) (w:World) (hs:s.size≤140737488351232):
 Calls Tryz.prog 83 #[.string s] w fun e w'=>e = .returned (.string ⟨(low s.data.toList).toArray⟩)∧Below w.heap.size w w':=by
 have hcv:=run_bytes_of_string (P:=Tryz.prog) w 9 28 5 s Tryz.underlying9 Tryz.underlying28 Tryz.underlying5;have hcap:=grownCap_ge w s.size 0 5;have hr0:=rowIs_bytes w 5 s (grownCap w s.size 0 5) hcap;have hb0:Below w.heap.size w (w.drew.alloc (.cells (bytesRow s (grownCap w s.size 0 5)) 5 ((bytesRow s (grownCap w s.size 0 5)).size,(bytesRow s (grownCap w s.size 0 5)).size+1))):=(Below.refl _ w).drew.alloc (Nat.le_refl _) _
 generalize (w.drew.alloc (.cells (bytesRow s (grownCap w s.size 0 5)) 5 ((bytesRow s (grownCap w s.size 0 5)).size,(bytesRow s (grownCap w s.size 0 5)).size+1)))=w0 at hcv hr0 hb0;generalize grownCap w s.size 0 5=cap at hcv hcap
 go_enter Tryz.func83,Tryz.ntmps83
 go_wp2
 clear hcv
 go_loopw [10] (fun i wr=> ∃ k:Nat,k≤s.size∧i = .int .i64 k∧rowIs wr w.heap.size 5 (lowTo s.data.toList k)∧Below w.heap.size w wr)
  (fun i _=>s.size - (intOf i).toNat)
 case atStart=>exact ⟨0,Nat.zero_le _,rfl,by rw [lowTo_zero];exact hr0,hb0⟩
 case round=>
  obtain ⟨k,hk,rfl,hr,hbw⟩:=hrel
  by_cases hlt:k<s.size
  ·have hl:k<s.data.toList.length:=by simpa using hlt
   have hl':k<(lowTo s.data.toList k).length:=by rw [lowTo_length];exact hl
   have hc:=hr.cell k hl';rw [lowTo_at _ _ hl] at hc;have hf:=hr.frozen k hl';have hsucc:=lowTo_succ s.data.toList k hl;have hat:=lowTo_at s.data.toList k hl hl';generalize s.data.toList[k]=c at hc hsucc hat;have HS:=hid hsucc;have HAt:=hid hat;clear hsucc hat;have hc8:c.toNat<256:=c.toNat_lt;by_cases hu:65≤c.toNat∧c.toNat≤90
   ·have h1:(65:Int)≤(c.toNat:Int):=by omega
    have h2:(c.toNat:Int)≤90:=by omega
    have HL:=hid (lowC_yes c hu);clear hu
    go_wp2
    go_roundw
    case rel=>
     refine ⟨k+1,by omega,by go_num,?_,hbw.setCell (p:=⟨w.heap.size,k,none⟩) (Nat.le_refl _) _⟩;rw [HS.out,← HL.out]
     exact hr.set k _
    case measure=>simp [intOf];omega
   ·have HL:=hid (lowC_no c hu)
    have hu':(c.toNat:Int)<65∨90<(c.toNat:Int):=by omega
    clear hu;rcases hu' with h1 | h1
    all_goals
     go_wp2
     go_roundw
     case rel=>
      refine ⟨k+1,by omega,by go_num,?_,hbw⟩;have e:lowC c=(lowTo s.data.toList k)[k]:=by rw [HL.out,HAt.out]
      rw [HS.out,e,List.set_getElem_self]
      exact hr
     case measure=>simp [intOf];omega
  ·have hk':k=s.data.toList.length:=by simp;omega
   have hr':rowIs wr w.heap.size 5 (low s.data.toList):=by rw [← lowTo_all,← hk'];exact hr
   clear hr hk';have hcv:=hr'.string (P:=Tryz.prog) (src:=28) (dst:=9) (cap:=cap) Tryz.underlying28 Tryz.underlying5 Tryz.underlying9;rw [show (low s.data.toList).length=s.size by simp [low]] at hcv
   go_wp2
   go_ret
   exact ⟨rfl,hbw⟩

end Go.Proofs.YtpopljcmkbchcaaGreatDoor

namespace Go.Proofs.YtpopljcmkbchcaaGreatDoor
theorem drop_cons (s:ByteArray) (k:Nat) (h:k<s.size):s.data.toList.drop k=s[k]::s.data.toList.drop (k+1):=by
 rw [List.drop_eq_getElem_cons (by simpa using h)];rfl

theorem drop_none (s:ByteArray) (k:Nat) (h: ¬ k<s.size):s.data.toList.drop k=[]:=List.drop_eq_nil_iff.2 (by simp;omega)

theorem extract_drop (s:ByteArray) (k:Nat):(s.extract k s.size).data.toList=s.data.toList.drop k:=by
 rw [Lib.extract_data,List.take_of_length_le (by simp)]

end Go.Proofs.YtpopljcmkbchcaaGreatDoor

namespace Go.Proofs.YtpopljcmkbchcaaGreatDoor
open Go.RowKit

theorem byteInt (c:UInt8) (n:Nat) (h:n<256):((c.toNat:Int)==(n:Int))=decide (c=UInt8.ofNat n):=by
 have h1:(UInt8.ofNat n).toNat=n:=by simp [UInt8.toNat_ofNat'];omega
 rw [Bool.eq_iff_iff];simp only [beq_iff_eq,decide_eq_true_eq]
 constructor
 ·intro e;exact UInt8.toNat_inj.1 (by rw [h1];omega)
 ·intro e;rw [e,h1]

theorem byteNe {c:UInt8} {n:Nat} (h:n<256) (e:c≠UInt8.ofNat n):((c.toNat:Int)==(n:Int))=false:=by
 rw [byteInt c n h];simpa using e

set_option maxHeartbeats 1000000 in
theorem closing_any (s:ByteArray) (i:Nat) (w:World) (hs:s.size≤140737488351232) (hi:i<s.size):
 Calls Tryz.prog 180 #[.string s,.int .i64 i] w fun e w'=>e = .returned (.int .i64 ((i+1+clos (s.data.toList.drop (i+1)):Nat):Int))∧w=w':=by
 go_enter Tryz.func180,Tryz.ntmps180
 go_wp2
 go_loop [1] (fun v=> ∃ k:Nat,k≤s.size+1∧v = .int .i64 k∧k+clos (s.data.toList.drop k)=i+1+clos (s.data.toList.drop (i+1))) (fun v=>s.size+2 - (intOf v).toNat)
 case atStart=>exact ⟨i+1,by omega,by go_num,rfl⟩
 case round=>
  obtain ⟨k,hk,rfl,hc⟩:=hrel
  have HC:=hid hc;clear hc;by_cases hlt:k<s.size
  ·have hlt':(k:Int)<(s.size:Int):=by omega
   have HD:=hid (drop_cons s k hlt);by_cases h1:s[k]=34
   ·have h1':(s[k].toNat:Int)=34:=by rw [h1];rfl
    have HR:=hid (show k=i+1+clos (s.data.toList.drop (i+1)) by have:=HC.out;rw [HD.out,h1,clos_quote] at this;omega);clear h1
    go_wp2
    go_ret
    exact ⟨ret_int (by have:=HR.out;omega),rfl⟩
   ·have h1':((s[k].toNat:Int)==34)=false:=byteNe (n:=34) (by omega) h1
    by_cases h2:s[k]=92
    ·have h2':(s[k].toNat:Int)=92:=by rw [h2];rfl
     have HR:=hid (show k+2+clos (s.data.toList.drop (k+2))=i+1+clos (s.data.toList.drop (i+1)) by
      have:=HC.out;rw [HD.out,h2,clos_back,List.drop_drop] at this
      rw [show k+1+1=k+2 by omega] at this;omega)
     clear h1 h2
     go_wp2
     go_round
     case rel=>
      exact ⟨k+2,by omega,by go_num,HR.out⟩
     case measure=>simp [intOf];omega
    ·have h2':((s[k].toNat:Int)==92)=false:=byteNe (n:=92) (by omega) h2
     have HR:=hid (show k+1+clos (s.data.toList.drop (k+1))=i+1+clos (s.data.toList.drop (i+1)) by
      have:=HC.out;rw [HD.out,clos_other _ _ h1 h2] at this;omega)
     clear h1 h2
     go_wp2
     go_round
     case rel=>
      exact ⟨k+1,by omega,by go_num,HR.out⟩
     case measure=>simp [intOf];omega
  ·have hlt':decide ((k:Int)<(s.size:Int))=false:=by rw [decide_eq_false_iff_not];omega
   have HR:=hid (show k=i+1+clos (s.data.toList.drop (i+1)) by
    have:=HC.out;rw [List.drop_eq_nil_of_le (by simp;omega)] at this;simp [clos] at this;omega)
   go_wp2
   go_ret
   exact ⟨ret_int (by have:=HR.out;omega),rfl⟩

theorem clos_le: ∀ (n:Nat) (l:List UInt8),l.length≤n→clos l≤l.length+1:=by
 intro n
 induction n with
 | zero=>
   intro l hl;have:l=[]:=List.eq_nil_of_length_eq_zero (by omega)
   subst this;simp [clos]
 | succ n ih=>
   intro l hl
   cases l with
   | nil=>simp [clos]
   | cons c r=>
     simp at hl;by_cases h1:c=34
     ·subst h1;rw [clos_quote];simp
     ·by_cases h2:c=92
      ·subst h2
       rw [clos_back];have:=ih (r.drop 1) (by simp;omega)
       cases r with
       | nil=>simp [clos]
       | cons d r=>simp at this ⊢;omega
      ·rw [clos_other c r h1 h2]
       have:=ih r (by omega)
       simp;omega

def cutA (l:List UInt8):List UInt8:=match cutQ false l with | none=>l | some k=>l.take k

def cutR (l:List UInt8):List UInt8:=match cutQ false l with | none=>[] | some k=>l.drop (k+1)

def cutB (l:List UInt8):Bool:=(cutQ false l).isSome

theorem xret_ssb {a b c d:ByteArray} {x y:Bool} (h:a=b) (h2:c=d) (g:x=y):Ending.returned (.tuple #[.string a,.string c,.bool x]) = .returned (.tuple #[.string b,.string d,.bool y]):=by rw [h,h2,g]

theorem xext {a:ByteArray} {l:List UInt8} (h:a.data.toList=l):a=⟨l.toArray⟩:=xba h

set_option maxHeartbeats 1000000 in
theorem cutPiece_any (s:ByteArray) (w:World) (hs:s.size≤140737488351232):
 Calls Tryz.prog 132 #[.string s] w fun e w'=>e = .returned (.tuple #[.string ⟨(cutA s.data.toList).toArray⟩,.string ⟨(cutR s.data.toList).toArray⟩,.bool (cutB s.data.toList)])∧Below w.heap.size w w':=by
 go_enter Tryz.func132,Tryz.ntmps132
 go_wp2
 go_loop [5] (fun v=> ∃ k:Nat,k≤s.size+2∧v = .int .i64 k∧cutQ false s.data.toList=(cutQ false (s.data.toList.drop k)).map (· + k)) (fun v=>s.size+3 - (intOf v).toNat)
 case atStart=>exact ⟨0,by omega,by go_num,by simp⟩
 case round=>
  obtain ⟨k,hk,rfl,hc⟩:=hrel
  have HC:=hid hc;clear hc;by_cases hlt:k<s.size
  ·have hlt':(k:Int)<(s.size:Int):=by omega
   have HD:=hid (drop_cons s k hlt);by_cases h1:s[k]=44
   ·have h1':(s[k].toNat:Int)=44:=by rw [h1];rfl
    have HR:=hid (show cutQ false s.data.toList=some k by have:=HC.out;rw [HD.out,h1,cutQ_comma] at this;simpa using this);have hk0:(0:Int)≤(k:Int):=by omega
    have hk1:(k:Int)≤(s.size:Int):=by omega
    have hk2:(k:Int)+1≤(s.size:Int):=by omega
    clear h1
    go_wp2
    go_quiet (fail)
    go_wp2
    go_ret3
    refine ⟨xret_ssb (xext ?_) (xext ?_) ?_,Go.below_drewN (Below.refl _ _) _⟩
    ·rw [cutA,HR.out,Lib.extract_data];simp
    ·rw [cutR,HR.out];exact extract_drop s (k+1)
    ·rw [cutB,HR.out];rfl
   ·have h1':((s[k].toNat:Int)==44)=false:=byteNe (n:=44) (by omega) h1
    by_cases h2:s[k]=34
    ·have h2':(s[k].toNat:Int)=34:=by rw [h2];rfl
     have hcl:clos (s.data.toList.drop (k+1))+(k+1)≤s.size+1:=by have:=clos_le _ (s.data.toList.drop (k+1)) (Nat.le_refl _);simp at this;omega
     have HR:=hid (show cutQ false s.data.toList=(cutQ false (s.data.toList.drop (k+1+clos (s.data.toList.drop (k+1))+1))).map (· + (k+1+clos (s.data.toList.drop (k+1))+1)) by
      have:=HC.out;rw [HD.out,h2,cutQ_false_open,map_map_add,List.drop_drop] at this
      rw [this,show k+1+(clos (s.data.toList.drop (k+1))+1)=k+1+clos (s.data.toList.drop (k+1))+1 by omega,show clos (s.data.toList.drop (k+1))+2+k=k+1+clos (s.data.toList.drop (k+1))+1 by omega])
     clear h1 h2;obtain ⟨q,hq⟩: ∃ q,q=clos (s.data.toList.drop (k+1)):=⟨_,rfl⟩
     rw [← hq] at hcl HR;have HQ:=hid hq;clear hq
     go_wp2_with (go_at_call 180;refine (closing_any s k _ hs hlt).mono ?_;rintro e w' ⟨rfl,rfl⟩;rw [← HQ.out])
     go_round
     case rel=>
      exact ⟨k+1+q+1,by omega,by go_num,HR.out⟩
     case measure=>simp [intOf];omega
    ·have h2':((s[k].toNat:Int)==34)=false:=byteNe (n:=34) (by omega) h2
     have HR:=hid (show cutQ false s.data.toList=(cutQ false (s.data.toList.drop (k+1))).map (· + (k+1)) by
      have:=HC.out;rw [HD.out,cutQ_other _ _ h1 h2,map_map_add] at this
      rw [this,Nat.add_comm 1 k])
     clear h1 h2
     go_wp2
     go_round
     case rel=>
      exact ⟨k+1,by omega,by go_num,HR.out⟩
     case measure=>simp [intOf];omega
  ·have hlt': ¬ (k:Int)<(s.size:Int):=by omega
   have HR:=hid (show cutQ false s.data.toList=none by
    have:=HC.out;rw [List.drop_eq_nil_of_le (by simp;omega)] at this;simpa [cutQ] using this)
   go_wp2
   go_ret3
   refine ⟨xret_ssb (xext ?_) (xext ?_) ?_,Below.refl _ _⟩
   ·rw [cutA,HR.out]
   ·rw [cutR,HR.out]
   ·rw [cutB,HR.out];rfl

end Go.Proofs.YtpopljcmkbchcaaGreatDoor

namespace Go.Proofs.YtpopljcmkbchcaaGreatDoor
open Go.RowKit

set_option maxHeartbeats 400000 in
theorem timesTenAnd_any (n d:Int) (w:World) (h0:0≤n) (h1:n≤9223372036854775807) (h2:0≤d) (h3:d≤9):
 Calls Tryz.prog 159 #[.int .i64 n,.int .i64 d] w fun e w'=>e = .returned (.int .i64 (ten n d))∧w=w':=by
 by_cases h:(9223372036854775807 - d) / 10<n
 ·have HT:=hid (show ten n d=9223372036854775807 by unfold ten;rw [if_pos h])
  go_enter Tryz.func159,Tryz.ntmps159
  go_wp2
  go_ret
  exact ⟨ret_int HT.out.symm,rfl⟩
 ·have HT:=hid (show ten n d=n*10+d by unfold ten;rw [if_neg h])
  have h':n≤(9223372036854775807 - d) / 10:=by omega
  clear h
  go_enter Tryz.func159,Tryz.ntmps159
  go_wp2
  go_ret
  exact ⟨ret_int HT.out.symm,rfl⟩

set_option maxHeartbeats 1000000 in
theorem int_any (s:ByteArray) (w:World) (hs:s.size≤140737488351232):
 Calls Tryz.prog 103 #[.string s] w fun e w'=>e = .returned (.tuple #[.int .i64 (intV s.data.toList),.bool (intOk s.data.toList)])∧w=w':=by
 by_cases he:s.size=0
 ·have hl:s.data.toList=[]:=List.eq_nil_of_length_eq_zero (by simpa using he)
  have he':s.toList.isEmpty=true:=by rw [Lib.toList_data,hl];rfl
  have HV:=hid (show intV s.data.toList=0 by rw [hl];rfl);have HO:=hid (show intOk s.data.toList=false by rw [hl];rfl);clear hl
  go_enter Tryz.func103,Tryz.ntmps103
  go_wp2
  go_ret2
  exact ⟨ret_ib HV.out.symm HO.out.symm,rfl⟩
 ·have hl:s.data.toList.isEmpty=false:=by
   rw [List.isEmpty_eq_false_iff];intro h;apply he;have:=congrArg List.length h;simpa using this
  have he':s.toList.isEmpty=false:=by rw [Lib.toList_data,hl]
  have HL:=hid hl;clear hl
  go_enter Tryz.func103,Tryz.ntmps103
  go_wp2
  go_loop [4,10] (fun n i=> ∃ k:Nat,k≤s.size∧i = .int .i64 k∧(s.data.toList.take k).all digP=true∧n = .int .i64 (numI (s.data.toList.take k))) (fun _ i=>s.size - (intOf i).toNat)
  case atStart=>exact ⟨0,Nat.zero_le _,rfl,rfl,rfl⟩
  case round=>
   obtain ⟨k,hk,rfl,hall,rfl⟩:=hrel
   have hr:=numI_range _ hall;have HA:=hid hall;clear hall;by_cases hlt:k<s.size
   ·have HT:=hid (take_snoc s k hlt)
    have HN:=hid (numI_snoc (s.data.toList.take k) s[k]);generalize numI (s.data.toList.take k)=n at *
    by_cases hd:digitI (s[k].toNat:Int)=true
    ·have hd2:48≤(s[k].toNat:Int)∧(s[k].toNat:Int)≤57:=by simp [digitI] at hd;omega
     obtain ⟨hd3,hd4⟩:=hd2
     go_wp2_with (first | (go_at_call 158;refine (digit_any _ _).mono ?_;rintro e w' ⟨rfl,rfl⟩) | (go_at_call 159;refine (timesTenAnd_any _ _ _ (by omega) (by omega) (by omega) (by omega)).mono ?_;rintro e w' ⟨rfl,rfl⟩))
     go_round
     case rel=>exact ⟨k+1,by omega,by go_num,by rw [HT.out,List.all_append,HA.out];simp [digP,hd],by rw [HT.out,HN.out]⟩
     case measure=>simp [intOf];omega
    ·have hd':digitI (s[k].toNat:Int)=false:=by simpa using hd
     clear hd
     go_wp2_with (go_at_call 158;refine (digit_any _ _).mono ?_;rintro e w' ⟨rfl,rfl⟩)
     go_ret2
     have:s.data.toList.all digP=false:=by
      rw [List.all_eq_false];refine ⟨s[k],?_,by simp [digP,hd']⟩
      have:s[k]=s.data.toList[k]'(by simpa using hlt):=rfl
      rw [this];exact List.getElem_mem _
     exact ⟨ret_ib (by simp [intV,this]) (by simp [intOk,this]),rfl⟩
   ·have ha:=HA.out
    rw [take_all s k hlt] at ha ⊢;have ha':=hid ha;clear ha
    go_wp2
    go_ret2
    exact ⟨ret_ib (by simp [intV,ha'.out,HL.out]) (by simp [intOk,ha'.out,HL.out]),rfl⟩

end Go.Proofs.YtpopljcmkbchcaaGreatDoor

namespace Go.Proofs.YtpopljcmkbchcaaGreatDoor
open Go.RowKit

def hdVal (n v:ByteArray):Value:= .agg #[.string n,.string v]

theorem infoHd:(Tryz.prog.info? 45).map (fun i=>(i.zero,i.size,i.bytes))=some (some (.agg #[.string ByteArray.empty,.string ByteArray.empty]),2,32):=by kernel_rfl

theorem infoTx:(Tryz.prog.info? 9).map (fun i=>(i.zero,i.size,i.bytes))=some (some (.string ByteArray.empty),1,16):=by kernel_rfl

theorem info3 {i:Option TypeInfo} {z:Value} {a b:Nat} (h:i.map (fun i=>(i.zero,i.size,i.bytes))=some (some z,a,b)): ∃ j,i=some j∧j.zero=some z∧j.size=a∧j.bytes=b:=by
 cases i with
 | none=>cases h
 | some j=>
   simp at h;exact ⟨j,rfl,h.1,h.2.1,h.2.2⟩

end Go.Proofs.YtpopljcmkbchcaaGreatDoor
