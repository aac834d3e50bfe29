/- Walks and plain facts. -/
import Derived.Test.YtijpkalkfbejeaaGreatDoorProg
import Derived.WalkKit
import Derived.Lib.Strings
import Derived.Lib.UnsafeStr
import Derived.Laws.IdiomStrings
import Derived.Laws.AppendOwn
import Derived.Lib.BufferMore
import Derived.WalkSpells
import Derived.WalkLawsBesides
import Derived.Lib.FieldsP
import Derived.Lib.DecodeN
import Derived.Lib.IndexMore
import Derived.Lib.Join
import Derived.Lib.SmallJoins
import Derived.Laws.BitsAllLaws
import Derived.Lib.BufferRead
import Derived.Lib.RuneBytes
import Derived.Laws.RangeAny
import Derived.Laws.CopyOwn
import Derived.Laws.ResultCell
import Derived.Deep.MidRow
import Derived.Test.YtijpkalkfbejeaaGreatDoorTie
import Derived.Shelf.Strings.Builder1
import Derived.Shelf.Strings.Builder2
import Derived.Shelf.Strings.OnBuilder
import Derived.Shelf.Strings.Trim
import Derived.Shelf.Small.Utf8
import Derived.Shelf.Small.Bits
import Derived.Shelf.Small.Strs
import Derived.Shelf.Small.Wraps
import Derived.Shelf.Strings.BuilderF
import Derived.Shelf.Strings.BuilderK
import Derived.Shelf.Utf8.RuneCount
import Derived.Shelf.Strings.Builder2Cap
import Derived.Shelf.Strconv.Itoa0
import Derived.Shelf.Strconv.Itoa1
import Derived.Shelf.LaysM
import Derived.Shelf.Strconv.Itoa2
import Derived.Shelf.Strconv.Itoa3
import Derived.Shelf.Strings.Search1
import Derived.Shelf.Strings.Search2
import Derived.Shelf.Strings.Search3
import Derived.Shelf.Strings.Cut
import Derived.Shelf.Strings.Count
import Derived.Shelf.Strings.Shaped
import Derived.Shelf.Sort.Plain
import Derived.Shelf.Strings.LastIndex
import Derived.Shelf.Strings.Prefix
import Derived.Shelf.Strings.Split
import Derived.Shelf.Strings.Replace
import Derived.Shelf.Strings.SplitShaped
import Derived.Shelf.Unicode.Decode
import Derived.Shelf.Strings.Runes
import Derived.Shelf.Strings.RuneCount
import Derived.Shelf.Strings.IndexAny
import Derived.Shelf.Strings.AsciiSet
import Derived.Shelf.Strings.IndexAnyAll
import Derived.Shelf.Strings.Explode
import Derived.Shelf.Unicode.DecodeSlow
import Derived.Shelf.Unicode.DecodeAny
import Derived.Shelf.Strings.FieldsFuncAny
import Derived.Shelf.Strings.FieldsFuncGrows
import Derived.Shelf.Slices.Equal
import Derived.Ground.Names2Prog
import Derived.Shelf.Slices.Clone
import Derived.Shelf.Slices.In.SortNone
import Derived.Shelf.Slices.Empties2
import Derived.Ground.SlgnProg
import Derived.Shelf.SlicesE.Equal
import Derived.Shelf.SlicesE.Clone
import Derived.Lib.Bytealg
import Derived.Lib.FrozenHead2
import Derived.Lib.OthersKept
import Derived.Lib.Builder
import Derived.Laws.OwnMore
import Derived.Below
import Derived.WalkSmall
import Derived.BigRegion
import Derived.BigQuiet
import Derived.Deep.QuietTactic
import Derived.LoopN
import Derived.RegionTactic
import Derived.Shelf.GgClosure.GivesRunes
import Derived.Laws.Shifts
import Derived.Deep.RegionHeld
import Derived.Deep.RegionWith
import Derived.Deep.DeepAppendRoom
import Derived.Laws.BytesString
import Derived.Laws.CopyRow
import Derived.Lib.AppendIntMem
import Derived.Lib.LaidTab
import Derived.Laws.BitsAll
import Derived.Lib.SlTrimSet
import Derived.Lib.IndexBytes
import Derived.Deep.LoopGhost
import Derived.Laws.Runes
import Derived.Deep.WholeRow
import Derived.Deep.RegionLaw
import Derived.Deep.RegionHeldLaw
import Derived.Lib.AppendStr
import Derived.Shelf.Strings.SlTrimAscii
import Derived.Laws.AppendOwnNone
import Derived.Lib.LastIndexByte
import Derived.WalkMore
import Derived.OwnWalk
import Derived.Scope
import Derived.ScopeJumps
import Derived.Lib.IndexAny
import Derived.Lib.Replace
import Derived.Lib.TrimByte
import Derived.Lib.ItoaNum
import Derived.Deep.Cut
import Derived.Sort.OwnSorted
import Derived.Shelf.Spec.SearchS
import Derived.Sort.Walk0
import Derived.Laws.EntriesVeiled
import Derived.Deep.CutRange
import Derived.Stop.LaidErr
import Derived.LaidMore
set_option linter.unusedSimpArgs false
set_option linter.unusedVariables false
set_option maxHeartbeats 16000000
set_option maxRecDepth 100000

namespace Go.Proofs.YtijpkalkfbejeaaGreatDoor
def blankI (c:Int):Bool:=c==9||(c==10||(c==12||(c==13||c==32)))
def digitI (c:Int):Bool:=decide (48<=c)&&decide (c<=57)
def letterI (c:Int):Bool:=(decide (65<=c)&&decide (c<=90))||(decide (97<=c)&&decide (c<=122))
def is16I (c:Int):Bool:=digitI c||((decide (65<=c)&&decide (c<=70))||(decide (97<=c)&&decide (c<=102)))
def val16I (c:Int):Int:=
 if 97<=c/\c<=102 then c - 87 else if 65<=c/\c<=70 then c - 55 else if 48<=c/\c<=57 then c - 48 else 0
theorem hid {p:Prop} (h:p):RowKit.Hid p:=h
theorem ret_bool {a b:Bool} (h:a=b):Ending.returned (.bool a) = .returned (.bool b):=by rw [h]
theorem ret_int {k:IntKind} {a b:Int} (h:a=b):Ending.returned (.int k a) = .returned (.int k b):=by rw [h]
theorem ret_ib {k:IntKind} {a b:Int} {x y:Bool} (h:a=b) (g:x=y):Ending.returned (.tuple #[.int k a,.bool x]) = .returned (.tuple #[.int k b,.bool y]):=by rw [h,g]
theorem take_snoc (s:ByteArray) (k:Nat) (h:k<s.size):s.data.toList.take (k+1)=s.data.toList.take k++[s[k]]:=by
 rw [List.take_succ_eq_append_getElem (by simpa using h)];rfl
theorem take_all (s:ByteArray) (k:Nat) (h: ¬ k<s.size):s.data.toList.take k=s.data.toList:=
 List.take_of_length_le (by simp;omega)
theorem byteCells_one (c:UInt8):Lib.byteCells [c]=[.int .u8 c.toNat]:=rfl
theorem run_string_own {P:Program} {w:World} {base:Nat} {e src dst:TypeId} {v:Value} {l:List UInt8} (hs:P.underlying src=some (.slice e)) (he:P.underlying e=some (.int .u8)) (hd:P.underlying dst=some .string)
 (h:w.ownsRow base e 1 v l.length (Lib.byteCells l)) (hnn:v ≠ .slice none 0 0):(convert src dst v).run P w = .ok (.string ⟨l.toArray⟩) w:=by
 rcases h.2 with ⟨hv,_⟩ | ⟨g,cap,cur,rfl,_⟩
 ·exact absurd hv hnn
 ·refine run_convert_bytes_back w src dst e ⟨g,0,none⟩ cap l hs he hd fun j hj=> ?_
  exact h.cells (g:=g) rfl j _ (by simp [Lib.byteCells,hj])
open Go.RowKit
def rowIs (w:World) (g:Nat) (e:TypeId) (l:List UInt8):Prop:=
 ∃ (C:Array Value) (fz:Nat×Nat),w.heap[g]? = some (.cells C e fz)/\l.length<=fz.1 /\ ∀ j (h:j<l.length),C[j]? = some (.int .u8 (l[j].toNat:Int))
theorem rowIs.cell {w:World} {g:Nat} {e:TypeId} {l:List UInt8} (h:rowIs w g e l) (j:Nat) (hj:j<l.length):w.cell? ⟨g,j,none⟩=some (.int .u8 (l[j].toNat:Int)):=by
 obtain ⟨C,fz,hg,_,hc⟩:=h
 rw [Lib.cell_of_heap hg];exact hc j hj
theorem rowIs.frozen {w:World} {g:Nat} {e:TypeId} {l:List UInt8} (h:rowIs w g e l) (j:Nat) (hj:j<l.length):w.frozen? ⟨g,j,none⟩=false:=by
 obtain ⟨C,fz,hg,hf,_⟩:=h
 simp [World.frozen?,hg]
 omega
theorem rowIs.set {w:World} {g:Nat} {e:TypeId} {l:List UInt8} (h:rowIs w g e l) (j:Nat) (c:UInt8):rowIs (w.setCell ⟨g,j,none⟩ (.int .u8 (c.toNat:Int))) g e (l.set j c):=by
 obtain ⟨C,fz,hg,hf,hc⟩:=h
 refine ⟨_,fz,Lib.heap_setCell_same hg _,by simpa using hf,?_⟩
 intro i hi;have hi':i<l.length:=by simpa using hi
 have hCi:=hc i hi';have hlt:i<C.size:=(Array.getElem?_eq_some_iff.1 hCi).1;by_cases e:j=i
 ·subst e;simp [hlt]
 ·simp [Array.getElem?_setIfInBounds,e,hCi]
theorem rowIs_bytes (w:World) (e:TypeId) (s:ByteArray) (cap:Nat) (hcap:s.size<=cap):rowIs (w.drew.alloc (.cells (bytesRow s cap) e ((bytesRow s cap).size,(bytesRow s cap).size+1))) w.heap.size e s.data.toList:=by
 refine ⟨_,_,heap_alloc_new w.drew _,?_,?_⟩
 ·simp [bytesRow]
 ·intro j hj
  have hj':j<s.data.size:=by simpa using hj
  rw [bytesRow_at s cap j hj'];simp
theorem rowIs.string {P:Program} {w:World} {g cap:Nat} {e src dst:TypeId} {l:List UInt8} (h:rowIs w g e l) (hs:P.underlying src=some (.slice e)) (he:P.underlying e=some (.int .u8)) (hd:P.underlying dst=some .string):
 (convert src dst (.slice (some ⟨g,0,none⟩) l.length cap)).run P w = .ok (.string ⟨l.toArray⟩) w:=by
 refine run_convert_bytes_back w src dst e ⟨g,0,none⟩ cap l hs he hd fun j hj=> ?_
 have:=h.cell j hj;rw [Addr.add_lit];simpa using this
def lowC (c:UInt8):UInt8:=if 65<=c.toNat/\c.toNat<=90 then UInt8.ofNat (c.toNat+32) else c
def low (l:List UInt8):List UInt8:=l.map lowC
theorem lowC_yes (c:UInt8) (h:65<=c.toNat/\c.toNat<=90):((lowC c).toNat:Int)=(c.toNat:Int)+32:=by
 unfold lowC;rw [if_pos h];have:(UInt8.ofNat (c.toNat+32)).toNat=(c.toNat+32) % 256:=by simp
 rw [this];omega
theorem lowC_no (c:UInt8) (h: ¬ (65<=c.toNat/\c.toNat<=90)):lowC c=c:=by unfold lowC;rw [if_neg h]
def lowTo (l:List UInt8) (k:Nat):List UInt8:=(l.take k).map lowC++l.drop k
theorem lowTo_length (l:List UInt8) (k:Nat):(lowTo l k).length=l.length:=by simp [lowTo];omega
theorem lowTo_at (l:List UInt8) (k:Nat) (h:k<l.length) (h':k<(lowTo l k).length):(lowTo l k)[k]=l[k]:=by
 simp [lowTo,List.getElem_append,List.length_take]
 have:min k l.length=k:=by omega
 simp [this]
theorem lowTo_succ (l:List UInt8) (k:Nat) (h:k<l.length):lowTo l (k+1)=(lowTo l k).set k (lowC l[k]):=by
 have e1:(l.take k).length=k:=by simp;omega
 unfold lowTo;rw [List.take_succ_eq_append_getElem h,List.drop_eq_getElem_cons h,List.map_append,List.set_append_right _ _ (by simp;omega)];have e2:k - (List.map lowC (List.take k l)).length=0:=by simp;omega
 rw [e2,List.append_assoc];rfl
theorem lowTo_zero (l:List UInt8):lowTo l 0=l:=by simp [lowTo]
theorem lowTo_all (l:List UInt8):lowTo l l.length=low l:=by simp [lowTo,low]
theorem index_one_none9 (l:List UInt8) (c:UInt8) (h:c ∉ l):Lib.index l [c] = -1:=by
 induction l with
 | nil=>rfl
 | cons a l ih=>
   have ha:a≠c:=fun e=>h (by simp [e])
   have hl:c ∉ l:=fun e=>h (by simp [e])
   unfold Lib.index;rw [ih hl];have:[c].isPrefixOf (a::l)=false:=by simp [List.isPrefixOf];exact fun e=>ha e.symm
   rw [this];rfl
theorem index_one_some9 (a r:List UInt8) (c:UInt8) (h:c ∉ a):Lib.index (a++c::r) [c]=a.length:=by
 induction a with
 | nil=>unfold Lib.index;simp [List.isPrefixOf]
 | cons x a ih=>
   have hx:x≠c:=fun e=>h (by simp [e])
   have ha:c ∉ a:=fun e=>h (by simp [e])
   rw [List.cons_append];unfold Lib.index;rw [ih ha];have:[c].isPrefixOf (x::(a++c::r))=false:=by simp [List.isPrefixOf];exact fun e=>hx e.symm
   rw [this];have h1:((a.length:Int) == -1)=false:=by rw [beq_eq_false_iff_ne];omega
   simp [h1]
theorem cut_none9 (l:List UInt8) (c:UInt8) (h:c ∉ l):Lib.cut l [c]=(l,[],false):=by
 unfold Lib.cut;rw [index_one_none9 l c h];rfl
theorem cut_some9 (a r:List UInt8) (c:UInt8) (h:c ∉ a):Lib.cut (a++c::r) [c]=(a,r,true):=by
 unfold Lib.cut;rw [index_one_some9 a r c h];simp
theorem first_split9 (c:UInt8): ∀ l:List UInt8,c ∉ l ∨ ∃ a r,c ∉ a/\l=a++c::r
 | []=> .inl (by simp)
 | x::l=>by
   by_cases hx:x=c
   ·exact .inr ⟨[],l,by simp,by simp [hx]⟩
   ·rcases first_split9 c l with h | ⟨a,r,ha,rfl⟩
    ·exact .inl (by simp [h];exact fun e=>hx e.symm)
    ·exact .inr ⟨x::a,r,by simp [ha];exact fun e=>hx e.symm,rfl⟩
def part9 (c:UInt8):List UInt8->List UInt8×List UInt8×Bool
 | []=>([],[],false)
 | x::l=>if x=c then ([],l,true) else (x::(part9 c l).1,(part9 c l).2.1,(part9 c l).2.2)
theorem part_none9 (c:UInt8): ∀ l:List UInt8,c ∉ l->part9 c l=(l,[],false)
 | [],_=>rfl
 | x::l,h=>by
   have hx:x≠c:=fun e=>h (by simp [e])
   have hl:c ∉ l:=fun e=>h (by simp [e])
   rw [part9,if_neg hx,part_none9 c l hl]
theorem part_some9 (c:UInt8): ∀ (a r:List UInt8),c ∉ a->part9 c (a++c::r)=(a,r,true)
 | [],r,_=>by rw [List.nil_append,part9,if_pos rfl]
 | x::a,r,h=>by
   have hx:x≠c:=fun e=>h (by simp [e])
   have hl:c ∉ a:=fun e=>h (by simp [e])
   rw [List.cons_append,part9,if_neg hx,part_some9 c a r hl]
theorem cut_part9 (c:UInt8) (l:List UInt8):Lib.cut l [c]=part9 c l:=by
 rcases first_split9 c l with h | ⟨a,r,h,rfl⟩
 ·rw [cut_none9 l c h,part_none9 c l h]
 ·rw [cut_some9 a r c h,part_some9 c a r h]
theorem cut_le9 (l sep:List UInt8):(Lib.cut l sep).1.length<=l.length/\(Lib.cut l sep).2.1.length<=l.length:=by
 unfold Lib.cut;split
 ·simp
  omega
 ·simp
theorem part_le9 (c:UInt8) (l:List UInt8):(part9 c l).1.length<=l.length/\(part9 c l).2.1.length<=l.length:=by
 rw [<- cut_part9];exact cut_le9 l [c]
theorem o9get_bang (s:ByteArray) (i:Nat) (h:i<s.size):s.get! i=s[i]:=by
 show s.data[i]! = s.data[i];exact getElem!_pos s.data i h
theorem o9decode_skip (s:ByteArray) (i:Nat) (h:i<s.size) (ha:128<=(s[i]'h).toNat): ∃ r n,Utf8.decode s i=(r,n)/\128<=r/\r<=1114111/\1<=n/\i+n<=s.size /\ ∀ j,i<=j->j<i+n->128<=(s.get! j).toNat:=by
 have h0:128<=(s.get! i).toNat:=by rw [o9get_bang s i h];exact ha
 rw [Lib.decode_at];unfold Lib.decodeN;rw [if_neg (by omega)];have one: ∀ j,i<=j->j<i+1->128<=(s.get! j).toNat:=fun j h1 h2=>by
  have:j=i:=by omega
  rw [this];exact h0
 split
 ·split
  ·refine ⟨_,_,rfl,by omega,by omega,by omega,by omega,fun j h1 h2=> ?_⟩
   have:j=i∨j=i+1:=by omega
   rcases this with rfl | rfl
   ·exact h0
   ·omega
  ·exact ⟨_,_,rfl,by omega,by omega,by omega,by omega,one⟩
 ·split
  ·split
   ·refine ⟨_,_,rfl,by omega,by omega,by omega,by omega,fun j h1 h2=> ?_⟩
    have:j=i∨j=i+1∨j=i+2:=by omega
    rcases this with rfl | rfl | rfl
    ·exact h0
    ·omega
    ·omega
   ·exact ⟨_,_,rfl,by omega,by omega,by omega,by omega,one⟩
  ·split
   ·split
    ·refine ⟨_,_,rfl,by omega,by omega,by omega,by omega,fun j h1 h2=> ?_⟩
     have:j=i∨j=i+1∨j=i+2∨j=i+3:=by omega
     rcases this with rfl | rfl | rfl | rfl
     ·exact h0
     ·omega
     ·omega
     ·omega
    ·exact ⟨_,_,rfl,by omega,by omega,by omega,by omega,one⟩
   ·exact ⟨_,_,rfl,by omega,by omega,by omega,by omega,one⟩
def p9 (r:Nat):Bool:=r==9||r==10||r==12||r==13||r==32
def bl9 (c:UInt8):Bool:=p9 c.toNat
def wdsF:List UInt8->List UInt8->List (List UInt8)
 | [],cur=>if cur=[] then [] else [cur]
 | c::r,cur=>if bl9 c then (if cur=[] then wdsF r [] else cur::wdsF r []) else wdsF r (cur++[c])
def words9 (l:List UInt8):List (List UInt8):=wdsF l []
theorem wds_skip: ∀ (x r cur:List UInt8),(∀ c ∈ x,bl9 c=false)->wdsF (x++r) cur=wdsF r (cur++x)
 | [],r,cur,_=>by simp
 | c::x,r,cur,h=>by
   rw [List.cons_append,wdsF,if_neg (by rw [h c (by simp)];decide),wds_skip x r _ (fun d hd=>h d (by simp [hd]))]
   simp
theorem p9_high (r:Nat) (h:128<=r):p9 r=false:=by
 unfold p9;simp;omega
def ext9 (s:ByteArray) (x:Nat×Nat):List UInt8:=(s.data.toList.drop x.1).take (x.2 - x.1)
def cur9 (s:ByteArray) (pos:Nat):Option Nat->List UInt8
 | some a=>(s.data.toList.drop a).take (pos - a)
 | none=>[]
theorem cur_more (s:ByteArray) (a pos n:Nat) (ha:a<=pos):(s.data.toList.drop a).take (pos+n - a)=(s.data.toList.drop a).take (pos - a)++(s.data.toList.drop pos).take n:=by
 rw [show pos+n - a=(pos - a)+n by omega,List.take_add,List.drop_drop,show a+(pos - a)=pos by omega]
theorem spans_end (s:ByteArray) (pos:Nat) (st:Option Nat) (acc:List (Nat×Nat)) (hp:s.size<=pos) (hpos:pos<=s.size) (hst: ∀ a,st=some a->a<pos):
 (Lib.closeSpans s (acc,st)).map (ext9 s)=acc.map (ext9 s)++wdsF (s.data.toList.drop pos) (cur9 s pos st):=by
 have hsz:s.data.toList.length=s.size:=(Lib.size_eq s).symm;rw [List.drop_eq_nil_of_le (by omega)];obtain rfl:pos=s.size:=by omega
 cases st with
 | none=>simp [Lib.closeSpans,wdsF,cur9]
 | some a=>
   have ha:=hst a rfl;have hne:(s.data.toList.drop a).take (s.size - a)≠[]:=by
    intro h;have:=congrArg List.length h;rw [List.length_take,List.length_drop,hsz] at this
    simp at this;omega
   simp only [Lib.closeSpans,List.map_append,List.map_cons,List.map_nil]
   unfold wdsF cur9;rw [if_neg hne];rfl
theorem spans_words (s:ByteArray): ∀ (f pos:Nat) (st:Option Nat) (acc:List (Nat×Nat)),s.size - pos<=f->pos<=s.size->(∀ a,st=some a->a<pos) ->
 (Lib.closeSpans s (Lib.spansFromP p9 s f pos st acc)).map (ext9 s)=acc.map (ext9 s)++wdsF (s.data.toList.drop pos) (cur9 s pos st)
 | 0,pos,st,acc,hf,hpos,hst=>spans_end s pos st acc (by omega) hpos hst
 | f+1,pos,st,acc,hf,hpos,hst=>by
   by_cases hlt:pos<s.size
   ·have hsz:s.data.toList.length=s.size:=(Lib.size_eq s).symm
    have hd:s.data.toList.drop pos=s[pos]::s.data.toList.drop (pos+1):=by
     rw [List.drop_eq_getElem_cons (by omega)];rfl
    unfold Lib.spansFromP;rw [if_pos hlt];by_cases hb:s[pos].toNat<128
    ·have hdec:Utf8.decode s pos=(s[pos].toNat,1):=by
      rw [Lib.decode_at,o9get_bang s pos hlt]
      simp [Lib.decodeN,hb]
     rw [hdec];dsimp only;by_cases hbl:p9 s[pos].toNat=true
     ·rw [if_pos hbl]
      cases st with
      | none=>
        dsimp only;rw [spans_words s f (pos+1) none acc (by omega) (by omega) (fun a h=>by cases h),hd,wdsF,if_pos (show bl9 s[pos]=true from hbl)];simp [cur9]
      | some a=>
        dsimp only;have ha:=hst a rfl;have hne:(s.data.toList.drop a).take (pos - a)≠[]:=by
         intro h;have:=congrArg List.length h;rw [List.length_take,List.length_drop,hsz] at this
         simp at this;omega
        rw [spans_words s f (pos+1) none (acc++[(a,pos)]) (by omega) (by omega) (fun a h=>by cases h),hd,wdsF,if_pos (show bl9 s[pos]=true from hbl)];unfold cur9;rw [if_neg hne,List.map_append,List.append_assoc];rfl
     ·rw [if_neg hbl]
      have hbf:bl9 s[pos]=false:=by simpa [bl9] using hbl
      have hstep: ∀ a,a<=pos->wdsF (s.data.toList.drop pos) ((s.data.toList.drop a).take (pos - a))=wdsF (s.data.toList.drop (pos+1)) ((s.data.toList.drop a).take (pos+1 - a)):=fun a ha=>by
       rw [cur_more s a pos 1 ha,hd,wdsF,if_neg (by rw [hbf];decide)];rfl
      cases st with
      | none=>
        dsimp only;rw [spans_words s f (pos+1) (some pos) acc (by omega) (by omega) (fun a h=>by cases h;omega)];have:=hstep pos (Nat.le_refl _);rw [Nat.sub_self,List.take_zero] at this
        unfold cur9;rw [this]
      | some a=>
        dsimp only;have ha:=hst a rfl;rw [spans_words s f (pos+1) (some a) acc (by omega) (by omega) (fun b h=>by cases h;omega)];unfold cur9;rw [hstep a (by omega)]
    ·obtain ⟨r,n,hdec,hr,_,hn1,hn2,hj⟩:=o9decode_skip s pos hlt (by omega)
     rw [hdec];dsimp only;rw [if_neg (by rw [p9_high r hr];decide)];have hx: ∀ c ∈ (s.data.toList.drop pos).take n,bl9 c=false:=by
      intro c hc;obtain ⟨k,hk,rfl⟩:=List.getElem_of_mem hc
      rw [List.length_take,List.length_drop,hsz] at hk
      have h1:=hj (pos+k) (by omega) (by omega)
      rw [o9get_bang s (pos+k) (by omega)] at h1;unfold bl9;rw [List.getElem_take,List.getElem_drop]
      exact p9_high _ h1
     have hstep: ∀ a,a<=pos->wdsF (s.data.toList.drop pos) ((s.data.toList.drop a).take (pos - a))=wdsF (s.data.toList.drop (pos+n)) ((s.data.toList.drop a).take (pos+n - a)):=fun a ha=>by
      rw [cur_more s a pos n ha,<- wds_skip _ _ _ hx,<- List.drop_drop,List.take_append_drop]
     cases st with
     | none=>
       dsimp only;rw [spans_words s f (pos+n) (some pos) acc (by omega) (by omega) (fun a h=>by cases h;omega)];have:=hstep pos (Nat.le_refl _);rw [Nat.sub_self,List.take_zero] at this
       unfold cur9;rw [this]
     | some a=>
       dsimp only;have ha:=hst a rfl;rw [spans_words s f (pos+n) (some a) acc (by omega) (by omega) (fun b h=>by cases h;omega)];unfold cur9;rw [hstep a (by omega)]
   ·rw [Lib.spansFromP_end p9 s (f+1) pos st acc hlt]
    exact spans_end s pos st acc (by omega) hpos hst
theorem fields_words (s:ByteArray):Lib.goFieldsP p9 s=(words9 s.data.toList).map fun x=>⟨x.toArray⟩:=by
 have h:=spans_words s s.size 0 none [] (by omega) (by omega) (fun a h=>by cases h)
 rw [List.drop_zero] at h;have h2:words9 s.data.toList=(Lib.spansOfP p9 s).map (ext9 s):=by
  rw [Lib.spansOfP,h];rfl
 rw [h2,List.map_map]
 unfold Lib.goFieldsP;apply List.map_congr_left;intro x _;show s.extract x.1 x.2=⟨(ext9 s x).toArray⟩;rw [<- Lib.mk_data (s.extract x.1 x.2)]
 congr 2
 rw [<- ByteArray.toList_eq,Lib.extract_toList];rfl
theorem wds_len: ∀ (l cur:List UInt8),(wdsF l cur).length<=l.length+1 /\ ∀ x ∈ wdsF l cur,x.length<=cur.length+l.length
 | [],cur=>by
   unfold wdsF;split
   ·simp
   ·simp
 | c::r,cur=>by
   unfold wdsF;split
   ·split
    ·have:=wds_len r []
     refine ⟨by have:=this.1;simp only [List.length_cons];omega,fun x hx=> ?_⟩
     have:=this.2 x hx;simp only [List.length_cons,List.length_nil] at this ⊢
     omega
    ·have:=wds_len r []
     refine ⟨by have:=this.1;simp only [List.length_cons];omega,fun x hx=> ?_⟩
     rcases List.mem_cons.1 hx with rfl | hx
     ·simp only [List.length_cons];omega
     ·have:=this.2 x hx
      simp only [List.length_cons,List.length_nil] at this ⊢
      omega
   ·have:=wds_len r (cur++[c])
    refine ⟨by have:=this.1;simp only [List.length_cons];omega,fun x hx=> ?_⟩
    have:=this.2 x hx;simp only [List.length_append,List.length_cons,List.length_nil] at this ⊢
    omega
structure It where
 bits:Int
 want:List UInt8
 opt:List UInt8
def sha2:List UInt8:=[115,104,97,50,53,54]
def sha3:List UInt8:=[115,104,97,51,56,52]
def sha5:List UInt8:=[115,104,97,53,49,50]
def bitsV (n:List UInt8):Int:=if low n=sha2 then 256 else if low n=sha3 then 384 else if low n=sha5 then 512 else 0
def nameV9 (x:List UInt8):List UInt8:=(part9 45 (part9 63 x).1).1
def wantV9 (x:List UInt8):List UInt8:=(part9 45 (part9 63 x).1).2.1
def optV9 (x:List UInt8):List UInt8:=(part9 63 x).2.1
def okV9 (x:List UInt8):Bool:=(part9 45 (part9 63 x).1).2.2&&bitsV (nameV9 x) != 0
def itemV (x:List UInt8):Option It:=if okV9 x then some ⟨bitsV (nameV9 x),wantV9 x,optV9 x⟩ else none
def parse9 (l:List UInt8):List It:=(words9 l).filterMap itemV
theorem bits_cases (n:List UInt8):bitsV n=256∨bitsV n=384∨bitsV n=512∨bitsV n=0:=by
 unfold bitsV;split
 ·exact .inl rfl
 ·split
  ·exact .inr (.inl rfl)
  ·split
   ·exact .inr (.inr (.inl rfl))
   ·exact .inr (.inr (.inr rfl))
theorem parse_bits (l:List UInt8): ∀ x ∈ parse9 l,x.bits=256∨x.bits=384∨x.bits=512:=by
 intro x hx;obtain ⟨y,_,hy⟩:=List.mem_filterMap.1 hx
 unfold itemV at hy;split at hy
 ·rename_i h
  obtain rfl:=Option.some.inj hy;dsimp only;unfold okV9 at h;rw [Bool.and_eq_true,bne_iff_ne] at h
  rcases bits_cases (nameV9 y) with h' | h' | h' | h'
  ·exact .inl h'
  ·exact .inr (.inl h')
  ·exact .inr (.inr h')
  ·exact absurd h' h.2
 ·cases hy
def SlB (w:World) (v:Value) (l:List UInt8):Prop:=
 (∃ c,v = .slice none 0 c/\l=[]) ∨ ∃ x cap,v = .slice (some x) l.length cap /\ ∀ j (h:j<l.length),w.cell? (x.add j)=some (.int .u8 (l[j].toNat:Int))
theorem SlB.string {P:Program} {w:World} {v:Value} {l:List UInt8} {e src dst:TypeId} (h:SlB w v l) (hs:P.underlying src=some (.slice e)) (he:P.underlying e=some (.int .u8)) (hd:P.underlying dst=some .string):
 (convert src dst v).run P w = .ok (.string ⟨l.toArray⟩) w:=by
 rcases h with ⟨c,rfl,rfl⟩ | ⟨x,cap,rfl,hc⟩
 ·exact Lib.run_convert_nil_bytes w src dst e c hs he hd
 ·exact run_convert_bytes_back w src dst e x cap l hs he hd hc
theorem SlB.own {w:World} {B:Nat} {e:TypeId} {v:Value} {l:List UInt8} (h:w.ownsRow B e 1 v l.length (Lib.byteCells l)):SlB w v l:=by
 rcases h.2 with ⟨rfl,h0⟩ | ⟨g,cap,cur,rfl,_⟩
 ·exact .inl ⟨0,rfl,List.eq_nil_of_length_eq_zero h0⟩
 ·exact .inr ⟨_,cap,rfl,fun j hj=>h.cells (g:=g) rfl j _ (by simp [Lib.byteCells,hj])⟩
theorem below2 {a b c:World} (h1:Below a.heap.size a b) (h2:Below b.heap.size b c):Below a.heap.size a c:=h1.trans (h2.mono h1.size)
theorem row_kept {w w':World} {g:Nat} {o:Obj} (h:w.heap[g]? = some o) (hb:Below w.heap.size w w'):w'.heap[g]? = some o:=by
 have hlt:g<w.heap.size:=by
  rcases Nat.lt_or_ge g w.heap.size with h' | h'
  ·exact h'
  ·rw [Array.getElem?_eq_none h'] at h;cases h
 rw [hb.block g hlt];exact h
theorem there_row {w:World} {g n:Nat} {cs:Array Value} {t:TypeId} (h:w.heap[g]? = some (.cells cs t (0,0))) (hn:n<=cs.size):w.there g 0 n:=by
 intro j hj;constructor
 ·rw [cell_of_row w g _ cs t _ h];simp;omega
 ·simp [World.frozen?,h]
theorem range_row {w:World} {g:Nat} {cs:List Value} {t:TypeId} {f:Nat×Nat} (h:w.heap[g]? = some (.cells cs.toArray t f)):w.rangeAt g 0 cs:=by
 intro j v hv;rw [Nat.zero_add,cell_of_row w g j _ t _ h]
 simpa using hv
theorem own_kept {w w':World} {base:Nat} {e:TypeId} {size n:Nat} {v:Value} {xs:List Value} (h:w.ownsRow base e size v n xs) (hb:Below w.heap.size w w'):w'.ownsRow base e size v n xs:=by
 refine ⟨h.1,?_⟩
 rcases h.2 with h | ⟨g,cap,cur,hv,h1,h2,h3⟩
 ·exact .inl h
 ·refine .inr ⟨g,cap,cur,hv,h1,?_,h3⟩
  have hlt:g<w.heap.size:=by
   rcases Nat.lt_or_ge g w.heap.size with h' | h'
   ·exact h'
   ·rw [Array.getElem?_eq_none h'] at h2;cases h2
  rw [hb.block g hlt];exact h2
theorem kept_cell {w w':World} {a:Addr} {v:Value} (h:w.cell? a=some v) (hb:Below w.heap.size w w'):w'.cell? a=some v:=(hb.cell (World.block_lt_of_cell? w _ h)).trans h
theorem digit_any (c:Int) (w:World):
 Calls Tryz.prog 201 #[.int .u8 c] w fun e w'=>e = .returned (.bool (digitI c))/\w=w':=by
 go_enter Tryz.func201,Tryz.ntmps201
 go_wp2
 all_goals
  go_ret
  exact ⟨ret_bool (by rw [Bool.eq_iff_iff];simp [digitI];omega),rfl⟩
theorem value16_any (c:Int) (w:World) (h0:0<=c) (h1:c<=255):
 Calls Tryz.prog 227 #[.int .u8 c] w fun e w'=>e = .returned (.tuple #[.int .u8 (val16I c),.bool (is16I c)])/\w=w':=by
 go_enter Tryz.func227,Tryz.ntmps227
 go_wp2
 all_goals
  go_ret2
  exact ⟨ret_ib (by simp [val16I];omega) (by rw [Bool.eq_iff_iff];simp [is16I,digitI];omega),rfl⟩
theorem lower_any (s:ByteArray) (w:World) (hs:s.size<=140737488351232):
 Calls Tryz.prog 37 #[.string s] w fun e w'=>e = .returned (.string ⟨(low s.data.toList).toArray⟩)/\Below w.heap.size w w':=by
 have hcv:=run_bytes_of_string (P:=Tryz.prog) w 9 92 5 s Tryz.underlying9 Tryz.underlying92 Tryz.underlying5;have hcap:=grownCap_ge w s.size 0 5;have hr0:=rowIs_bytes w 5 s (grownCap w s.size 0 5) hcap;have hb0:Below w.heap.size w (w.drew.alloc (.cells (bytesRow s (grownCap w s.size 0 5)) 5 ((bytesRow s (grownCap w s.size 0 5)).size,(bytesRow s (grownCap w s.size 0 5)).size+1))):=(Below.refl _ w).drew.alloc (Nat.le_refl _) _
 generalize (w.drew.alloc (.cells (bytesRow s (grownCap w s.size 0 5)) 5 ((bytesRow s (grownCap w s.size 0 5)).size,(bytesRow s (grownCap w s.size 0 5)).size+1)))=w0 at hcv hr0 hb0;generalize grownCap w s.size 0 5=cap at hcv hcap
 go_enter Tryz.func37,Tryz.ntmps37
 go_wp2
 clear hcv
 go_loopw [10] (fun i wr=> ∃ k:Nat,k<=s.size/\i = .int .i64 k/\rowIs wr w.heap.size 5 (lowTo s.data.toList k)/\Below w.heap.size w wr)
  (fun i _=>s.size - (intOf i).toNat)
 case atStart=>exact ⟨0,Nat.zero_le _,rfl,by rw [lowTo_zero];exact hr0,hb0⟩
 case round=>
  obtain ⟨k,hk,rfl,hr,hbw⟩:=hrel
  by_cases hlt:k<s.size
  ·have hl:k<s.data.toList.length:=by simpa using hlt
   have hl':k<(lowTo s.data.toList k).length:=by rw [lowTo_length];exact hl
   have hc:=hr.cell k hl';rw [lowTo_at _ _ hl] at hc;have hf:=hr.frozen k hl';have hsucc:=lowTo_succ s.data.toList k hl;have hat:=lowTo_at s.data.toList k hl hl';generalize s.data.toList[k]=c at hc hsucc hat;have HS:=hid hsucc;have HAt:=hid hat;clear hsucc hat;have hc8:c.toNat<256:=c.toNat_lt;by_cases hu:65<=c.toNat/\c.toNat<=90
   ·have h1:(65:Int)<=(c.toNat:Int):=by omega
    have h2:(c.toNat:Int)<=90:=by omega
    have HL:=hid (lowC_yes c hu);clear hu
    go_wp2
    go_roundw
    case rel=>
     refine ⟨k+1,by omega,by go_num,?_,hbw.setCell (p:=⟨w.heap.size,k,none⟩) (Nat.le_refl _) _⟩;rw [HS.out,<- HL.out]
     exact hr.set k _
    case measure=>simp [intOf];omega
   ·have HL:=hid (lowC_no c hu)
    have hu':(c.toNat:Int)<65∨90<(c.toNat:Int):=by omega
    clear hu;rcases hu' with h1 | h1
    all_goals
     go_wp2
     go_roundw
     case rel=>
      refine ⟨k+1,by omega,by go_num,?_,hbw⟩;have e:lowC c=(lowTo s.data.toList k)[k]:=by rw [HL.out,HAt.out]
      rw [HS.out,e,List.set_getElem_self]
      exact hr
     case measure=>simp [intOf];omega
  ·have hk':k=s.data.toList.length:=by simp;omega
   have hr':rowIs wr w.heap.size 5 (low s.data.toList):=by rw [<- lowTo_all,<- hk'];exact hr
   clear hr hk';have hcv:=hr'.string (P:=Tryz.prog) (src:=92) (dst:=9) (cap:=cap) Tryz.underlying92 Tryz.underlying5 Tryz.underlying9;rw [show (low s.data.toList).length=s.size by simp [low]] at hcv
   go_wp2
   go_ret
   exact ⟨rfl,hbw⟩
end Go.Proofs.YtijpkalkfbejeaaGreatDoor
