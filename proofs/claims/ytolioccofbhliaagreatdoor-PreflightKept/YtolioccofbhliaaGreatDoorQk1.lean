/-
  Walks and plain facts that this claim leans on, put together out of 12 texts: Wr, Lm, Qa, Rb, Wt, La, Ln, Lcut, Bk0, Bksb, Bksc, Bksd.
-/
import Derived.Test.YtolioccofbhliaaGreatDoorProg
import Derived.Test.YtolioccofbhliaaGreatDoorQp1
import Derived.Test.YtolioccofbhliaaGreatDoorQp2
import Derived.Test.YtolioccofbhliaaGreatDoorQp3
import Derived.Test.YtolioccofbhliaaGreatDoorQp4
import Derived.Test.YtolioccofbhliaaGreatDoorQp5
import Derived.Test.YtolioccofbhliaaGreatDoorQp6
import Derived.Test.YtolioccofbhliaaGreatDoorQp7
import Derived.Test.YtolioccofbhliaaGreatDoorQp8
import Derived.Test.YtolioccofbhliaaGreatDoorQp9
import Derived.Test.YtolioccofbhliaaGreatDoorQp10
import Derived.Test.YtolioccofbhliaaGreatDoorQp11
import Derived.Test.YtolioccofbhliaaGreatDoorQp12
import Derived.Test.YtolioccofbhliaaGreatDoorQp13
import Derived.Test.YtolioccofbhliaaGreatDoorQp14
import Derived.Test.YtolioccofbhliaaGreatDoorQp15
import Derived.Test.YtolioccofbhliaaGreatDoorQp16
import Derived.Test.YtolioccofbhliaaGreatDoorQp17
import Derived.Test.YtolioccofbhliaaGreatDoorQp18
import Derived.Test.YtolioccofbhliaaGreatDoorQp19
import Derived.Test.YtolioccofbhliaaGreatDoorQp20
import Derived.Test.YtolioccofbhliaaGreatDoorQp21
import Derived.Test.YtolioccofbhliaaGreatDoorQp22
import Derived.Test.YtolioccofbhliaaGreatDoorQp23
import Derived.Test.YtolioccofbhliaaGreatDoorQp24
import Derived.Test.YtolioccofbhliaaGreatDoorQp25
import Derived.Test.YtolioccofbhliaaGreatDoorQp26
import Derived.Test.YtolioccofbhliaaGreatDoorQp27
import Derived.Test.YtolioccofbhliaaGreatDoorQp28
import Derived.WalkKit
import Derived.WalkSpells
import Derived.WalkLawsBesides
import Derived.Lib.FrozenHead2
import Derived.Lib.OthersKept
import Derived.Lib.Builder
import Derived.Deep.RegionLaw
import Derived.Laws.CopyOwn
import Derived.Laws.ResultCell
import Derived.Deep.MidRow
import Derived.Lib.Strings
import Derived.Lib.UnsafeStr
import Derived.Laws.IdiomStrings
import Derived.Laws.AppendOwn
import Derived.Lib.BufferRead
import Derived.Lib.RuneBytes
import Derived.Laws.RangeAny
import Derived.Laws.OwnMore
import Derived.Below
import Derived.WalkSmall
import Derived.Lib.SmallJoins
import Derived.Deep.QuietTactic
import Derived.BigQuiet
import Derived.Lib.BufferMore
import Derived.Deep.RegionHeld
import Derived.Lib.LaidTab
import Derived.Laws.BitsAll
set_option linter.unusedSimpArgs false
set_option linter.unusedVariables false

namespace Go.Proofs.YtolioccofbhliaaGreatDoor
open Go.RowKit

theorem ownsRow_slice {w:World} {B:Nat} {e:TypeId} {size:Nat} {v:Value} {n:Nat} {xs:List Value} (h:w.ownsRow B e size v n xs): ∃ a k c,v = .slice a k c:=by
 rcases h.2 with ⟨rfl,_⟩ | ⟨g,cap,cur,rfl,_⟩
 ·exact ⟨_,_,_,rfl⟩
 ·exact ⟨_,_,_,rfl⟩

theorem cell_of_heapE {w:World} {b:Nat} {cs:Array Value} {T:TypeId} {fr:Nat×Nat} (hb:w.heap[b]? = some (.cells cs T fr)) (j:Nat) (v:Value) (h:cs[j]? = some v):w.cell? ⟨b,j,none⟩=some v:=by rw [Lib.cell_of_heap hb];exact h

theorem step_append_own0 {P:Program} {ops:Array Oper} {o:Oper} {a:Act} {w:World} {K:Act→World→Prop} {Q:Exit→Act→World→Prop} {E:Prop} (hgd:o.guard=none) (s x:Operand) (t:TypeId)
 (ho:o.op = .call { callee:= .builtin .append,args:= #[s,x],argTypes:= #[t,t] })
 (base:Nat) (e:TypeId) (i:TypeInfo) (z:Value) (size bytes:Nat) (ht:P.underlying t=some (.slice e)) (hi:P.info? e=some i) (hz:i.zero=some z)
 (hsize:i.size=size) (hby:i.bytes=bytes) (hzs:z.cells.size=size) (hsz:0<size)
 (v:Value) (n:Nat) (xs:List Value) (hs:a.eval s=v) (hown:w.ownsRow base e size v n xs)
 (ad:Addr) (m c:Nat) (news:List Value) (hx:a.eval x = .slice (some ad) m c) (hl:news.length=m*size) (hnews: ∀ j u,news[j]? = some u→w.cell? (ad.add j)=some u) (h1: ∀ u ∈ news,u.oneCell'=true)
 (h63:n+m≤maxLen) (hbytes:(n+m)*bytes≤140737488355328) (hbase:base≤w.heap.size)
 (h: ∀ v' w',w'.ownsRow base e size v' (n+m) (xs++news)→w.grownBy w' v.ownBlock→(v' = .slice none 0 0 ↔ v = .slice none 0 0∧m=0)→K (a.put o.dst v') w'):
 if Region.wanted o (yielded ops a.tmps)=true then Oper.wp P o a w K Q else E:=by
 rw [if_pos (by simp [Region.wanted,hgd])];exact wp_append_own w s x t ho base e i z size bytes ht hi hz hsize hby hzs hsz v n xs hs hown ad m c news hx hl hnews h1 h63 hbytes hbase h

end Go.Proofs.YtolioccofbhliaaGreatDoor

namespace Go.Proofs.YtolioccofbhliaaGreatDoor
open Go.RowKit

theorem kept_cell {w w':World} {a:Addr} {v:Value} (h:w.cell? a=some v) (hb:Below w.heap.size w w'):w'.cell? a=some v:=(hb.cell (World.block_lt_of_cell? w _ h)).trans h

end Go.Proofs.YtolioccofbhliaaGreatDoor

namespace Go.Proofs.YtolioccofbhliaaGreatDoor
open Go.RowKit

def SlV (w:World) (B:Nat) (T:TypeId) (v:Value) (us:List Value):Prop:=
 (v = .slice none 0 0∧us=[]) ∨ ∃ g o c cur,v = .slice (some ⟨g,o,none⟩) us.length c∧B≤g∧w.heap[g]? = some (.cells cur T (0,0))∧us.length≤c∧o+c≤cur.size∧c≤maxLen ∧ ∀ j u,us[j]? = some u→cur[o+j]? = some u

theorem SlV.nil (w:World) (B:Nat) (T:TypeId):SlV w B T (.slice none 0 0) []:= .inl ⟨rfl,rfl⟩

theorem SlV.form {w:World} {B:Nat} {T:TypeId} {v:Value} {us:List Value} (h:SlV w B T v us): ∃ a c,v = .slice a us.length c∧us.length≤c:=by
 rcases h with ⟨rfl,rfl⟩ | ⟨g,o,c,cur,rfl,_,_,hc,_⟩
 ·exact ⟨none,0,rfl,Nat.le_refl _⟩
 ·exact ⟨_,c,rfl,hc⟩

theorem SlV.lt {w:World} {B:Nat} {T:TypeId} {v:Value} {us:List Value} (h:SlV w B T v us): ∀ k,v.ownBlock=some k→B≤k∧k<w.heap.size:=by
 intro k hk;rcases h with ⟨rfl,rfl⟩ | ⟨g,o,c,cur,rfl,hB,hg,_⟩
 ·simp [Value.ownBlock] at hk
 ·simp [Value.ownBlock] at hk
  subst hk;exact ⟨hB,(Array.getElem?_eq_some_iff.1 hg).1⟩

theorem SlV.same {w w':World} {B:Nat} {T:TypeId} {v:Value} {us:List Value} (h:SlV w B T v us) (hk: ∀ k,v.ownBlock=some k→w'.heap[k]? = w.heap[k]?):SlV w' B T v us:=by
 rcases h with h | ⟨g,o,c,cur,rfl,hB,hg,h1,h2,h3,h4⟩
 ·exact .inl h
 ·exact .inr ⟨g,o,c,cur,rfl,hB,(hk g rfl).trans hg,h1,h2,h3,h4⟩

theorem SlV.other {w:World} {B p:Nat} {T T':TypeId} {v:Value} {us:List Value} {cs:Array Value} {fr:Nat×Nat} (h:SlV w B T v us) (hp:w.heap[p]? = some (.cells cs T' fr)) (hne:T'≠T):v.ownBlock≠some p:=by
 rcases h with ⟨rfl,rfl⟩ | ⟨g,o,c,cur,rfl,hB,hg,_⟩
 ·simp [Value.ownBlock]
 ·intro e
  simp [Value.ownBlock] at e;subst e;rw [hp] at hg;injection hg with hg
  injection hg with _ hg _
  exact hne hg

theorem SlV.cell {w:World} {B:Nat} {T:TypeId} {v:Value} {us:List Value} (h:SlV w B T v us) (j:Nat) (hj:j<us.length): ∃ g o c,v = .slice (some ⟨g,o,none⟩) us.length c∧us.length≤c∧w.cell? ⟨g,o+j,none⟩=some us[j]:=by
 rcases h with ⟨rfl,rfl⟩ | ⟨g,o,c,cur,rfl,hB,hg,h1,h2,h3,h4⟩
 ·simp at hj
 ·refine ⟨g,o,c,rfl,h1,?_⟩
  rw [Lib.cell_of_heap hg];exact h4 j us[j] (by simp [hj])

theorem SlV.tail {w:World} {B g o c:Nat} {T:TypeId} {a:Value} {us:List Value} (h:SlV w B T (.slice (some ⟨g,o,none⟩) (us.length+1) c) (a::us)):SlV w B T (.slice (some ⟨g,o+1,none⟩) us.length (c - 1)) us:=by
 rcases h with ⟨h,_⟩ | ⟨g',o',c',cur,e,hB,hg,h1,h2,h3,h4⟩
 ·cases h
 ·injection e with e1 e2 e3
  injection e1 with e1
  injection e1 with e4 e5
  subst e4 e5 e3;rw [List.length_cons] at h1;refine .inr ⟨g,o+1,c - 1,cur,rfl,hB,hg,by omega,by omega,by omega,fun j u hu=> ?_⟩
  have:=h4 (j+1) u (by simpa using hu)
  rw [show o+1+j=o+(j+1) by omega];exact this

theorem run_append_at {P:Program} (w:World) (t ty e:TypeId) (i:TypeInfo) (ht:P.underlying t=some (.slice e)) (hi:P.info? e=some i) (hsz:i.size=1)
 (g o sLen sCap:Nat) (cur:Array Value) (hg:w.heap[g]? = some (.cells cur e (0,0)))
 (a:Addr) (c:Nat) (x:Value) (hx:w.cell? (a.add 0)=some x) (h1:x.oneCell'=true)
 (hroom:sLen+1≤sCap) (hfit:o+sLen+1≤cur.size):
 (Builtin.append_ #[t,t] ty #[.slice (some ⟨g,o,none⟩) sLen sCap,.slice (some a) 1 c]).run P w =
   .ok (.slice (some ⟨g,o,none⟩) (sLen+1) sCap) (w.setRow g (cur.toList.take (o+sLen)++[x]++cur.toList.drop (o+sLen+1)).toArray):=by
 have hf:=run_firstCells_some (P:=P) w 1 1 a 1 c [x] rfl (fun j u hj=>by
  match j,hj with
  | 0,hj=>simp at hj;subst hj;exact hx)
 have hst:=run_storeCells_at P g (o+sLen) e [x] 0 cur w hg (by simpa using hfit) (by simpa using h1)
 simp only [Nat.add_zero,List.length_cons,List.length_nil,Nat.zero_add] at hst
 simp [Builtin.append_,run_underlying ht,sizeOf,typeInfo,hi,hsz,Builtin.lenOf,hroom,hf,Addr.add_lit,hst]

theorem run_append_slv {P:Program} (w:World) (B:Nat) (t ty e:TypeId) (i:TypeInfo) (z:Value) (ht:P.underlying t=some (.slice e)) (hi:P.info? e=some i) (hz:i.zero=some z) (hsz:i.size=1) (hby:i.bytes=24) (hzs:z.cells.size=1)
 (v:Value) (us:List Value) (h:SlV w B e v us) (a:Addr) (c:Nat) (x:Value) (hx:w.cell? (a.add 0)=some x) (h1:x.oneCell'=true) (hn:us.length≤100000) (hB:B≤w.heap.size):
 ∃ v' w',(Builtin.append_ #[t,t] ty #[v,.slice (some a) 1 c]).run P w = .ok v' w'∧SlV w' B e v' (us++[x])∧w.grownBy w' v.ownBlock∧(v'.ownBlock=v.ownBlock ∨ ∃ k,v'.ownBlock=some k∧w.heap.size≤k):=by
 have hml:maxLen=9223372036854775807:=rfl;have hnews: ∀ j u,[x][j]? = some u→w.cell? (a.add j)=some u:=fun j u hj=>by
  match j,hj with
  | 0,hj=>simp at hj;subst hj;exact hx
 rcases h with ⟨rfl,rfl⟩ | ⟨g,o,cap,cur,rfl,hBg,hg,hnc,hoc,hcm,hc⟩
 ·have hr:=run_append_nil (P:=P) w t ty e i z ht hi hz a 1 c [x] (by rw [hsz];rfl) hnews (by decide) (by decide) (by omega)
  refine ⟨_,_,hr,?_,⟨rfl,rfl,rfl,by simp,fun k hk _=>Lib.alloc_old w.drew _ k hk⟩,.inr ⟨_,rfl,Nat.le_refl _⟩⟩
  have hge:=grownCap_ge w 1 0 e;refine .inr ⟨w.heap.size,0,_,_,rfl,hB,heap_alloc_new w.drew _,hge,?_,grownCap_le_maxLen w 1 0 e (by omega),fun j u hu=> ?_⟩
  ·simp only [Array.size_append,List.size_toArray,size_zeroCells,hzs,List.length_cons,List.length_nil]
   omega
  ·have hj:j<1:=by have:=(List.getElem?_eq_some_iff.1 hu).1;simpa using this
   obtain rfl:j=0:=by omega
   simp at hu;subst hu;rw [Nat.zero_add,Array.getElem?_append_left (by simp)]
   simp
 ·by_cases hroom:us.length+1≤cap
  ·have hr:=run_append_at (P:=P) w t ty e i ht hi hsz g o us.length cap cur hg a c x hx h1 hroom (by omega)
   refine ⟨_,_,hr,?_,?_,.inl rfl⟩
   ·refine .inr ⟨g,o,cap,_,by simp,hBg,setRow_heap w g cur _ e (0,0) hg,by simpa using hroom,?_,hcm,fun j u hu=> ?_⟩
    ·simp only [List.size_toArray,List.length_append,List.length_take,List.length_drop,Array.length_toList,List.length_cons,List.length_nil]
     omega
    ·have hj:j<us.length+1:=by have:=(List.getElem?_eq_some_iff.1 hu).1;simpa using this
     have hlt:(cur.toList.take (o+us.length)).length=o+us.length:=by rw [List.length_take];have:cur.toList.length=cur.size:=Array.length_toList;omega
     rw [List.getElem?_toArray,List.append_assoc]
     by_cases hjn:j<us.length
     ·rw [List.getElem?_append_left (by omega),List.getElem?_take,if_pos (by omega),Array.getElem?_toList]
      rw [List.getElem?_append_left hjn] at hu;exact hc j u hu
     ·obtain rfl:j=us.length:=by omega
      rw [List.getElem?_append_right (by omega),hlt,Nat.sub_self];rw [List.getElem?_append_right (Nat.le_refl _),Nat.sub_self] at hu;simpa using hu
   ·exact ⟨rfl,rfl,rfl,by simp,fun k hk hne=>setRow_other w g k _ (fun e=>hne (by rw [e];rfl))⟩
  ·have hr:=run_append_grow (P:=P) w t ty e i z ht hi hz ⟨g,o,none⟩ us.length cap us (by rw [hsz,Nat.mul_one]) (fun j u hu=>by
    rw [Addr.add_lit,Lib.cell_of_heap hg]
    exact hc j u hu) a 1 c [x] (by rw [hsz];rfl) hnews (by omega) (by omega) (growslice_fits (by omega) (by rw [hby];omega))
   refine ⟨_,_,hr,?_,⟨rfl,rfl,rfl,by simp,fun k hk _=>Lib.alloc_old w.drew _ k hk⟩,.inr ⟨_,rfl,Nat.le_refl _⟩⟩
   have hge:=grownCap_ge w (us.length+1) cap e;refine .inr ⟨w.heap.size,0,_,_,by simp,hB,heap_alloc_new w.drew _,by simpa using hge,?_,grownCap_le_maxLen w (us.length+1) cap e (by omega),fun j u hu=> ?_⟩
   ·simp only [Array.size_append,List.size_toArray,size_zeroCells,hzs,List.length_cons,List.length_nil]
    omega
   ·have hj:j<us.length+1:=by have:=(List.getElem?_eq_some_iff.1 hu).1;simpa using this
    rw [Nat.zero_add,Array.getElem?_append_left (by simp;omega),show us.toArray++[x].toArray=(us++[x]).toArray by simp]
    simpa using hu

end Go.Proofs.YtolioccofbhliaaGreatDoor

namespace Go.Proofs.YtolioccofbhliaaGreatDoor
open Go.RowKit

theorem SlB.some {w:World} {a:Option Addr} {len cap:Nat} {l:List UInt8} (h:SlB w (.slice a len cap) l) (h0:0<l.length): ∃ x,a=some x∧len=l.length ∧ ∀ j (hj:j<l.length),w.cell? (x.add j)=some (.int .u8 (l[j].toNat:Int)):=by
 rcases h with ⟨c,e,rfl⟩ | ⟨x,c,e,hc⟩
 ·simp at h0
 ·obtain ⟨rfl,rfl,rfl⟩:=Value.slice.inj e
  exact ⟨x,rfl,rfl,hc⟩

theorem SlB.length {w:World} {a:Option Addr} {len cap:Nat} {l:List UInt8} (h:SlB w (.slice a len cap) l):len=l.length:=by
 rcases h with ⟨c,e,rfl⟩ | ⟨x,c,e,hc⟩
 ·obtain ⟨_,rfl,_⟩:=Value.slice.inj e
  rfl
 ·obtain ⟨_,rfl,_⟩:=Value.slice.inj e
  rfl

end Go.Proofs.YtolioccofbhliaaGreatDoor

namespace Go.Proofs.YtolioccofbhliaaGreatDoor
open Go.RowKit

theorem setCell_idle {w:World} {p i:Nat} {cs:Array Value} {T:TypeId} {v:Value} (hp:w.heap[p]? = some (.cells cs T (0,0))) (h:cs.setIfInBounds i v=cs) (q:Addr):(w.setCell ⟨p,i,none⟩ v).cell? q=w.cell? q:=by
 refine World.cell?_of_block ?_;by_cases hq:q.block=p
 ·rw [hq,heap_setCell_same w p i cs T v hp,h,hp]
 ·exact heap_setCell_other w ⟨p,i,none⟩ q.block v hq

end Go.Proofs.YtolioccofbhliaaGreatDoor

namespace Go.Proofs.YtolioccofbhliaaGreatDoor
open Go.RowKit

structure Three where
 (a b c:Nat)

structure Kd where
 W:Nat
 R:Nat
 s0:Three
 s1:Three
 g0:Three
 g1:Three

structure St where
 (a b c d e f g h:Nat)

def St.list (s:St):List Nat:=[s.a,s.b,s.c,s.d,s.e,s.f,s.g,s.h]

def Kd.B (k:Kd):Nat:=k.W / 8

def Kd.size (k:Kd):Nat:=16*k.B

end Go.Proofs.YtolioccofbhliaaGreatDoor

namespace Go.Proofs.YtolioccofbhliaaGreatDoor
open Go.RowKit

def cW (K:IntKind) (l:List Nat):List Value:=l.map fun (n:Nat)=> .int K (n:Int)

def Rw (w:World) (g:Nat) (K:IntKind) (t:TypeId) (l:List Nat):Prop:=w.heap[g]? = some (.cells (cW K l).toArray t (0,0))

theorem Rw.lt {w:World} {g:Nat} {K:IntKind} {t:TypeId} {l:List Nat} (h:Rw w g K t l):g<w.heap.size:=(Array.getElem?_eq_some_iff.1 h).1

theorem Rw.kept {w w':World} {g:Nat} {K:IntKind} {t:TypeId} {l:List Nat} (h:Rw w g K t l) (hb:Below w.heap.size w w'):Rw w' g K t l:=row_kept h hb

theorem Rw.drew {w:World} {g:Nat} {K:IntKind} {t:TypeId} {l:List Nat} (h:Rw w g K t l):Rw w.drew g K t l:=h

theorem Rw.cell {w:World} {g:Nat} {K:IntKind} {t:TypeId} {l:List Nat} (h:Rw w g K t l) (i:Nat) (hi:i<l.length):w.cell? ⟨g,i,none⟩=some (.int K (l.getD i 0:Nat)):=by
 rw [cell_of_row w g i _ t _ h];simp [cW,hi]

theorem Rw.set {w:World} {g:Nat} {K:IntKind} {t:TypeId} {l:List Nat} (h:Rw w g K t l) (i n:Nat):Rw (w.setCell ⟨g,i,none⟩ (.int K (n:Int))) g K t (l.set i n):=by
 have:=Lib.heap_setCell_same h (i:=i) (.int K (n:Int));unfold Rw;rw [this]
 congr 2
 simp [cW,List.map_set]

theorem Rw.far {w:World} {g b j:Nat} {K:IntKind} {t:TypeId} {l:List Nat} {x:Value} (h:Rw w g K t l) (hne:g≠b):Rw (w.setCell ⟨b,j,none⟩ x) g K t l:=by
 unfold Rw;rw [Below.heap_setCell w ⟨b,j,none⟩ x g hne];exact h

theorem Rw.more {w:World} {g:Nat} {K:IntKind} {t:TypeId} {l:List Nat} (h:Rw w g K t l) (o:Obj):Rw (w.alloc o) g K t l:=h.kept ((Below.refl _ _).alloc (Nat.le_refl _) _)

theorem Rw.put {w:World} {g:Nat} {K:IntKind} {t:TypeId} {l:List Nat} (h:Rw w g K t l) (m:List Nat) (hm:m.length=l.length):Rw (w.setCells g 0 (cW K m)) g K t m:=by
 have key: ∀ (m a b:List Nat) (w:World),b.length=m.length→Rw w g K t (a++b)→Rw (w.setCells g a.length (cW K m)) g K t (a++m):=by
  intro m
  induction m with
  | nil=>intro a b w hb h;obtain rfl:=List.eq_nil_of_length_eq_zero hb;exact h
  | cons x r ih=>
    intro a b w hb h
    cases b with
    | nil=>simp at hb
    | cons y b=>
      have e:=h.set a.length x;have e2:(a++y::b).set a.length x=(a++[x])++b:=by simp
      rw [e2] at e;have:=ih (a++[x]) b _ (by simpa using hb) e
      simpa [cW,World.setCells] using this
 simpa using key m [] l w hm.symm h

theorem Below.both {B:Nat} {X Y:World} (h:Below B X Y) (a:Addr) (u:Value):Below B (X.setCell a u) (Y.setCell a u):=
 ⟨h.os,h.tape,h.output,by simpa [World.setCell] using h.size,fun k hk=>by simp only [World.setCell,Array.getElem?_modify,h.block k hk]⟩

def But1 (wr:World) (a:Addr) (u:Value) (X:World):Prop:=Below wr.heap.size (wr.setCell a u) (X.setCell a u)

theorem size_setCell (w:World) (a:Addr) (u:Value):(w.setCell a u).heap.size=w.heap.size:=by simp [World.setCell]

theorem But1.size {wr X:World} {a:Addr} {u:Value} (h:But1 wr a u X):wr.heap.size≤X.heap.size:=by
 have:=Below.size h
 rwa [size_setCell,size_setCell] at this

theorem But1.next {wr X Y:World} {a:Addr} {u:Value} (h:But1 wr a u X) (hb:Below X.heap.size X Y):But1 wr a u Y:=
 Below.trans h ((Below.both hb a u).mono h.size)

theorem twice (w:World) (a:Addr) (u:Value):(w.setCell a u).setCell a u=w.setCell a u:=by
 unfold World.setCell
 congr 1
 apply Array.ext_getElem?;intro i;simp only [Array.getElem?_modify];split
 ·cases w.heap[i]? with
  | none=>rfl
  | some o=>
    cases o with
    | cells c e f=>cases hs:a.spot<;>simp
    | _=>rfl
 ·rfl

theorem But1.put {wr X:World} {a:Addr} {u:Value} (h:But1 wr a u X):But1 wr a u (X.setCell a u):=by
 unfold But1;rw [twice];exact h

theorem But1.cell {wr X:World} {a:Addr} {u v:Value} (h:But1 wr a u X) {p:Addr} (hp:wr.cell? p=some v) (hne:a≠p):X.cell? p=some v:=by
 have h1:=Below.cell h (p:=p) (World.block_lt_of_cell? wr p hp);rw [World.cell?_setCell_other _ _ _ _ hne,World.cell?_setCell_other _ _ _ _ hne] at h1;rw [h1];exact hp

end Go.Proofs.YtolioccofbhliaaGreatDoor

namespace Go.Proofs.YtolioccofbhliaaGreatDoor
open Go.RowKit

def regionOf (n:Nat):Code→Option Code
 | .region id ops d=>if id=n then some (.region id ops d) else none
 | .seq a b=>match regionOf n a with
   | some c=>some c
   | none=>regionOf n b
 | .block _ c=>regionOf n c
 | .loop c=>regionOf n c
 | .scope c=>regionOf n c
 | .cond _ a b=>match regionOf n a with
   | some c=>some c
   | none=>regionOf n b
 | _=>none

def loopsOf:Code→List Code
 | .seq a b=>loopsOf a++loopsOf b
 | .block _ c=>loopsOf c
 | .loop c=>c::loopsOf c
 | .scope c=>loopsOf c
 | .cond _ a b=>loopsOf a++loopsOf b
 | _=>[]

def exit0 (K:Act→World→Prop):Exit→Act→World→Prop
 | .exit 0,a,w=>K a w
 | _,_,_=>False

theorem wp_cut0 {P:Program} {c:Code} {Q:Exit→Act→World→Prop} {a:Act} {w:World} (h:c.wp P (exit0 fun a w=>Q (.exit 0) a w) a w):c.wp P Q a w:=
 Code.wp_mono (fun e a w h=>by unfold exit0 at h;split at h<;>first | exact h | exact h.elim) h

theorem wp_cut {P:Program} {c:Code} {Q:Exit→Act→World→Prop} {a:Act} {w:World} (h:c.wp P (Exit.then (fun a w=>Q .normal a w) fun _ _ _=>False) a w):c.wp P Q a w:=
 Code.wp_mono (fun e a w h=>by cases e<;>first | exact h | exact h.elim) h

end Go.Proofs.YtolioccofbhliaaGreatDoor

namespace Go.Proofs.YtolioccofbhliaaGreatDoor
open Go.RowKit

theorem wp_append_slw {P:Program} (w:World) {o:Oper} {a:Act} {K:Act→World→Prop} {Q:Exit→Act→World→Prop} (s x:Operand) (t:TypeId)
 (ho:o.op = .call { callee:= .builtin .append,args:= #[s,x],argTypes:= #[t,t] })
 (B:Nat) (e:TypeId) (i:TypeInfo) (z:Value) (ht:P.underlying t=some (.slice e)) (hi:P.info? e=some i) (hz:i.zero=some z) (hsz:i.size=1) (hby:i.bytes=24) (hzs:z.cells.size=1)
 (v:Value) (us:List Value) (hs:a.eval s=v) (hv:SlV w B e v us) (ad:Addr) (c:Nat) (u:Value) (hx:a.eval x = .slice (some ad) 1 c) (hu:w.cell? (ad.add 0)=some u) (h1:u.oneCell'=true) (hn:us.length≤100000) (hB:B≤w.heap.size)
 (h: ∀ v' w',SlV w' B e v' (us++[u])→w.grownBy w' v.ownBlock→(v'.ownBlock=v.ownBlock ∨ ∃ k,v'.ownBlock=some k∧w.heap.size≤k)→K (a.put o.dst v') w'):o.wp P a w K Q:=by
 obtain ⟨v',w',hr,h2,h3,h4⟩:=run_append_slv (P:=P) w B t o.type e i z ht hi hz hsz hby hzs v us hv ad c u hu h1 hn hB
 unfold Oper.wp;simp [execOp,ho,resolve,invoke,builtin,hs,hx,hr,Result.andThen]
 exact h v' w' h2 h3 h4

theorem wpList_append_slw {P:Program} (w:World) {ops:Array Oper} {rest:List Oper} {o:Oper} {a:Act} {Q:Exit→Act→World→Prop} (hgd:o.guard=none) (s x:Operand) (t:TypeId)
 (ho:o.op = .call { callee:= .builtin .append,args:= #[s,x],argTypes:= #[t,t] })
 (B:Nat) (e:TypeId) (i:TypeInfo) (z:Value) (ht:P.underlying t=some (.slice e)) (hi:P.info? e=some i) (hz:i.zero=some z) (hsz:i.size=1) (hby:i.bytes=24) (hzs:z.cells.size=1)
 (v:Value) (us:List Value) (hs:a.eval s=v) (hv:SlV w B e v us) (ad:Addr) (c:Nat) (u:Value) (hx:a.eval x = .slice (some ad) 1 c) (hu:w.cell? (ad.add 0)=some u) (h1:u.oneCell'=true) (hn:us.length≤100000) (hB:B≤w.heap.size)
 (h: ∀ v' w',SlV w' B e v' (us++[u])→w.grownBy w' v.ownBlock→(v'.ownBlock=v.ownBlock ∨ ∃ k,v'.ownBlock=some k∧w.heap.size≤k)→wpList P ops Q rest (a.put o.dst v') w'):wpList P ops Q (o::rest) a w:=
 wpList_plain hgd fun _ hK=>wp_append_slw w s x t ho B e i z ht hi hz hsz hby hzs v us hs hv ad c u hx hu h1 hn hB fun v' w' h2 h3 h4=>hK _ _ (h v' w' h2 h3 h4)

theorem step_append_slw {P:Program} {ops:Array Oper} {o:Oper} {a:Act} {w:World} {K:Act→World→Prop} {Q:Exit→Act→World→Prop} {E:Prop} (hgd:o.guard=none) (s x:Operand) (t:TypeId)
 (ho:o.op = .call { callee:= .builtin .append,args:= #[s,x],argTypes:= #[t,t] })
 (B:Nat) (e:TypeId) (i:TypeInfo) (z:Value) (ht:P.underlying t=some (.slice e)) (hi:P.info? e=some i) (hz:i.zero=some z) (hsz:i.size=1) (hby:i.bytes=24) (hzs:z.cells.size=1)
 (v:Value) (us:List Value) (hs:a.eval s=v) (hv:SlV w B e v us) (ad:Addr) (c:Nat) (u:Value) (hx:a.eval x = .slice (some ad) 1 c) (hu:w.cell? (ad.add 0)=some u) (h1:u.oneCell'=true) (hn:us.length≤100000) (hB:B≤w.heap.size)
 (h: ∀ v' w',SlV w' B e v' (us++[u])→w.grownBy w' v.ownBlock→(v'.ownBlock=v.ownBlock ∨ ∃ k,v'.ownBlock=some k∧w.heap.size≤k)→K (a.put o.dst v') w'):
 if Region.wanted o (yielded ops a.tmps)=true then Oper.wp P o a w K Q else E:=by
 rw [if_pos (by simp [Region.wanted,hgd])];exact wp_append_slw w s x t ho B e i z ht hi hz hsz hby hzs v us hs hv ad c u hx hu h1 hn hB h

def AptV (a b:Value):Prop:=a.ownBlock=none∨a.ownBlock≠b.ownBlock

theorem SlV.alloc0 {w:World} {B:Nat} {T:TypeId} {v:Value} {us:List Value} (h:SlV w B T v us) (o:Obj):SlV (w.alloc o) B T v us:=h.same fun k hk=>Lib.alloc_old w o k (h.lt k hk).2

theorem SlV.kind {w:World} {B:Nat} {T:TypeId} {v:Value} {us:List Value} (h:SlV w B T v us) (g:Nat) (hg:v.ownBlock=some g): ∃ cur,w.heap[g]? = some (Obj.cells cur T (0,0)):=by
 rcases h with ⟨rfl,rfl⟩ | ⟨g',o,c,cur,rfl,_,hg',_⟩
 ·simp [Value.ownBlock] at hg
 ·simp [Value.ownBlock] at hg
  subst hg;exact ⟨cur,hg'⟩

theorem kind_nf {w:World} {k p:Nat} {a b:Array Value} {S T:TypeId} {f g:Nat×Nat} (h1:w.heap[k]? = some (.cells a S f)) (h2:w.heap[p]? = some (.cells b T g)) (hne:S≠T):k≠p:=fun e=>by
 rw [e,h2] at h1
 injection h1 with h1
 injection h1 with _ h1 _
 exact hne h1.symm

def cS (X:List ByteArray):List Value:=X.map Value.string

theorem cS_len (X:List ByteArray):(cS X).length=X.length:=by simp [cS]

theorem cS_one (X:List ByteArray): ∀ u ∈ cS X,u.oneCell'=true:=by
 intro u hu;obtain ⟨x,_,rfl⟩:=List.mem_map.1 hu
 rfl

def KpL (K:Nat) (T:TypeId) (w:World) (B:Nat) (v:Value) (n:Nat) (X:List ByteArray):Prop:=
 X.length=n*K∧((v = .slice none 0 0∧n=0) ∨ ∃ g o c cur,v = .slice (some ⟨g,o,none⟩) n c∧B≤g∧w.heap[g]? = some (.cells cur T (0,0))∧n≤c∧c≤maxLen∧o+c*K≤cur.size ∧ ∀ j (hj:j<X.length),cur[o+j]? = some (.string X[j]))

theorem KpL.nil (K:Nat) (T:TypeId) (w:World) (B:Nat):KpL K T w B (.slice none 0 0) 0 []:=⟨by simp,.inl ⟨rfl,rfl⟩⟩

theorem KpL.slice {K:Nat} {T:TypeId} {w:World} {B:Nat} {v:Value} {n:Nat} {X:List ByteArray} (h:KpL K T w B v n X): ∃ a c,v = .slice a n c∧n≤c∧c≤maxLen:=by
 rcases h.2 with ⟨rfl,rfl⟩ | ⟨g,o,c,cur,rfl,_,_,h1,h2,_⟩
 ·exact ⟨none,0,rfl,Nat.le_refl _,by decide⟩
 ·exact ⟨_,c,rfl,h1,h2⟩

theorem KpL.kind {K:Nat} {T:TypeId} {w:World} {B:Nat} {v:Value} {n:Nat} {X:List ByteArray} (h:KpL K T w B v n X) (g:Nat) (hg:v.ownBlock=some g): ∃ cur,w.heap[g]? = some (Obj.cells cur T (0,0)):=by
 rcases h.2 with ⟨rfl,rfl⟩ | ⟨g',o,c,cur,rfl,_,hg',_⟩
 ·simp [Value.ownBlock] at hg
 ·simp [Value.ownBlock] at hg
  subst hg;exact ⟨cur,hg'⟩

theorem KpL.lt {K:Nat} {T:TypeId} {w:World} {B:Nat} {v:Value} {n:Nat} {X:List ByteArray} (h:KpL K T w B v n X): ∀ k,v.ownBlock=some k→B≤k∧k<w.heap.size:=by
 intro k hk;rcases h.2 with ⟨rfl,rfl⟩ | ⟨g,o,c,cur,rfl,hB,hg,_⟩
 ·simp [Value.ownBlock] at hk
 ·simp [Value.ownBlock] at hk
  subst hk;exact ⟨hB,(Array.getElem?_eq_some_iff.1 hg).1⟩

theorem KpL.same {K:Nat} {T:TypeId} {w w':World} {B:Nat} {v:Value} {n:Nat} {X:List ByteArray} (h:KpL K T w B v n X) (hk: ∀ k,v.ownBlock=some k→w'.heap[k]? = w.heap[k]?):KpL K T w' B v n X:=by
 refine ⟨h.1,?_⟩
 rcases h.2 with h | ⟨g,o,c,cur,rfl,hB,hg,h1⟩
 ·exact .inl h
 ·exact .inr ⟨g,o,c,cur,rfl,hB,(hk g rfl).trans hg,h1⟩

theorem KpL.below {K:Nat} {T:TypeId} {w w':World} {B:Nat} {v:Value} {n:Nat} {X:List ByteArray} (h:KpL K T w B v n X) (hb:Below w.heap.size w w'):KpL K T w' B v n X:=h.same fun k hk=>hb.block k (h.lt k hk).2

theorem KpL.lower {K:Nat} {T:TypeId} {w:World} {B B':Nat} {v:Value} {n:Nat} {X:List ByteArray} (h:KpL K T w B v n X) (hB:B'≤B):KpL K T w B' v n X:=by
 refine ⟨h.1,?_⟩
 rcases h.2 with h | ⟨g,o,c,cur,rfl,hb,h1⟩
 ·exact .inl h
 ·exact .inr ⟨g,o,c,cur,rfl,Nat.le_trans hB hb,h1⟩

theorem KpL.cell {K:Nat} {T:TypeId} {w:World} {B:Nat} {a:Option Addr} {c n:Nat} {X:List ByteArray} (h:KpL K T w B (.slice a n c) n X) (j:Nat) (hj:j<n): ∃ g o,a=some ⟨g,o,none⟩ ∧ ∀ t (ht:t<K),w.cell? ⟨g,o+j*K+t,none⟩=some (.string (X.getD (j*K+t) ⟨#[]⟩)):=by
 rcases h.2 with ⟨e,rfl⟩ | ⟨g,o,c',cur,e,_,hg,_,_,_,h4⟩
 ·omega
 ·injection e with e1 _ _
  refine ⟨g,o,e1,fun t ht=> ?_⟩
  have hlt:j*K+t<X.length:=by
   rw [h.1];have:(j+1)*K≤n*K:=Nat.mul_le_mul_right K (by omega)
   rw [Nat.add_mul] at this;omega
  rw [Lib.cell_of_heap hg,Nat.add_assoc];rw [show X.getD (j*K+t) ⟨#[]⟩=X[j*K+t] by simp [List.getD,hlt]];exact h4 _ hlt

theorem KpL.cell1 {T:TypeId} {w:World} {B:Nat} {a:Option Addr} {c n:Nat} {X:List ByteArray} (h:KpL 1 T w B (.slice a n c) n X) (j:Nat) (hj:j<n): ∃ g o,a=some ⟨g,o,none⟩∧w.cell? ⟨g,o+j,none⟩=some (.string (X.getD j ⟨#[]⟩)):=by
 obtain ⟨g,o,e,h1⟩:=h.cell j hj
 have:=h1 0 (by decide)
 rw [Nat.mul_one,Nat.add_zero,Nat.add_zero] at this
 exact ⟨g,o,e,this⟩

theorem own_kp {K:Nat} {T:TypeId} {w:World} {B:Nat} {v:Value} {n:Nat} {X:List ByteArray} (h:w.ownsRow B T K v n (cS X)):KpL K T w B v n X:=by
 have h1:=h.1;rw [cS_len] at h1;refine ⟨h1,?_⟩
 rcases h.2 with ⟨hv,hn⟩ | ⟨g,cap,cur,rfl,hg,hrow,hnc,hcm,hcs,htake⟩
 ·exact .inl ⟨hv,hn⟩
 ·refine .inr ⟨g,0,cap,cur,rfl,hg,hrow,hnc,hcm,by omega,fun j hj=> ?_⟩
  have:=h.cellAt (g:=g) j (by rw [← h1];exact hj)
  rw [Lib.cell_of_heap hrow] at this;rw [Nat.zero_add,this]
  simp [cS,hj]

def TurnedBut (T:TypeId) (p:Nat) (w w':World):Prop:= ∀ k,k<w.heap.size→k≠p→(∀ cur fz,w.heap[k]? ≠ some (Obj.cells cur T fz))→w'.heap[k]? = w.heap[k]?

theorem TurnedBut.refl (T:TypeId) (p:Nat) (w:World):TurnedBut T p w w:=fun _ _ _ _=>rfl

theorem TurnedBut.below {T:TypeId} {p:Nat} {w w' w'':World} (h:TurnedBut T p w w') (hs:w.heap.size≤w'.heap.size) (hb:Below w'.heap.size w' w''):TurnedBut T p w w'':=fun k hk hp hn=>(hb.block k (by omega)).trans (h k hk hp hn)

theorem TurnedBut.trans {T:TypeId} {p:Nat} {w w' w'':World} (h:TurnedBut T p w w') (hs:w.heap.size≤w'.heap.size) (h2:TurnedBut T p w' w''):TurnedBut T p w w'':=fun k hk hp hn=>(h2 k (by omega) hp (by rw [h k hk hp hn];exact hn)).trans (h k hk hp hn)

theorem TurnedBut.at {T:TypeId} {p:Nat} {w w' w'':World} (h:TurnedBut T p w w') (hs:w.heap.size≤w'.heap.size) (h2: ∀ k,k<w'.heap.size→k≠p→w''.heap[k]? = w'.heap[k]?):TurnedBut T p w w'':=fun k hk hp hn=>(h2 k (by omega) hp).trans (h k hk hp hn)

def Bt (T:TypeId) (p B:Nat) (w w':World):Prop:=Below B w w'∧TurnedBut T p w w'

theorem Bt.refl (T:TypeId) (p B:Nat) (w:World):Bt T p B w w:=⟨Below.refl _ _,TurnedBut.refl _ _ _⟩

theorem Bt.step {T:TypeId} {p B:Nat} {w w' w'':World} (h:Bt T p B w w') (hB:B≤w'.heap.size) (hb:Below w'.heap.size w' w''):Bt T p B w w'':=⟨h.1.trans (hb.mono hB),h.2.below h.1.size hb⟩

theorem Bt.trans {T:TypeId} {p B:Nat} {w w' w'':World} (h:Bt T p B w w') (h2:Bt T p B w' w''):Bt T p B w w'':=⟨h.1.trans h2.1,h.2.trans h.1.size h2.2⟩

theorem Bt.drew {T:TypeId} {p B:Nat} {w w':World} (h:Bt T p B w w'):Bt T p B w w'.drew:=⟨h.1.drew,fun k hk hp hn=>h.2 k hk hp hn⟩

theorem Bt.set {T:TypeId} {p B:Nat} {w w':World} (h:Bt T p B w w') (hp:B≤p) (i:Nat) (v:Value):Bt T p B w (w'.setCell ⟨p,i,none⟩ v):=
 ⟨h.1.setCell (p:=⟨p,i,none⟩) hp v,h.2.at h.1.size fun k _ hk=>heap_setCell_other w' ⟨p,i,none⟩ k v hk⟩

theorem Bt.put {T:TypeId} {p B G:Nat} {w w':World} {cur:Array Value} {fz:Nat×Nat} (h:Bt T p B w w') (hG:w'.heap[G]? = some (.cells cur T fz)) (hB:B≤G) (i:Nat) (v:Value):Bt T p B w (w'.setCell ⟨G,i,none⟩ v):=by
 refine ⟨h.1.setCell (p:=⟨G,i,none⟩) hB v,fun k hk hp hn=> ?_⟩;have hs:=h.2 k hk hp hn;have hkG:k≠G:=fun e=>by
  rw [e] at hs hn;exact hn cur fz (hs.symm.trans hG)
 exact (heap_setCell_other w' ⟨G,i,none⟩ k v hkG).trans hs

def exit4b (K:Act→World→Prop):Exit→Act→World→Prop
 | .exit 4,a,w=>K a w
 | _,_,_=>False

theorem wp_cut4b {P:Program} {c:Code} {Q:Exit→Act→World→Prop} {a:Act} {w:World} (h:c.wp P (exit4b fun a w=>Q (.exit 4) a w) a w):c.wp P Q a w:=
 Code.wp_mono (fun e a w h=>by unfold exit4b at h;split at h<;>first | exact h | exact h.elim) h

end Go.Proofs.YtolioccofbhliaaGreatDoor

namespace Go.Proofs.YtolioccofbhliaaGreatDoor
open Go.RowKit

set_option maxHeartbeats 4000000 in
set_option maxRecDepth 100000 in
theorem bsames (v1 v2:Value) (n:Nat) (X:List ByteArray) (B:Nat) (w:World) (h1:KpL 1 9 w B v1 n X) (h2:KpL 1 9 w B v2 n X) (hl:n≤1000000001):
 Calls Tryz.prog 24 #[v1,v2] w fun e w'=>e = .returned (.bool true)∧Below w.heap.size w w':=by
 obtain ⟨a1,c1,rfl,hc1,hm1⟩:=h1.slice
 obtain ⟨a2,c2,rfl,hc2,hm2⟩:=h2.slice
 have HV1:=hid h1;have HV2:=hid h2;clear h1 h2
 go_enter Tryz.func24,Tryz.ntmps24
 go_wp2_with fail
 go_loopw [5] (fun v5 wr=> ∃ k:Nat,k≤n∧v5 = .int .i64 k∧Hid (Below w.heap.size w wr)) (fun v5 _=>n - (intOf v5).toNat)
 case atStart=>exact ⟨0,Nat.zero_le _,rfl,Below.refl _ w⟩
 case round=>
  obtain ⟨k,hk,rfl,HR⟩:=hrel
  by_cases hlt:k<n
  ·obtain ⟨b1,o1,rfl,e0⟩:=HV1.out.cell1 k hlt
   obtain ⟨b2,o2,rfl,g0⟩:=HV2.out.cell1 k hlt
   obtain ⟨S0,hS0⟩: ∃ S,S=X.getD (k) ⟨#[]⟩:=⟨_,rfl⟩
   rw [← hS0] at e0 g0;have f0:=kept_cell e0 HR.out;have k0:=kept_cell g0 HR.out;have hin:(k:Int)<(n:Int):=by omega
   clear e0 g0 hS0
   go_wp2_with fail
   go_quiet (fail)
   go_wp2_with fail
   go_roundw
   case rel=>
    first
     | exact ⟨k+1,by omega,by go_num,Go.below_drewN HR.out _⟩
     | ((repeat apply Exists.intro);refine ⟨?_,rfl⟩;exact ⟨k+1,by omega,by go_num,Go.below_drewN HR.out _⟩)
     | ((repeat apply Exists.intro);exact ⟨⟨k+1,by omega,by go_num,Go.below_drewN HR.out _⟩,rfl⟩)
   case measure=>simp [intOf];omega
  ·obtain rfl:k=n:=by omega
   clear hk hlt
   go_wp2_with fail
   go_ret
   exact ⟨rfl,HR.out⟩

end Go.Proofs.YtolioccofbhliaaGreatDoor

namespace Go.Proofs.YtolioccofbhliaaGreatDoor
open Go.RowKit

theorem infoLss:(Tryz.prog.info? 50).map (fun i=>(i.zero,i.size,i.bytes))=some (some (.slice none 0 0),1,24):=by kernel_rfl

theorem infoEs:(Tryz.prog.info? 9).map (fun i=>(i.zero,i.size,i.bytes))=some (some (.string ByteArray.empty),1,16):=by kernel_rfl

def Prs (w:World) (B:Nat) (x y:Value):Prop:= ∃ (n:Nat) (X:List ByteArray),n≤1000∧KpL 1 9 w B x n X∧KpL 1 9 w B y n X

def Bks (w:World) (B p:Nat) (h:Int) (A Y:Value) (xs ys:List Value):Prop:=
 B≤p∧ys.length=xs.length∧w.heap[p]? = some (Obj.cells #[A,Y,.int .i64 h,.bool false] 76 (0,0))∧SlV w B 50 A xs∧SlV w B 50 Y ys∧AptV A Y ∧
 (∀ (i:Nat) (x y:Value),xs[i]? = some x→ys[i]? = some y→Prs w B x y)∧xs.Pairwise AptV

theorem Prs.same {w w':World} {B:Nat} {x y:Value} (h:Prs w B x y) (hk: ∀ k:Nat,(∃ (cur:Array Value) (fz:Nat×Nat),w.heap[k]? = some (Obj.cells cur 9 fz))→w'.heap[k]? = w.heap[k]?):Prs w' B x y:=by
 obtain ⟨n,L,hl,h1,h2⟩:=h
 exact ⟨n,L,hl,h1.same fun g hg=>hk g (by obtain ⟨cur,hc⟩:=h1.kind g hg;exact ⟨cur,_,hc⟩),h2.same fun g hg=>hk g (by obtain ⟨cur,hc⟩:=h2.kind g hg;exact ⟨cur,_,hc⟩)⟩

theorem Bks.lt {w:World} {B p:Nat} {h:Int} {A Y:Value} {xs ys:List Value} (hb:Bks w B p h A Y xs ys):p<w.heap.size:=(Array.getElem?_eq_some_iff.1 hb.2.2.1).1

theorem Bks.turn {w w':World} {B p:Nat} {h h':Int} {A Y:Value} {xs ys:List Value} (hb:Bks w B p h A Y xs ys) (hp:w'.heap[p]? = some (Obj.cells #[A,Y,.int .i64 h',.bool false] 76 (0,0))) (hk: ∀ k,k<w.heap.size→k≠p→w'.heap[k]? = w.heap[k]?):Bks w' B p h' A Y xs ys:=by
 obtain ⟨h1,h2,h3,h4,h5,h6,h7,h8⟩:=hb
 refine ⟨h1,h2,hp,h4.same fun k hk'=>hk k (h4.lt k hk').2 (fun e=>h4.other h3 (by decide) (by rw [hk'];exact congrArg some e)),h5.same fun k hk'=>hk k (h5.lt k hk').2 (fun e=>h5.other h3 (by decide) (by rw [hk'];exact congrArg some e)),h6,fun i x y hx hy=>(h7 i x y hx hy).same fun k hk'=> ?_,h8⟩
 obtain ⟨cur,fz,hc⟩:=hk'
 exact hk k (Array.getElem?_eq_some_iff.1 hc).1 (kind_nf hc h3 (by decide))

theorem Bks.below {w w':World} {B p:Nat} {h:Int} {A Y:Value} {xs ys:List Value} (hb:Bks w B p h A Y xs ys) (hbl:Below w.heap.size w w'):Bks w' B p h A Y xs ys:=
 hb.turn ((hbl.block p hb.lt).trans hb.2.2.1) fun k hk _=>hbl.block k hk

theorem Bks.apart {w w':World} {B p:Nat} {h:Int} {A Y:Value} {xs ys:List Value} (hb:Bks w B p h A Y xs ys) (hk: ∀ k cur S fz,w.heap[k]? = some (Obj.cells cur S fz)→(S=9∨S=50∨k=p)→w'.heap[k]? = w.heap[k]?):Bks w' B p h A Y xs ys:=by
 obtain ⟨h1,h2,h3,h4,h5,h6,h7,h8⟩:=hb
 refine ⟨h1,h2,(hk p _ _ _ h3 (.inr (.inr rfl))).trans h3,h4.same fun k hk'=> ?_,h5.same fun k hk'=> ?_,h6,fun i x y hx hy=>(h7 i x y hx hy).same fun k hk'=> ?_,h8⟩
 ·obtain ⟨cur,hc⟩:=h4.kind k hk'
  exact hk k _ _ _ hc (.inr (.inl rfl))
 ·obtain ⟨cur,hc⟩:=h5.kind k hk'
  exact hk k _ _ _ hc (.inr (.inl rfl))
 ·obtain ⟨cur,fz,hc⟩:=hk'
  exact hk k _ _ _ hc (.inl rfl)

theorem Bks.drop {w w':World} {B p gA oA cA gY oY cY:Nat} {h h':Int} {a y:Value} {xs ys:List Value} (hb:Bks w B p h (.slice (some ⟨gA,oA,none⟩) (xs.length+1) cA) (.slice (some ⟨gY,oY,none⟩) (ys.length+1) cY) (a::xs) (y::ys))
 (hp:w'.heap[p]? = some (Obj.cells #[.slice (some ⟨gA,oA+1,none⟩) xs.length (cA - 1),.slice (some ⟨gY,oY+1,none⟩) ys.length (cY - 1),.int .i64 h',.bool false] 76 (0,0))) (hk: ∀ k,k<w.heap.size→k≠p→w'.heap[k]? = w.heap[k]?):
 Bks w' B p h' (.slice (some ⟨gA,oA+1,none⟩) xs.length (cA - 1)) (.slice (some ⟨gY,oY+1,none⟩) ys.length (cY - 1)) xs ys:=by
 obtain ⟨h1,h2,h3,h4,h5,h6,h7,h8⟩:=hb
 have e4:=h4.tail;have e5:=h5.tail;have o4:=h4.other h3 (by decide)
 have o5:=h5.other h3 (by decide)
 refine ⟨h1,by simpa using h2,hp,e4.same fun k hk'=>hk k (e4.lt k hk').2 (fun e=>o4 (by show some gA=some p;rw [← e];exact hk')),e5.same fun k hk'=>hk k (e5.lt k hk').2 (fun e=>o5 (by show some gY=some p;rw [← e];exact hk')),?_,fun i x z hx hz=>(h7 (i+1) x z (by simpa using hx) (by simpa using hz)).same fun k hk'=> ?_,(List.pairwise_cons.1 h8).2⟩
 ·rcases h6 with h6 | h6
  ·exact .inl h6
  ·exact .inr h6
 ·obtain ⟨cur,fz,hc⟩:=hk'
  exact hk k (Array.getElem?_eq_some_iff.1 hc).1 (kind_nf hc h3 (by decide))

theorem sizeLss (w:World):(sizeOf (Tryz.prog.elem 74)).run Tryz.prog w = .ok 1 w:=by kernel_rfl

theorem undLss:Tryz.prog.underlying 74=some (.slice (Tryz.prog.elem 74)):=by kernel_rfl

theorem slice_tails (g o n c:Nat) (w:World) (hn:1≤n) (hc:2≤c):(Instr.sliceAt 74 (.slice (some ⟨g,o,none⟩) n c) (some (.int .i64 1)) none none).run Tryz.prog w = .ok (.slice (some ⟨g,o+1,none⟩) (n - 1) (c - 1)) w:=by
 rw [run_sliceAt_slice (h:=undLss),run_slice_l (ht:=undLss) (h0:=by omega) (h1:=by omega),sizeLss];simp only [Result.andThen,sliced,Option.map_some]
 rw [if_neg (by simp;omega)];simp [Addr.add_lit]

end Go.Proofs.YtolioccofbhliaaGreatDoor

namespace Go.Proofs.YtolioccofbhliaaGreatDoor
open Go.RowKit

theorem add1s {w w2:World} {B p:Nat} {h:Int} {A Y X AA:Value} {xs ys:List Value} {o:Obj} (hb:Bks w B p h A Y xs ys) (hBw:B≤w.heap.size) (hAA:SlV w2 B 50 AA (xs++[X])) (hgrow:(w.alloc o).grownBy w2 A.ownBlock)
 (hwh:AA.ownBlock=A.ownBlock ∨ ∃ k,AA.ownBlock=some k∧w.heap.size≤k):
 w2.heap[p]? = some (Obj.cells #[A,Y,.int .i64 h,.bool false] 76 (0,0)) ∧
 (w2.setCell ⟨p,0,none⟩ AA).heap[p]? = some (Obj.cells #[AA,Y,.int .i64 h,.bool false] 76 (0,0))∧SlV (w2.setCell ⟨p,0,none⟩ AA) B 50 AA (xs++[X])∧SlV (w2.setCell ⟨p,0,none⟩ AA) B 50 Y ys∧AptV AA Y ∧
 (∀ v n cs,KpL 1 9 w B v n cs→KpL 1 9 (w2.setCell ⟨p,0,none⟩ AA) B v n cs)∧Bt 50 p B w (w2.setCell ⟨p,0,none⟩ AA):=by
 obtain ⟨hBp,hyl,hp,hA,hY,hAY,hpr,hpw⟩:=hb
 have hlt:p<w.heap.size:=(Array.getElem?_eq_some_iff.1 hp).1;have hpA:=hA.other hp (by decide)
 have hpY:=hY.other hp (by decide)
 have hb2:w2.heap[p]? = some (Obj.cells #[A,Y,.int .i64 h,.bool false] 76 (0,0)):=(hgrow.block p (by simp;omega) (fun e=>hpA e.symm)).trans ((Lib.alloc_old w o p hlt).trans hp);have hpA':=hAA.other hb2 (by decide)
 have hold: ∀ k,k<w.heap.size→some k≠A.ownBlock→k≠p→(w2.setCell ⟨p,0,none⟩ AA).heap[k]? = w.heap[k]? :=fun k hk hkA hkp=>by
  rw [heap_setCell_other w2 ⟨p,0,none⟩ k AA hkp,hgrow.block k (by simp;omega) hkA,Lib.alloc_old w o k hk]
 refine ⟨hb2,heap_setCell_same w2 p 0 _ _ AA hb2,hAA.same fun k hk=>heap_setCell_other w2 ⟨p,0,none⟩ k AA (fun e=>hpA' (by rw [hk];exact congrArg some e)),hY.same fun k hk=>hold k (hY.lt k hk).2 (fun e=> ?_) (fun e=>hpY (by rw [hk];exact congrArg some e)),?_,fun v n cs hv=>hv.same fun k hk=> ?_,?_,fun k hk hkp hn=>hold k hk (fun e=> ?_) hkp⟩
 ·rcases hAY with h1 | h1
  ·rw [h1] at e;cases e
  ·exact h1 (by rw [hk];exact e.symm)
 ·rcases hwh with e | ⟨k,e,hk⟩
  ·rcases hAY with h1 | h1
   ·exact .inl (e.trans h1)
   ·exact .inr (by rw [e];exact h1)
  ·refine .inr fun e2=> ?_
   have:=(hY.lt k (by rw [← e2,e])).2;omega
 ·obtain ⟨cur,hcur⟩:=hv.kind k hk
  refine hold k (hv.lt k hk).2 (fun e=>hA.other hcur (by decide) e.symm) (kind_nf hcur hp (by decide))
 ·exact (((Below.refl B w).alloc hBw o).grown hgrow (by simp;omega) (fun k hk=>(hA.lt k hk).1)).setCell (p:=⟨p,0,none⟩) hBp _
 ·obtain ⟨cur,hc⟩:=hA.kind k e.symm
  exact hn _ _ hc

theorem add2s {w3 w4 w5:World} {B p:Nat} {h:Int} {AA Y YY y:Value} {us ys:List Value} {cs:List ByteArray} {n:Nat} {o:Obj} (hBp:B≤p) (hp3:w3.heap[p]? = some (Obj.cells #[AA,Y,.int .i64 h,.bool false] 76 (0,0))) (hA3:SlV w3 B 50 AA us) (hY3:SlV w3 B 50 Y ys) (hAY:AptV AA Y) (hBw:B≤w3.heap.size)
 (hg4:w3.grownBy w4 none) (hy4:KpL 1 9 w4 B y n cs) (hYY:SlV w5 B 50 YY (ys++[y])) (hg5:(w4.alloc o).grownBy w5 Y.ownBlock) (hwh:YY.ownBlock=Y.ownBlock ∨ ∃ k,YY.ownBlock=some k∧w4.heap.size≤k):
 w5.heap[p]? = some (Obj.cells #[AA,Y,.int .i64 h,.bool false] 76 (0,0)) ∧
 (w5.setCell ⟨p,1,none⟩ YY).heap[p]? = some (Obj.cells #[AA,YY,.int .i64 h,.bool false] 76 (0,0))∧SlV (w5.setCell ⟨p,1,none⟩ YY) B 50 AA us∧SlV (w5.setCell ⟨p,1,none⟩ YY) B 50 YY (ys++[y])∧AptV AA YY ∧
 (∀ v n cs,KpL 1 9 w3 B v n cs→KpL 1 9 (w5.setCell ⟨p,1,none⟩ YY) B v n cs)∧KpL 1 9 (w5.setCell ⟨p,1,none⟩ YY) B y n cs∧Bt 50 p B w3 (w5.setCell ⟨p,1,none⟩ YY):=by
 have hlt:p<w3.heap.size:=(Array.getElem?_eq_some_iff.1 hp3).1;have hs4:=hg4.size;have hpA:=hA3.other hp3 (by decide)
 have hpY:=hY3.other hp3 (by decide)
 have hY4:SlV w4 B 50 Y ys:=hY3.same fun k hk=>hg4.block k (hY3.lt k hk).2 (by simp)
 have hp4:=(hg4.block p hlt (by simp)).trans hp3;have hp5:=(hg5.block p (by simp;omega) (fun e=>hpY e.symm)).trans ((Lib.alloc_old w4 o p (by omega)).trans hp4);have hpYY:=hYY.other hp5 (by decide)
 have hold4: ∀ k,k<w4.heap.size→some k≠Y.ownBlock→k≠p→(w5.setCell ⟨p,1,none⟩ YY).heap[k]? = w4.heap[k]? :=fun k hk hkY hkp=>by
  rw [heap_setCell_other w5 ⟨p,1,none⟩ k YY hkp,hg5.block k (by simp;omega) hkY,Lib.alloc_old w4 o k hk]
 have hold: ∀ k,k<w3.heap.size→some k≠Y.ownBlock→k≠p→(w5.setCell ⟨p,1,none⟩ YY).heap[k]? = w3.heap[k]? :=fun k hk hkY hkp=>(hold4 k (by omega) hkY hkp).trans (hg4.block k hk (by simp))
 refine ⟨hp5,heap_setCell_same w5 p 1 _ _ YY hp5,hA3.same fun k hk=>hold k (hA3.lt k hk).2 (fun e=> ?_) (fun e=>hpA (by rw [hk];exact congrArg some e)),hYY.same fun k hk=>heap_setCell_other w5 ⟨p,1,none⟩ k YY (fun e=>hpYY (by rw [hk];exact congrArg some e)),?_,fun v n cs hv=>hv.same fun k hk=> ?_,hy4.same fun k hk=> ?_,?_,fun k hk hkp hn=>hold k hk (fun e=> ?_) hkp⟩
 ·rcases hAY with h1 | h1
  ·rw [h1] at hk;cases hk
  ·exact h1 (by rw [hk];exact e)
 ·rcases hwh with e | ⟨k,e,hk⟩
  ·rcases hAY with h1 | h1
   ·exact .inl h1
   ·exact .inr (by rw [e];exact h1)
  ·by_cases hn:AA.ownBlock=none
   ·exact .inl hn
   ·refine .inr fun e2=> ?_
    have:=(hA3.lt k (by rw [e2,e])).2;omega
 ·obtain ⟨cur,hcur⟩:=hv.kind k hk
  exact hold k (hv.lt k hk).2 (fun e=>hY3.other hcur (by decide) e.symm) (kind_nf hcur hp3 (by decide))
 ·obtain ⟨cur,hcur⟩:=hy4.kind k hk
  exact hold4 k (hy4.lt k hk).2 (fun e=>hY4.other hcur (by decide) e.symm) (kind_nf hcur hp4 (by decide))
 ·have h4:Below B w3 w4:=(Below.refl B w3).grown hg4 hBw (fun k hk=>by simp at hk)
  exact ((h4.alloc (by omega) o).grown hg5 (by simp;omega) (fun k hk=>(hY3.lt k hk).1)).setCell (p:=⟨p,1,none⟩) hBp _
 ·obtain ⟨cur,hc⟩:=hY3.kind k e.symm
  exact hn _ _ hc

theorem add3s {w w3 w6:World} {B p n:Nat} {h:Int} {A Y AA YY X y:Value} {xs ys:List Value} {L:List ByteArray} (hb:Bks w B p h A Y xs ys) (hX:KpL 1 9 w B X n L) (hL:n≤1000) (hap: ∀ a ∈ xs,AptV a X)
 (hr3: ∀ v n cs,KpL 1 9 w B v n cs→KpL 1 9 w3 B v n cs) (hr6: ∀ v n cs,KpL 1 9 w3 B v n cs→KpL 1 9 w6 B v n cs) (hy:KpL 1 9 w6 B y n L)
 (hp6:w6.heap[p]? = some (Obj.cells #[AA,YY,.int .i64 h,.bool false] 76 (0,0))) (hA6:SlV w6 B 50 AA (xs++[X])) (hY6:SlV w6 B 50 YY (ys++[y])) (hAY:AptV AA YY):
 Bks w6 B p h AA YY (xs++[X]) (ys++[y]):=by
 obtain ⟨hBp,hyl,hp,hA,hY,_,hpr,hpw⟩:=hb
 refine ⟨hBp,by simp [hyl],hp6,hA6,hY6,hAY,fun i a b ha hb=> ?_,?_⟩
 ·by_cases hi:i<xs.length
  ·rw [List.getElem?_append_left hi] at ha
   rw [List.getElem?_append_left (by omega)] at hb;obtain ⟨m,M,hM,h1,h2⟩:=hpr i a b ha hb
   exact ⟨m,M,hM,hr6 _ _ _ (hr3 _ _ _ h1),hr6 _ _ _ (hr3 _ _ _ h2)⟩
  ·have hi2:i=xs.length:=by
    have:=(List.getElem?_eq_some_iff.1 ha).1;simp at this;omega
   subst hi2;rw [List.getElem?_append_right (Nat.le_refl _),Nat.sub_self] at ha;rw [List.getElem?_append_right (by omega),hyl,Nat.sub_self] at hb;simp at ha hb;subst ha hb;exact ⟨n,L,hL,hr6 _ _ _ (hr3 _ _ _ hX),hy⟩
 ·rw [List.pairwise_append]
  refine ⟨hpw,List.pairwise_singleton _ _,fun a ha b hb=> ?_⟩
  rw [List.mem_singleton.1 hb];exact hap a ha

end Go.Proofs.YtolioccofbhliaaGreatDoor
