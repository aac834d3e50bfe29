/- Walks and plain facts. -/
import Derived.Test.YtijpkalkfbejeaaGreatDoorQm18
import Derived.Test.YtijpkalkfbejeaaGreatDoorQm26
set_option linter.unusedSimpArgs false
set_option linter.unusedVariables false
set_option maxHeartbeats 16000000
set_option maxRecDepth 100000

namespace Go.Proofs.YtijpkalkfbejeaaGreatDoor
open Go.RowKit
theorem withAuth_err {u:Adr} {r:List UInt8} {e:Int} (h:withAuth u r = .error e):e=10∨e=11:=by
 unfold withAuth at h;split at h
 ·rename_i e' he
  injection h with h
  subst h;exact authV_err he
 ·cases h
theorem startV_err {u:Adr} {r:List UInt8} {e:Int} (h:startV u r = .error e):e=10∨e=11:=by
 unfold startV at h;split at h
 ·exact withAuth_err h
 ·split at h
  ·exact withAuth_err h
  ·split at h
   ·cases h
   ·cases h
theorem low_nil {l:List UInt8} (h:low l=[]):l=[]:=by
 cases l with
 | nil=>rfl
 | cons a l=>cases h
theorem schemeV_ne {l n b:List UInt8} (h:schemeV l=some (n,b)):n≠[]/\n.length<=l.length/\b.length<=l.length:=by
 unfold schemeV at h;split at h
 ·rename_i hh
  injection h with h
  simp only [Prod.mk.injEq] at h;obtain ⟨rfl,rfl⟩:=h
  have hp:=part_le 58 l;refine ⟨?_,by rw [show low (part 58 l).1=(part 58 l).1.map lowC from rfl,List.length_map];exact hp.1,hp.2⟩
  intro e;have:=low_nil e;rw [this] at hh;simp [schOk] at hh
 ·cases h
theorem begin_some {s n b:List UInt8} (h:schemeV (part 35 (cleanV s)).1=some (n,b)):beginU s=(⟨n,[],[],[],false,-1,false,[],[],pct 2 (part 35 (cleanV s)).2.1,false,(part 35 (cleanV s)).2.2⟩,b):=by
 unfold beginU;simp only [h,Option.getD_some]
theorem begin_none {s:List UInt8} (h:schemeV (part 35 (cleanV s)).1=none):(beginU s).1.scheme=[]:=by
 unfold beginU;simp only [h,Option.getD_none]
theorem rparse3_any (s:ByteArray) (w:World) (hs:s.size<=100000):
 Calls Tryz.prog 14 #[.string s] w (ReadPost (readV s.data.toList none) w):=by
 have h0:AdrIn (w.alloc (.cells (adrCells Adr.zero (.slice none 0 0)).toArray 24)) w.heap.size Adr.zero (.slice none 0 0):=heap_alloc_new w _;have hb0:Below w.heap.size w (w.alloc (.cells (adrCells Adr.zero (.slice none 0 0)).toArray 24)):=(Below.refl _ w).alloc (Nat.le_refl _) _;have hz0:(w.alloc (.cells (adrCells Adr.zero (.slice none 0 0)).toArray 24)).heap.size=w.heap.size+1:=by simp
 have H0:=hid h0;have HB0:=hid hb0;have HZ0:=hid hz0;clear h0 hb0 hz0;by_cases hlong:4096<s.size
 ·have HN:=hid (readV_long (s:=s.data.toList) (b:=none) (by simpa using hlong))
  have hl':(4096:Int)<(s.size:Int):=by omega
  go_enter Tryz.func14,Tryz.ntmps14
  go_wp2_with (refine wpList_store_mid rfl 24 (.tmp 2) (.tmp 13) rfl w.heap.size 0 (adrCells Adr.zero (.slice none 0 0)).toArray rfl rfl H0.out.there (sizeUa _ _) (all_oneCell_toArray (adrCells_one _ _ ⟨_,_,_,rfl⟩)) ?_)
  refine bodyPost_ret (results_u2 rfl _ _ w.heap.size Adr.zero (.slice none 0 0) rfl (range_row H0.out.store)) rfl ⟨.slice none 0 0,?_,?_,below_setCells (Nat.le_refl _) _ _ _ HB0.out⟩
  ·rw [HN.out];rfl
  ·rw [HN.out];exact own_nil _ _ _
 ·have hl': ¬ (4096:Int)<(s.size:Int):=by omega
  have hnl: ¬ 4096<s.data.toList.length:=by simpa using hlong
  obtain ⟨C,hC⟩: ∃ X:ByteArray,X=⟨(cleanV s.data.toList).toArray⟩:=⟨_,rfl⟩
  have hCl:C.data.toList=cleanV s.data.toList:=by rw [hC]
  have hCs:C.size<=100000:=by rw [hC];exact size_le (clean_le _) hs
  have hpl:=part_le 35 C.data.toList;obtain ⟨X,hX⟩: ∃ X:ByteArray,X=⟨(part 35 C.data.toList).1.toArray⟩:=⟨_,rfl⟩
  have hXl:X.data.toList=(part 35 C.data.toList).1:=by rw [hX]
  have hXs:X.size<=100000:=by rw [hX];exact size_le hpl.1 hCs
  obtain ⟨F,hF⟩: ∃ F,F=pct 2 (part 35 C.data.toList).2.1:=⟨_,rfl⟩
  obtain ⟨hf,hhf⟩: ∃ F,F=(part 35 C.data.toList).2.2:=⟨_,rfl⟩
  have HCl:Hid (∀ w:World,Calls Tryz.prog 25 #[.string s] w fun e w'=>e = .returned (.string C)/\w=w'):=fun w=>by rw [hC];exact rclean_any s w (by omega)
  have HSp:Hid (∀ (w:World) (b:Nat),AdrIn w b Adr.zero (.slice none 0 0)->Calls Tryz.prog 24 #[.pointer (some ⟨b,0,none⟩),.string C] w fun e w'=>e = .returned (.string X)/\Only b w w'/\AdrIn w' b { Adr.zero with fragment:=F,hasFragment:=hf } (.slice none 0 0)):=fun w b h=>by
   have:=rsplit_any C b Adr.zero (.slice none 0 0) w hCs h ⟨rfl,rfl⟩
   rw [<- hX,<- hF,<- hhf] at this;exact this
  obtain ⟨o,ho⟩: ∃ o,o=schemeV X.data.toList:=⟨_,rfl⟩
  have HSc:Hid (∀ w:World,Calls Tryz.prog 26 #[.string X] w fun e w'=>e = .returned (schP o)/\Below w.heap.size w w'):=fun w=>by rw [ho];exact rscheme_any X w (by omega)
  have ho2:schemeV (part 35 (cleanV s.data.toList)).1=o:=by rw [ho,hXl,hCl]
  have HNo:=hid (show o=none->readV s.data.toList none = .error 12 by
   intro h;exact readV_bare hnl (begin_none (by rw [ho2,h])))
  have HSo:=hid (show ∀ n b,o=some (n,b)->readV s.data.toList none=startV { ({ ({ Adr.zero with fragment:=F,hasFragment:=hf }:Adr) with scheme:=n }:Adr) with port:= -1 } b/\b.length<=100000 by
   intro n b h;have h1:=begin_some (s:=s.data.toList) (by rw [ho2,h])
   have h2:=schemeV_ne (ho2.trans h);rw [readV_full hnl (by rw [h1];exact h2.1),h1,hF,hhf,hCl];refine ⟨rfl,?_⟩
   rw [<- hCl,<- hXl] at h2;have:=h2.2.2;rw [<- Lib.size_eq] at this
   omega)
  clear hC hCl hpl hX hXl hF hhf ho ho2 hnl hlong;have hN1:AdrIn ((w.alloc (.cells (adrCells Adr.zero (.slice none 0 0)).toArray 24)).alloc (.cells (adrCells Adr.zero (.slice none 0 0)).toArray 24)) (w.heap.size+1) Adr.zero (.slice none 0 0):=by
   have:=heap_alloc_new (w.alloc (.cells (adrCells Adr.zero (.slice none 0 0)).toArray 24)) (.cells (adrCells Adr.zero (.slice none 0 0)).toArray 24);rw [HZ0.out] at this;exact this
  have hR1:AdrIn ((w.alloc (.cells (adrCells Adr.zero (.slice none 0 0)).toArray 24)).alloc (.cells (adrCells Adr.zero (.slice none 0 0)).toArray 24)) w.heap.size Adr.zero (.slice none 0 0):=H0.out.kept ((Below.refl _ _).alloc (Nat.le_refl _) _);have hB1:Below w.heap.size w ((w.alloc (.cells (adrCells Adr.zero (.slice none 0 0)).toArray 24)).alloc (.cells (adrCells Adr.zero (.slice none 0 0)).toArray 24)):=below2 HB0.out ((Below.refl _ _).alloc (Nat.le_refl _) _);have HN1:=hid hN1;have HR1:=hid hR1;have HB1:=hid hB1;clear hN1 hR1 hB1
  go_enter Tryz.func14,Tryz.ntmps14
  go_wp2_with fail
  refine (HCl.out _).mono ?_;rintro e w' ⟨rfl,rfl⟩
  go_wp2_with fail
  refine (HSp.out _ _ HN1.out).mono ?_;rintro e w2 ⟨rfl,ho2,h2⟩
  have HR2:=hid (show AdrIn w2 w.heap.size Adr.zero (.slice none 0 0) by
   have:=HR1.out;unfold AdrIn at this ⊢;rw [ho2.1.block _ (by omega)];exact this)
  have HB2:=hid (HB1.out.trans (ho2.1.mono (by omega)));have H2:=hid h2;clear ho2 h2
  go_wp2_with fail
  refine (HSc.out _).mono ?_;rintro e w3 ⟨rfl,hb3⟩
  have H3:=hid (H2.out.kept hb3);have HR3:=hid (HR2.out.kept hb3);have HB3:=hid (below2 HB2.out hb3);clear hb3
  cases o with
  | none=>
    have HN:=hid (HNo.out rfl);rw [show schP none = .tuple #[.string ⟨#[]⟩,.string ⟨#[]⟩,.bool false] from rfl]
    go_wp2_with (refine wpList_store_mid rfl 24 (.tmp 2) (.tmp 25) rfl w.heap.size 0 (adrCells Adr.zero (.slice none 0 0)).toArray rfl rfl HR3.out.there (sizeUa _ _) (all_oneCell_toArray (adrCells_one _ _ ⟨_,_,_,rfl⟩)) ?_)
    refine bodyPost_ret (results_u2 rfl _ _ w.heap.size Adr.zero (.slice none 0 0) rfl (range_row HR3.out.store)) rfl ⟨.slice none 0 0,?_,?_,below_setCells (Nat.le_refl _) _ _ _ HB3.out⟩
    ·rw [HN.out];rfl
    ·rw [HN.out];exact own_nil _ _ _
  | some nb=>
    obtain ⟨n,bh⟩:=nb
    obtain ⟨hread,hbl⟩:=HSo.out n bh rfl
    obtain ⟨NB,hNB⟩: ∃ X:ByteArray,X=⟨n.toArray⟩:=⟨_,rfl⟩
    obtain ⟨BB,hBB⟩: ∃ X:ByteArray,X=⟨bh.toArray⟩:=⟨_,rfl⟩
    have hBs:BB.size<=100000:=by rw [hBB];exact hbl
    rw [show schP (some (n,bh)) = .tuple #[.string NB,.string BB,.bool true] by rw [hNB,hBB];rfl];have hc0:=H3.out.cell 0 _ rfl;have hf0:=H3.out.frozen 0;obtain ⟨U,hU⟩: ∃ U:Adr,U={ ({ Adr.zero with fragment:=F,hasFragment:=hf }:Adr) with scheme:=n }:=⟨_,rfl⟩
    have h4:AdrIn (w3.setCell ⟨w.heap.size+1,0,none⟩ (.string NB)) (w.heap.size+1) U (.slice none 0 0):=by rw [hU,hNB];exact H3.out.set 0 _ rfl
    have hr4:AdrIn (w3.setCell ⟨w.heap.size+1,0,none⟩ (.string NB)) w.heap.size Adr.zero (.slice none 0 0):=HR3.out.set_other (by omega) 0 _
    have hb4:Below w.heap.size w (w3.setCell ⟨w.heap.size+1,0,none⟩ (.string NB)):=HB3.out.setCell (p:=⟨w.heap.size+1,0,none⟩) (by show w.heap.size<=w.heap.size+1;omega) _
    have hread2:readV s.data.toList none=startV { U with port:= -1 } BB.data.toList:=by rw [hread,hU,hBB]
    obtain ⟨r,hr⟩: ∃ r,r=startV { U with port:= -1 } BB.data.toList:=⟨_,rfl⟩
    have HFu:=hid (fun (w':World) (h:AdrIn w' (w.heap.size+1) U (.slice none 0 0))=>rfull_any BB (w.heap.size+1) U (.slice none 0 0) w' hBs h (by rw [hU];exact ⟨rfl,rfl⟩));rw [<- hr] at HFu;have HN:=hid (show readV s.data.toList none=r by rw [hread2,hr]);have HEr:=hid (show ∀ e,r = .error e->e=10∨e=11 by intro e he;exact startV_err (hr.symm.trans he));have H4:=hid h4;have HR4:=hid hr4;have HB4:=hid hb4;clear hread hbl hNB hBB hU h4 hr4 hb4 hread2 hr HSo HNo
    go_wp2_with fail
    generalize (w3.setCell ⟨w.heap.size+1,0,none⟩ (.string NB))=w4 at *
    refine (HFu.out _ H4.out).mono ?_;rintro e w5 ⟨rfl,hb5,h5⟩
    have HR5:=hid (show AdrIn w5 w.heap.size Adr.zero (.slice none 0 0) by
     have:=HR4.out;unfold AdrIn at this ⊢;rw [hb5.block _ (by omega)];exact this)
    have HB5:=hid (HB4.out.trans (hb5.mono (by omega)));have hsz4:w.heap.size<=w4.heap.size:=HB4.out.size;have H5:=hid h5;clear hb5 h5
    cases r with
    | error ee=>
      have hne:((numOf (.error ee):Int) != 0)=true:=by
       rcases HEr.out ee rfl with h | h<;>rw [h]<;>rfl
      have HV:=hid (show numOf (.error ee)=ee from rfl)
      go_wp2_with (refine wpList_store_mid rfl 24 (.tmp 2) (.tmp 32) rfl w.heap.size 0 (adrCells Adr.zero (.slice none 0 0)).toArray rfl rfl HR5.out.there (sizeUa _ _) (all_oneCell_toArray (adrCells_one _ _ ⟨_,_,_,rfl⟩)) ?_)
      refine bodyPost_ret (results_u2 rfl _ _ w.heap.size Adr.zero (.slice none 0 0) rfl (range_row HR5.out.store)) rfl ⟨.slice none 0 0,?_,?_,below_setCells (Nat.le_refl _) _ _ _ HB5.out⟩
      ·rw [HN.out];rfl
      ·rw [HN.out];exact own_nil _ _ _
    | ok v=>
      obtain ⟨pv,h6,hown⟩:=H5.out v rfl
      have HU6:=hid h6;have HO6:=hid (own_weak hown hsz4);have hsl:=own_sl hown;rw [show numOf (.ok v)=0 from rfl];clear h6 hown
      go_wp2_with (first | refine wpList_load_mid rfl 24 (.tmp 4) rfl (w.heap.size+1) 0 rfl (adrCells v pv) _ (range_row HU6.out) Tryz.underlying24 rfl (sizeUl _ pv) ?_ | refine wpList_store_mid rfl 24 (.tmp 2) (.tmp 34) rfl w.heap.size 0 (adrCells v pv).toArray rfl rfl HR5.out.there (sizeUa _ pv) (all_oneCell_toArray (adrCells_one _ pv hsl)) ?_)
      refine bodyPost_ret (results_u2 rfl _ _ w.heap.size v pv rfl (range_row HR5.out.store)) rfl ⟨pv,?_,?_,below_setCells (Nat.le_refl _) _ _ _ HB5.out⟩
      ·rw [HN.out];rfl
      ·rw [HN.out];exact own_cells HO6.out HR5.out _ _
theorem hostV_len (l:List UInt8) (b:Bool) (a:List UInt8) (h:parseV l b=some a):a.length<=3*l.length+1000:=by
 unfold parseV at h;split at h
 ·unfold bracketV at h
  split at h
  ·cases hs:sixV (Lib.trimSuffix (l.drop 1) [93]) with
   | none=>rw [hs] at h;cases h
   | some x=>
     rw [hs] at h;simp only [Option.map_some,Option.some.injEq] at h
     have:=text6_le x (sixV_ok hs).1;rw [<- h];simp;omega
  ·cases h
 ·split at h
  ·unfold nameV at h
   split at h
   ·cases h
   ·split at h
    ·cases hf:fourV (low (unpct l)) with
     | none=>rw [hf] at h;cases h
     | some n=>
       rw [hf] at h;simp only [Option.map_some,Option.some.injEq] at h
       rw [<- h];have:=text4_le n;omega
    ·simp only [Option.some.injEq] at h
     have h1:=unpct_le l;rw [<- h,show low (unpct l)=(unpct l).map lowC from rfl,List.length_map];omega
  ·unfold otherV at h
   split at h
   ·cases h
   ·simp only [Option.some.injEq] at h
    have:=pct_le 1 l;rw [<- h];omega
theorem slL_nil:slL []=[]:=rfl
theorem slL_drop (L:List (List UInt8)):(slL L.dropLast).length<=(slL L).length:=by
 rw [List.dropLast_eq_take];exact slL_take L _
theorem slL_len (L:List (List UInt8)):L.length<=(slL L).length:=by
 induction L with
 | nil=>simp
 | cons p L ih=>simp only [slL,List.flatMap_cons,List.length_append,List.length_cons] at ih ⊢;omega
theorem slL_flat (L:List (List UInt8)):L.flatten.length<=(slL L).length:=by
 induction L with
 | nil=>simp
 | cons p L ih=>simp only [slL,List.flatMap_cons,List.length_append,List.length_cons,List.flatten_cons] at ih ⊢;omega
theorem stepP_sl (out:List (List UInt8)) (p:List UInt8) (mo:Bool):(slL (stepP out p mo)).length<=(slL out).length+1+3*p.length:=by
 have h1:=slL_drop out;have h2:=pct_le 5 p;rcases dotsV_cases p with h | h | h
 ·rw [stepP0 h,slL_snoc,List.length_append,List.length_cons];omega
 ·cases mo
  ·rw [stepP1' h,slL_snoc,List.length_append,List.length_cons,List.length_nil];omega
  ·rw [stepP1 h];omega
 ·cases mo
  ·rw [stepP2' h,slL_snoc,List.length_append,List.length_cons,List.length_nil];omega
  ·rw [stepP2 h];omega
theorem pathL_sl (L:List (List UInt8)): ∀ out,(slL (pathL out L)).length<=(slL out).length+3*(slL L).length:=by
 induction L with
 | nil=>intro out;rw [pathL];omega
 | cons p L ih=>
   intro out;have h3:(slL (p::L)).length=1+p.length+(slL L).length:=by simp [slL];omega
   by_cases h:L=[]
   ·subst h
    rw [pathL_last];have:=stepP_sl out p false;omega
   ·rw [pathL_more out p L h]
    have h1:=stepP_sl out p true;have h2:=ih (stepP out p true);omega
theorem cutL_sl (c:UInt8) (l:List UInt8):(slL (cutL c l)).length=l.length+1:=by
 induction l with
 | nil=>rfl
 | cons x l ih=>
   rw [cutL];split
   ·have:slL ([]::cutL c l)=47::slL (cutL c l):=rfl
    rw [this,List.length_cons,ih];rfl
   ·cases hc:cutL c l with
    | nil=>exact absurd hc (cutL_ne c l)
    | cons h t=>
      rw [hc] at ih;simp only [slL,List.flatMap_cons,List.length_append,List.length_cons] at ih ⊢
      omega
theorem pathV_sl (sp:Bool) (hv:List (List UInt8)) (s:List UInt8):(slL (pathV sp hv s)).length<=(slL hv).length+3*(s.length+1):=by
 unfold pathV;split
 ·simp [slL_nil]
 ·have h1:=pathL_sl (cutL 47 (over1 s)) hv
  rw [cutL_sl] at h1;have:=over1_le s;omega
def Slim (n:Nat) (u:Adr):Prop:=
 (u.port = -1∨(0<=u.port/\u.port<=65535))/\u.scheme.length<=n/\u.user.length<=n/\u.pass.length<=n/\u.host.length<=n/\(slL u.path).length<=n/\u.query.length<=n/\u.fragment.length<=n
theorem Slim.fine {n:Nat} {u:Adr} (h:Slim n u) (hn:n<=1000000):Fine u:=by
 obtain ⟨h1,h2,h3,h4,h5,h6,h7,h8⟩:=h
 have a1:=slL_len u.path;have a2:=slL_flat u.path;exact ⟨h1,⟨by omega,by omega,by omega,by omega⟩,⟨by omega,by omega,by omega⟩,by omega,by omega⟩
theorem ahead_len (ends l:List UInt8):(aheadV ends l).1.length<=l.length/\(aheadV ends l).2.length<=l.length:=
 ⟨(List.takeWhile_prefix _).length_le,(List.dropWhile_suffix _).length_le⟩
theorem withQuery_slim {n:Nat} {u:Adr} {q:List UInt8} (h:Slim n u) (hq:3*q.length<=n):Slim n (withQuery u q):=by
 unfold withQuery;split
 ·exact h
 ·obtain ⟨h1,h2,h3,h4,h5,h6,h7,h8⟩:=h
  refine ⟨h1,h2,h3,h4,h5,h6,?_,h8⟩
  show (querV _ (q.drop 1)).length<=n;unfold querV;have:=pct_le (if specV u.scheme then 4 else 3) (q.drop 1);rw [List.length_drop] at this;omega
theorem withPath_slim {n:Nat} {u:Adr} {hv:List (List UInt8)} {r:List UInt8} (h:Slim n u) (hr:(slL hv).length+3*(r.length+1)<=n):Slim n (withPath u hv r):=by
 have ha:=ahead_len [63] r;unfold withPath;refine withQuery_slim ?_ (by omega)
 obtain ⟨h1,h2,h3,h4,h5,h6,h7,h8⟩:=h
 refine ⟨h1,h2,h3,h4,h5,?_,h7,h8⟩
 have:=pathV_sl (specV u.scheme) hv (aheadV [63] r).1;show (slL (pathV _ hv _)).length<=n;omega
theorem portV_ok {own:Int} {t:List UInt8} {p:Int} (h:portV own t=some p):p = -1∨(0<=p/\p<=65535):=by
 unfold portV at h;split at h
 ·cases h;exact .inl rfl
 ·split at h
  ·rename_i h2
   simp only [Bool.and_eq_true,decide_eq_true_eq] at h2
   have h3:0<=intV t:=(intV_range t).1;split at h
   ·cases h;exact .inl rfl
   ·cases h;exact .inr ⟨h3,h2.2⟩
  ·cases h
theorem authV_slim {sc s a b h:List UInt8} {p:Int} (e:authV sc s = .ok (a,b,h,p)):(p = -1∨(0<=p/\p<=65535))/\a.length<=3*s.length/\b.length<=3*s.length/\h.length<=3*s.length+1000:=by
 unfold authV at e;split at e
 ·cases e
 ·rename_i q hq
  split at e
  ·cases e
  ·rename_i g hgp
   split at e
   ·cases e
   ·injection e with e
    simp only [Prod.mk.injEq] at e;obtain ⟨rfl,rfl,rfl,rfl⟩:=e
    have h1:=at_le s;have h2:=part_le 58 (atV s).1;have h3:=pct_le 6 (part 58 (atV s).1).1;have h4:=pct_le 6 (part 58 (atV s).1).2.1;have h5:=hostV_len _ _ _ hgp;rw [List.length_take] at h5;refine ⟨portV_ok hq,by omega,by omega,by omega⟩
theorem withAuth_slim {n:Nat} {u v:Adr} {r:List UInt8} (h:Slim n u) (hr:3*r.length+1003<=n) (e:withAuth u r = .ok v):Slim n v:=by
 unfold withAuth at e;split at e
 ·cases e
 ·rename_i a b hh p ha
  injection e with e
  subst e;have hl:=ahead_len [47,63] r
  obtain ⟨k1,k2,k3,k4⟩:=authV_slim ha
  obtain ⟨h1,h2,h3,h4,h5,h6,h7,h8⟩:=h
  refine withPath_slim ⟨k1,h2,?_,?_,?_,h6,h7,h8⟩ ?_
  ·show a.length<=n;omega
  ·show b.length<=n;omega
  ·show hh.length<=n;omega
  ·simp only [slL_nil,List.length_nil];omega
theorem startV_slim {n:Nat} {u v:Adr} {r:List UInt8} (h:Slim n u) (hr:3*r.length+1003<=n) (e:startV u r = .ok v):Slim n v:=by
 unfold startV at e;split at e
 ·refine withAuth_slim h ?_ e
  have:=skip_le (slashV r);rw [slash_len] at this;omega
 ·split at e
  ·refine withAuth_slim h ?_ e
   rw [List.length_drop];omega
  ·split at e
   ·injection e with e
    subst e;refine withPath_slim h ?_;simp only [slL_nil,List.length_nil];omega
   ·injection e with e
    subst e;have ha:=ahead_len [63] r;have hp:=pct_le 1 (aheadV [63] r).1;refine withQuery_slim ?_ (by omega)
    obtain ⟨h1,h2,h3,h4,h5,h6,h7,h8⟩:=h
    refine ⟨h1,h2,h3,h4,h5,?_,h7,h8⟩
    show (slL [pct 1 _]).length<=n;simp only [slL,List.flatMap_cons,List.flatMap_nil,List.append_nil,List.length_cons]
    omega
theorem begin_slim (s:List UInt8) (n:Nat) (h:3*s.length<=n):Slim n (beginU s).1:=by
 have h1:=clean_le s;have h2:=part_le 35 (cleanV s);have h3:=pct_le 2 (part 35 (cleanV s)).2.1;have h4:(((schemeV (part 35 (cleanV s)).1).getD ([],(part 35 (cleanV s)).1)).1).length<=s.length:=by
  unfold schemeV;split
  ·have:=part_le 58 (part 35 (cleanV s)).1
   rw [Option.getD_some,show (low (part 58 (part 35 (cleanV s)).1).1)=(part 58 (part 35 (cleanV s)).1).1.map lowC from rfl,List.length_map]
   omega
  ·simp
 refine ⟨.inl rfl,?_,Nat.zero_le _,Nat.zero_le _,Nat.zero_le _,Nat.zero_le _,Nat.zero_le _,?_⟩
 ·show _<=n
  exact Nat.le_trans h4 (by omega)
 ·show (pct 2 (part 35 (cleanV s)).2.1).length<=n
  omega
theorem parse_slim {s:List UInt8} {u:Adr} (e:readV s none = .ok u):Slim 20000 u:=by
 unfold readV at e;split at e
 ·cases e
 ·simp only at e
  split at e
  ·cases e
  ·have hl:=begin_le s
   exact startV_slim (begin_slim s _ (by omega)) (by omega) e
def urlV (s:List UInt8):Except Int Adr:=readV (s.take 300) none
def isOk (r:Except Int Adr):Bool:=match r with | .ok _=>true | .error _=>false
def UPost (r:Except Int Adr) (w:World) (e:Ending) (w':World):Prop:=
 ∃ pv,e = .returned (.tuple #[adrVal (adrOf r) pv,.bool (isOk r)])/\w'.ownsRow w.heap.size 9 1 pv (adrOf r).path.length (cellsS (adrOf r).path)/\Below w.heap.size w w'
theorem numOf_isOk {s:List UInt8}:decide (numOf (readV s none)=0)=isOk (readV s none):=by
 cases h:readV s none with
 | ok u=>rfl
 | error e=>
   have:e=3∨e=10∨e=11∨e=12:=by
    unfold readV at h;split at h
    ·injection h with h;exact .inl h.symm
    ·simp only at h
     split at h
     ·injection h with h;exact .inr (.inr (.inr h.symm))
     ·rcases startV_err h with h | h
      ·exact .inr (.inl h)
      ·exact .inr (.inr (.inl h))
   rcases this with rfl | rfl | rfl | rfl<;>rfl
theorem url_k (s:ByteArray) (w:World) (hs:s.size<=9223372036854775807):
 Calls Tryz.prog 4 #[.string s] w (UPost (urlV s.data.toList) w):=by
 have h0:AdrIn (w.alloc (.cells (adrCells Adr.zero (.slice none 0 0)).toArray 24)) w.heap.size Adr.zero (.slice none 0 0):=heap_alloc_new w _;have hb0:Below w.heap.size w (w.alloc (.cells (adrCells Adr.zero (.slice none 0 0)).toArray 24)):=(Below.refl _ w).alloc (Nat.le_refl _) _;have H0:=hid h0;have HB0:=hid hb0;clear h0 hb0;obtain ⟨F,hF⟩: ∃ F:ByteArray,⟨(s.data.toList.take 300).toArray⟩=F:=⟨_,rfl⟩
 have hFl:F.data.toList=s.data.toList.take 300:=by rw [<- hF]
 have hFs:F.size<=100000:=by rw [Lib.size_eq,hFl,List.length_take];omega
 have HFw:=hid (fun w=>few_any s 300 w (by omega) hs);rw [hF] at HFw;have HRd:=hid (fun w=>rparse3_any F w hFs);have HN:=hid (numOf_isOk (s:=F.data.toList));have HU:=hid (show urlV s.data.toList=readV F.data.toList none by unfold urlV;rw [hFl]);obtain ⟨r,hr⟩: ∃ r,readV F.data.toList none=r:=⟨_,rfl⟩
 rw [hr] at HRd HN HU;clear hF hFl hFs hr
 go_enter Tryz.func4,Tryz.ntmps4
 go_wp2_with fail
 refine (HFw.out _).mono ?_;rintro e w' ⟨rfl,rfl⟩
 go_wp2_with fail
 refine (HRd.out _).mono ?_;rintro e w1 ⟨pv,rfl,hown,hb1⟩
 have h1:=H0.out.kept hb1;have HB1:=hid (below2 HB0.out hb1);have HO1:=hid (ownsRow_lower hown HB0.out.size);have hsl:=own_sl hown;obtain ⟨a0,n0,c0,rfl⟩:=hsl
 obtain ⟨s0,s1,s2,s3,b4,i5,b6,s8,s9,b10,b11,hx⟩: ∃ s0 s1 s2 s3 b4 i5 b6 s8 s9 b10 b11,adrCells (adrOf r) (.slice a0 n0 c0)=[.string s0,.string s1,.string s2,.string s3,.bool b4,.int .i64 i5,.bool b6,.slice a0 n0 c0,.string s8,.string s9,.bool b10,.bool b11]:=⟨_,_,_,_,_,_,_,_,_,_,_,rfl⟩
 have hva:adrVal (adrOf r) (.slice a0 n0 c0) = .agg #[.string s0,.string s1,.string s2,.string s3,.bool b4,.int .i64 i5,.bool b6,.slice a0 n0 c0,.string s8,.string s9,.bool b10,.bool b11]:=by unfold adrVal;rw [hx]
 have h4:AdrIn (w1.alloc (.cells #[.string s0,.string s1,.string s2,.string s3,.bool b4,.int .i64 i5,.bool b6,.slice a0 n0 c0,.string s8,.string s9,.bool b10,.bool b11] 24)) w1.heap.size (adrOf r) (.slice a0 n0 c0):=by
  have:=heap_alloc_new w1 (.cells #[.string s0,.string s1,.string s2,.string s3,.bool b4,.int .i64 i5,.bool b6,.slice a0 n0 c0,.string s8,.string s9,.bool b10,.bool b11] 24);unfold AdrIn;rw [hx];exact this
 have hb4:Below w1.heap.size w1 (w1.alloc (.cells #[.string s0,.string s1,.string s2,.string s3,.bool b4,.int .i64 i5,.bool b6,.slice a0 n0 c0,.string s8,.string s9,.bool b10,.bool b11] 24)):=(Below.refl _ w1).alloc (Nat.le_refl _) _;have h6:=h1.kept hb4;have HO4:=hid (ownsRow_same HO1.out fun g hg=>hb4.block g (HO1.out.lt g hg).2);have HB4:=hid (below2 HB1.out hb4);have y0:=h6.cell 0 _ rfl;have f0:=h6.frozen 0;have y1:=h6.cell 1 _ rfl;have f1:=h6.frozen 1;have y2:=h6.cell 2 _ rfl;have f2:=h6.frozen 2;have y3:=h6.cell 3 _ rfl;have f3:=h6.frozen 3;have y4:=h6.cell 4 _ rfl;have f4:=h6.frozen 4
 have y5:=h6.cell 5 _ rfl;have f5:=h6.frozen 5;have y6:=h6.cell 6 _ rfl;have f6:=h6.frozen 6;have y7:=h6.cell 7 _ rfl;have f7:=h6.frozen 7;have y8:=h6.cell 8 _ rfl;have f8:=h6.frozen 8;have y9:=h6.cell 9 _ rfl;have f9:=h6.frozen 9;have y10:=h6.cell 10 _ rfl;have f10:=h6.frozen 10;have y11:=h6.cell 11 _ rfl;have f11:=h6.frozen 11;have H6:=hid h6;have HX:=hid hx;have HV:=hid hva;clear h4 hb4 h6 h1 hb1 hown hx;rw [hva];clear hva
 go_wp2_with fail
 have hn:(numOf r==0)=isOk r:=HN.out;rw [hn,HU.out]
 have hrg:=range_row (H6.out.store (v:=adrOf r) (qv:= .slice a0 n0 c0));have hbl:=below_setCells (Nat.le_refl w.heap.size) (adrCells (adrOf r) (.slice a0 n0 c0)) 0 _ HB4.out;have how:=own_cells HO4.out H6.out (adrCells (adrOf r) (.slice a0 n0 c0)) 0;refine bodyPost_ret (results_u2 rfl _ _ w.heap.size (adrOf r) (.slice a0 n0 c0) rfl ?_) rfl ⟨.slice a0 n0 c0,?_,?_,?_⟩
 ·rw [HX.out] at hrg ⊢;exact hrg
 ·rfl
 ·rw [HX.out] at how;exact how
 ·rw [HX.out] at hbl;exact hbl
theorem adr_named (u:Adr) (a:Option Addr) (n c:Nat): ∃ s0 s1 s2 s3 b4 i5 b6 s8 s9 b10 b11,adrCells u (.slice a n c)=[.string s0,.string s1,.string s2,.string s3,.bool b4,.int .i64 i5,.bool b6,.slice a n c,.string s8,.string s9,.bool b10,.bool b11]/\s0.data.toList=u.scheme/\s3.data.toList=u.host/\i5=u.port/\b6=u.opq:=⟨_,_,_,_,_,_,_,_,_,_,_,rfl,rfl,rfl,rfl,rfl⟩
def InPost (u:Adr) (w:World) (e:Ending) (w':World):Prop:= ∃ pv,e = .returned (adrVal u pv)/\IsSl pv/\Below w.heap.size w w'
def InPostP (u:Adr) (w:World) (e:Ending) (w':World):Prop:= ∃ pv,e = .returned (adrVal u pv)/\IsSl pv/\Below w.heap.size w w'/\PathAt w' pv u.path
theorem inner_own (u:Adr) (pv:Value) (w:World) (hg:Gd w) (hp:PathAt w pv u.path) (hl:u.path.length<=1000000) (hf:u.path.flatten.length<=100000):
 Calls Tryz.prog 68 #[adrVal u pv] w (InPostP (innV u) w):=by
 have hsl:IsSl pv:=by
  rcases hp with ⟨rfl,_⟩ | ⟨b,cap,rfl,_⟩
  ·exact ⟨_,_,_,rfl⟩
  ·exact ⟨_,_,_,rfl⟩
 obtain ⟨ua,un,uc,rfl⟩:=hsl
 obtain ⟨u0,u1,u2,u3,u4,u5,u6,u8,u9,u10,u11,hx,hx0,hx3,hx5,hx6⟩:=adr_named u ua un uc
 have hva:adrVal u (.slice ua un uc) = .agg #[.string u0,.string u1,.string u2,.string u3,.bool u4,.int .i64 u5,.bool u6,.slice ua un uc,.string u8,.string u9,.bool u10,.bool u11]:=by unfold adrVal;rw [hx]
 rw [hva];obtain ⟨W1,hW1⟩: ∃ W1,(w.alloc (.cells #[.string u0,.string u1,.string u2,.string u3,.bool u4,.int .i64 u5,.bool u6,.slice ua un uc,.string u8,.string u9,.bool u10,.bool u11] 24))=W1:=⟨_,rfl⟩
 have hb1:Below w.heap.size w W1:=by rw [<- hW1];exact (Below.refl _ w).alloc (Nat.le_refl _) _
 have hs1:W1.heap.size=w.heap.size+1:=by rw [<- hW1];simp
 have hA1:AdrIn W1 w.heap.size u (.slice ua un uc):=by
  unfold AdrIn;rw [hx,<- hW1]
  exact heap_alloc_new w _
 obtain ⟨W2,hW2⟩: ∃ W2,(W1.alloc (.cells (adrCells Adr.zero (.slice none 0 0)).toArray 24))=W2:=⟨_,rfl⟩
 have hb2:Below W1.heap.size W1 W2:=by rw [<- hW2];exact (Below.refl _ W1).alloc (Nat.le_refl _) _
 have hA2:=hA1.kept hb2;have hR2:AdrIn W2 W1.heap.size Adr.zero (.slice none 0 0):=by rw [<- hW2];exact heap_alloc_new W1 _
 rw [hs1] at hR2;have hB2:=below2 hb1 hb2;have HG2:=hid (hg.kept hB2);have HP2:=hid (hp.kept hB2);have hfl: ∀ j v,(adrCells u (.slice ua un uc))[j]? = some v->W2.cell? ⟨w.heap.size,j,none⟩=some v:=fun j v h=>hA2.cell j v h
 rw [hx] at hfl;have y0:=hfl 0 _ rfl;have y6:=hfl 6 _ rfl;have y7:=hfl 7 _ rfl;have HR2:=hid hR2;have HB2:=hid hB2;have HW1:=hid hs1;have hW1':w.alloc (.cells #[.string u0,.string u1,.string u2,.string u3,.bool u4,.int .i64 u5,.bool u6,.slice ua un uc,.string u8,.string u9,.bool u10,.bool u11] 24)=W1:=hW1;have hW2':W1.alloc (.cells #[.string ⟨#[]⟩,.string ⟨#[]⟩,.string ⟨#[]⟩,.string ⟨#[]⟩,.bool false,.int .i64 0,.bool false,.slice none 0 0,.string ⟨#[]⟩,.string ⟨#[]⟩,.bool false,.bool false] 24)=W2:=hW2;clear hva hW1 hW2 hb1 hA1 hb2 hA2 hR2 hB2 hfl hg hx;by_cases hc:u.scheme=sBlob/\u.opq=true
 ·have HV:=hid (show innV u=adrOf (readV u.path.flatten none) by unfold innV;rw [if_pos hc])
  have e0:(u0.toList==[98,108,111,98])=true:=beq_yes u0 _ (by rw [hx0];exact hc.1)
  have e6:u6=true:=by rw [hx6];exact hc.2
  subst e6;obtain ⟨F,hF⟩: ∃ F:ByteArray,F=⟨u.path.flatten.toArray⟩:=⟨_,rfl⟩
  have hFl:F.data.toList=u.path.flatten:=by rw [hF]
  have HJ:=hid (fun (w:World) (h:PathAt w (.slice ua un uc) u.path)=>joinP_any (.slice ua un uc) u.path w h hl (by omega));rw [<- hF] at HJ;have HRd:=hid (fun (w:World) (hg:Gd w)=>uparse_any F w hg (by rw [Lib.size_eq,hFl];omega));rw [hFl] at HRd;obtain ⟨r,hr⟩: ∃ r,readV u.path.flatten none=r:=⟨_,rfl⟩
  rw [hr] at HRd HV;clear hc hx0 hx3 hx5 hx6 hF hFl hl hf hp hr
  go_enter Tryz.func68,Tryz.ntmps68
  go_wp2_with fail
  refine (HJ.out _ HP2.out).mono ?_;rintro e w3 ⟨rfl,hb3⟩
  have HB3:=hid (below2 HB2.out hb3);have HG3:=hid (HG2.out.kept hb3);have HR3:=hid (HR2.out.kept hb3);clear hb3
  go_wp2_with fail
  refine (HRd.out _ HG3.out).mono ?_;rintro e w4 ⟨qv,rfl,hown,hb4⟩
  have hsl:=own_sl hown;obtain ⟨qa,qn,qc,rfl⟩:=hsl
  obtain ⟨q0,q1,q2,q3,q4,q5,q6,q8,q9,q10,q11,hq,-,-,-,-⟩:=adr_named (adrOf r) qa qn qc
  have hqa:adrVal (adrOf r) (.slice qa qn qc) = .agg #[.string q0,.string q1,.string q2,.string q3,.bool q4,.int .i64 q5,.bool q6,.slice qa qn qc,.string q8,.string q9,.bool q10,.bool q11]:=by unfold adrVal;rw [hq]
  have hb5:Below w4.heap.size w4 (w4.alloc (.cells #[.string q0,.string q1,.string q2,.string q3,.bool q4,.int .i64 q5,.bool q6,.slice qa qn qc,.string q8,.string q9,.bool q10,.bool q11] 24)):=(Below.refl _ w4).alloc (Nat.le_refl _) _;have h6:=(HR3.out.kept hb4).kept hb5;have HB5:=hid (below2 (below2 HB3.out hb4) hb5);have ry0:=h6.cell 0 _ rfl;have rz0:=h6.frozen 0;have ry1:=h6.cell 1 _ rfl;have rz1:=h6.frozen 1;have ry2:=h6.cell 2 _ rfl;have rz2:=h6.frozen 2;have ry3:=h6.cell 3 _ rfl;have rz3:=h6.frozen 3;have ry4:=h6.cell 4 _ rfl;have rz4:=h6.frozen 4;have ry5:=h6.cell 5 _ rfl
  have rz5:=h6.frozen 5;have ry6:=h6.cell 6 _ rfl;have rz6:=h6.frozen 6;have ry7:=h6.cell 7 _ rfl;have rz7:=h6.frozen 7;have ry8:=h6.cell 8 _ rfl;have rz8:=h6.frozen 8;have ry9:=h6.cell 9 _ rfl;have rz9:=h6.frozen 9;have ry10:=h6.cell 10 _ rfl;have rz10:=h6.frozen 10;have ry11:=h6.cell 11 _ rfl;have rz11:=h6.frozen 11;have H6:=hid h6;have HO6:=hid (ownsRow_same hown fun g hg=>hb5.block g (hown.lt g hg).2);have HQ:=hid hq;have HQA:=hid hqa;clear h6 hq hb4 hb5 hown;rw [hqa];clear hqa
  go_wp2_with fail
  have hrg:=range_row (H6.out.store (v:=adrOf r) (qv:= .slice qa qn qc));have hbl:=below_setCells (B:=w.heap.size) (b:=w.heap.size+1) (Nat.le_succ _) (adrCells (adrOf r) (.slice qa qn qc)) 0 _ HB5.out;have how:=own_path (own_cells HO6.out H6.out (adrCells (adrOf r) (.slice qa qn qc)) 0);rw [HV.out];refine bodyPost_ret (results_u1 rfl _ _ (w.heap.size+1) (adrOf r) (.slice qa qn qc) rfl ?_) rfl ⟨.slice qa qn qc,?_,⟨_,_,_,rfl⟩,?_,?_⟩
  ·rw [HQ.out] at hrg ⊢;exact hrg
  ·rfl
  ·rw [HQ.out] at hbl;exact hbl
  ·rw [HQ.out] at how;exact how
 ·have HV:=hid (show innV u=Adr.zero by unfold innV;rw [if_neg hc])
  have HR:=hid HR2.out;have ry0:=HR2.out.cell 0 _ rfl;have rz0:=HR2.out.frozen 0;have ry1:=HR2.out.cell 1 _ rfl;have rz1:=HR2.out.frozen 1;have ry2:=HR2.out.cell 2 _ rfl;have rz2:=HR2.out.frozen 2;have ry3:=HR2.out.cell 3 _ rfl;have rz3:=HR2.out.frozen 3;have ry4:=HR2.out.cell 4 _ rfl;have rz4:=HR2.out.frozen 4;have ry5:=HR2.out.cell 5 _ rfl;have rz5:=HR2.out.frozen 5;have ry6:=HR2.out.cell 6 _ rfl;have rz6:=HR2.out.frozen 6;have ry7:=HR2.out.cell 7 _ rfl;have rz7:=HR2.out.frozen 7;have ry8:=HR2.out.cell 8 _ rfl;have rz8:=HR2.out.frozen 8;have ry9:=HR2.out.cell 9 _ rfl
  have rz9:=HR2.out.frozen 9;have ry10:=HR2.out.cell 10 _ rfl;have rz10:=HR2.out.frozen 10;have ry11:=HR2.out.cell 11 _ rfl;have rz11:=HR2.out.frozen 11;have hcs:(u0.toList==[98,108,111,98])=false∨((u0.toList==[98,108,111,98])=true/\u6=false):=by
   by_cases h:u0.data.toList=[98,108,111,98]
   ·right
    refine ⟨beq_yes u0 _ h,?_⟩;rw [hx6]
    cases ho:u.opq with
    | false=>rfl
    | true=>exact absurd ⟨by rw [<- hx0];exact h,ho⟩ hc
   ·left;exact beq_no u0 _ h
  clear hc hx0 hx3 hx5 hx6 hl hf hp;rcases hcs with e0 | ⟨e0,rfl⟩
  all_goals
   go_enter Tryz.func68,Tryz.ntmps68
   go_wp2_with fail
   have hrg:=range_row (HR.out.store (v:=Adr.zero) (qv:= .slice none 0 0));have hbl:=below_setCells (B:=w.heap.size) (b:=w.heap.size+1) (Nat.le_succ _) (adrCells Adr.zero (.slice none 0 0)) 0 _ HB2.out;rw [HV.out];refine bodyPost_ret (results_u1 rfl _ _ (w.heap.size+1) Adr.zero (.slice none 0 0) rfl ?_) rfl ⟨.slice none 0 0,?_,⟨_,_,_,rfl⟩,?_,?_⟩
   ·exact hrg
   ·rfl
   ·exact hbl
   ·exact .inl ⟨rfl,rfl⟩
theorem inner_any (u:Adr) (pv:Value) (w:World) (hg:Gd w) (hp:PathAt w pv u.path) (hl:u.path.length<=1000000) (hf:u.path.flatten.length<=100000):
 Calls Tryz.prog 68 #[adrVal u pv] w (InPost (innV u) w):=by
 refine (inner_own u pv w hg hp hl hf).mono ?_;rintro e w' ⟨qv,he,hsl,hb,-⟩
 exact ⟨qv,he,hsl,hb⟩
theorem m11get_bang (s:ByteArray) (i:Nat) (h:i<s.size):s.get! i=s[i]:=by
 show s.data[i]! = s.data[i];exact getElem!_pos s.data i h
theorem m11decode_skip (s:ByteArray) (i:Nat) (h:i<s.size) (ha:128<=(s[i]'h).toNat): ∃ r n,Utf8.decode s i=(r,n)/\128<=r/\r<=1114111/\1<=n/\i+n<=s.size /\ ∀ j,i<=j->j<i+n->128<=(s.get! j).toNat:=by
 have h0:128<=(s.get! i).toNat:=by rw [m11get_bang s i h];exact ha
 rw [Lib.decode_at];unfold Lib.decodeN;rw [if_neg (by omega)];have one: ∀ j,i<=j->j<i+1->128<=(s.get! j).toNat:=fun j h1 h2=>by
  have:j=i:=by omega
  rw [this];exact h0
 split
 ·split
  ·refine ⟨_,_,rfl,by omega,by omega,by omega,by omega,fun j h1 h2=> ?_⟩
   have:j=i∨j=i+1:=by omega
   rcases this with rfl | rfl
   ·exact h0
   ·omega
  ·exact ⟨_,_,rfl,by omega,by omega,by omega,by omega,one⟩
 ·split
  ·split
   ·refine ⟨_,_,rfl,by omega,by omega,by omega,by omega,fun j h1 h2=> ?_⟩
    have:j=i∨j=i+1∨j=i+2:=by omega
    rcases this with rfl | rfl | rfl
    ·exact h0
    ·omega
    ·omega
   ·exact ⟨_,_,rfl,by omega,by omega,by omega,by omega,one⟩
  ·split
   ·split
    ·refine ⟨_,_,rfl,by omega,by omega,by omega,by omega,fun j h1 h2=> ?_⟩
     have:j=i∨j=i+1∨j=i+2∨j=i+3:=by omega
     rcases this with rfl | rfl | rfl | rfl
     ·exact h0
     ·omega
     ·omega
     ·omega
    ·exact ⟨_,_,rfl,by omega,by omega,by omega,by omega,one⟩
   ·exact ⟨_,_,rfl,by omega,by omega,by omega,by omega,one⟩
theorem m11noAny_skip (s:ByteArray) (i n:Nat) (h:Lib.NoAny s.data.toList [58,47] i) (hn:i+n<=s.size) (hj: ∀ j,i<=j->j<i+n->128<=(s.get! j).toNat):Lib.NoAny s.data.toList [58,47] (i+n):=by
 intro j b hjn hb;by_cases h1:j<i
 ·exact h j b h1 hb
 ·have h2:=hj j (by omega) hjn
  have hjs:j<s.size:=by omega
  rw [m11get_bang s j hjs] at h2;rw [Lib.data_getElem? s j hjs] at hb
  cases hb
  simp;constructor<;>(intro e;rw [e] at h2;revert h2;decide)
theorem m11below_iter (w:World) (s:ByteArray) (i:Nat):Below w.heap.size w (w.iter s i):=(Below.refl _ w).alloc (Nat.le_refl _) _
theorem m11indexRune_high (r:Int) (w:World) (hr1:128<=r) (h2:r<=1114111):
 Calls Tryz.prog 83 #[.string ⟨#[58,47]⟩,.int .i32 r] w fun e w'=>e = .returned (.int .i64 (-1))/\Below w.heap.size w w':=by
 have hr0:(0:Int)<=r:=by omega
 by_cases he:r=65533
 ·subst he
  go_enter Tryz.func83,Tryz.ntmps83
  go_wp2
  go_loopg [5,6] 2 (fun g _ _ wx=> ∃ i:Nat,i+g=2/\wx=w.iter ⟨#[58,47]⟩ i)
  case atStart=>exact ⟨0,by omega,rfl⟩
  case round=>
   obtain ⟨i,hig,rfl⟩:=hrel
   match gk,hig with
   | 0,hig=>
     obtain rfl:i=2:=by omega
     have hnx:=run_next_end (P:=Tryz.prog) w ⟨#[58,47]⟩ 2
     go_wp2
     go_ret
     exact ⟨rfl,m11below_iter w _ _⟩
   | 1,hig=>
     obtain rfl:i=1:=by omega
     have hnx:=fun ty=>run_next_ascii (P:=Tryz.prog) w ⟨#[58,47]⟩ 1 ty (by decide) (by decide)
     go_wp2
     go_roundg 0
     case measure=>omega
     case rel=>exact ⟨2,by omega,rfl⟩
   | 2,hig=>
     obtain rfl:i=0:=by omega
     have hnx:=fun ty=>run_next_ascii (P:=Tryz.prog) w ⟨#[58,47]⟩ 0 ty (by decide) (by decide)
     go_wp2
     go_roundg 1
     case measure=>omega
     case rel=>exact ⟨1,by omega,rfl⟩
   | g+3,hig=>omega
 ·have he':(r==65533)=false:=by rw [beq_eq_false_iff_ne];exact he
  have hcv: ∀ w:World,Calls Tryz.prog 106 #[.int .i32 r] w fun e w'=>e = .returned (.bool (Lib.validRune r))/\w'=w:=fun w=>Tryz.utf8_ValidRune _ w
  have hvv:Lib.validRune r=true∨Lib.validRune r=false:=by cases Lib.validRune r<;>simp
  rcases hvv with hv | hv
  rotate_left
  ·rw [hv] at hcv
   clear hv h2 he
   go_enter Tryz.func83,Tryz.ntmps83
   go_wp2_with (go_at_call 106;refine (hcv _).mono ?_;rintro e w' ⟨rfl,rfl⟩)
   go_ret
   exact ⟨rfl,Below.refl _ _⟩
  ·obtain ⟨X,hX⟩: ∃ X,Utf8.encode r=X:=⟨_,rfl⟩
   have hvu:Utf8.valid r=true:=by
    have:=of_decide_eq_true hv;simp only [Utf8.valid,Bool.or_eq_true,Bool.and_eq_true,decide_eq_true_eq]
    omega
   have hf:=encode_facts r hvu (by omega)
   rw [hX] at hf;obtain ⟨f1,f2,f3⟩:=hf
   have HF:=hid f3;rw [hv] at hcv;clear f3 hv hvu h2 he;by_cases hx:X.size=2
   ·obtain ⟨a,b,rfl⟩: ∃ a b:UInt8,X=⟨#[a,b]⟩:=by
     obtain ⟨⟨L⟩⟩:=X
     match L,hx with
     | [a,b],_=>exact ⟨a,b,rfl⟩
    have hb:128<=b.toNat:=HF.out (show 1<2 by decide);have hb8:b.toNat<256:=b.toNat_lt;have hb1:((((⟨#[58,47]⟩:ByteArray)[1]'(show 1<2 by decide)).toNat:Int) != (((⟨#[a,b]⟩:ByteArray)[1]'(show 1<2 by decide)).toNat:Int))=true:=by
     show (((47:UInt8).toNat:Int) != (b.toNat:Int))=true;have:(47:UInt8).toNat=47:=rfl;simp only [bne_iff_ne,ne_eq]
     omega
    clear hx f1 f2 HF
    go_enter Tryz.func83,Tryz.ntmps83
    go_wp2_with (go_at_call 106;refine (hcv _).mono ?_;rintro e w' ⟨rfl,rfl⟩)
    go_step3
    go_wp2
    go_loop [9] (fun i=>i = .int .i64 1) (fun _=>0)
    case atStart=>rfl
    case round=>
     subst hrel
     go_wp2
     go_step3
     go_wp2
     go_region
     go_wp2
     go_region_with (go_at_call 105;refine (Tryz.strings_IndexByte _ _ _).mono ?_;rintro e w'' ⟨rfl,rfl⟩)
     all_goals
      go_wp2
      rw [Exit.noGoto_ret]
      go_wp2
      rw [Exit.noGoto_ret]
      go_wp2
      go_ret
      exact ⟨rfl,(Below.refl _ _).drew.drew⟩
   ·have f1':(3:Int)<=(X.size:Int):=by omega
    have f2':(X.size:Int)<=4:=by omega
    go_enter Tryz.func83,Tryz.ntmps83
    go_wp2_with (go_at_call 106;refine (hcv _).mono ?_;rintro e w' ⟨rfl,rfl⟩)
    go_step3
    go_wp2
    go_loop [9] (fun i=>i = .int .i64 ((X.size:Int) - 1)) (fun _=>0)
    case atStart=>rfl
    case round=>
     subst hrel
     go_wp2
     go_ret
     exact ⟨rfl,Below.refl _ _⟩
theorem m11indexAny2_short (s:ByteArray) (w:World) (h8:s.size<=8):
 Calls Tryz.prog 167 #[.string s,.string ⟨#[58,47]⟩] w fun e w'=>e = .returned (.int .i64 (Lib.indexAny s.data.toList [58,47]))/\Below w.heap.size w w':=by
 have h8z:decide ((8:Int)<(s.size:Int))=false:=decide_eq_false (by omega)
 go_enter Tryz.func167,Tryz.ntmps167
 go_wp2_with (go_at_call 199;refine (Tryz.strings_shouldUseASCIISet _ _).mono ?_;rintro e w' ⟨rfl,hw⟩;rw [hw,h8z])
 go_loopg [9,10] s.size (fun g _ _ wx=> ∃ i:Nat,i+g=s.size/\wx.heap[w.heap.size]? = some (.stringIter s i)/\Below w.heap.size w wx/\Lib.NoAny s.data.toList [58,47] i)
 case atStart=>exact ⟨0,by omega,by simp [World.iter_heap],m11below_iter w _ _,Lib.NoAny.zero _ _⟩
 case round=>
  obtain ⟨i,hig,hit,hbw,hno⟩:=hrel
  have HN:=hid hno;have HI:=hid hit;clear hno hit;by_cases hi:i<s.size
  ·obtain ⟨x,hx⟩: ∃ x:UInt8,s[i]'hi=x:=⟨_,rfl⟩
   have hxl:s.data.toList[i]? = some x:=by rw [<- hx];exact Lib.data_getElem? s i hi
   by_cases ha:x.toNat<128
   ·have hnx:=fun ty=>Lib.run_next_ascii_at (P:=Tryz.prog) wr w.heap.size s i ty HI.out hi (by rw [hx];exact ha)
    rw [hx] at hnx;have HK:=hid (Lib.iterAt_heap wr w.heap.size s i (i+1) HI.out);have HB2:=hid (Lib.below_iterAt hbw (Nat.le_refl _) s (i+1));have Hx:=hid hxl;clear hxl hx;have hcon:=Lib.contains_iff_indexByte [58,47] x
    have hback:((x.toNat:Int)).toNat.toUInt8=x:=by simp
    cases hin:[(58:UInt8),47].contains x
    ·rw [hin] at hcon
     have hlt: ¬ ((0:Int)<=Lib.indexByte [58,47] x):=of_decide_eq_false hcon.symm;have Hin:=hid hin;clear hcon hin
     go_wp2_with (go_at_call 83;refine (Tryz.strings_IndexRune_ascii _ _ _ (by omega) (by omega)).mono ?_;rintro e w' ⟨rfl,hw⟩;rw [hw,hback])
     go_roundg (gk - 1)
     case measure=>omega
     case rel=>exact ⟨i+1,by omega,HK.out,HB2.out,HN.out.succ Hx.out Hin.out⟩
    ·rw [hin] at hcon
     have hge:(0:Int)<=Lib.indexByte [58,47] x:=of_decide_eq_true hcon.symm
     have Hin:=hid hin;clear hcon hin
     go_wp2_with (go_at_call 83;refine (Tryz.strings_IndexRune_ascii _ _ _ (by omega) (by omega)).mono ?_;rintro e w' ⟨rfl,hw⟩;rw [hw,hback])
     go_ret
     exact ⟨by rw [Lib.indexAny_hit HN.out Hx.out Hin.out];rfl,HB2.out⟩
   ·obtain ⟨r,n,hd,hr1,hr2,hn1,hn2,hj⟩:=m11decode_skip s i hi (by rw [hx];omega)
    have hnx:=fun ty=>Lib.run_next_any_at (P:=Tryz.prog) wr w.heap.size s i ty HI.out hi
    rw [hd] at hnx;have HK:=hid (Lib.iterAt_heap wr w.heap.size s i (i+n) HI.out);have HB2:=hid (Lib.below_iterAt hbw (Nat.le_refl _) s (i+n));have HN2:=hid (m11noAny_skip s i n HN.out hn2 hj);clear hxl hx hj hd;have hr1':(128:Int)<=(r:Int):=by omega
    have HRx:=hid (show (r:Int)<=1114111 by omega);clear hr2
    go_wp2_with (go_at_call 83;refine (m11indexRune_high _ _ hr1' HRx.out).mono ?_;rintro e w2 ⟨rfl,hb2⟩)
    go_roundg (gk - n)
    case measure=>omega
    case rel=>
     refine ⟨i+n,by omega,?_,HB2.out.trans (hb2.mono ?_),HN2.out⟩
     ·rw [hb2.block _ (Array.getElem?_eq_some_iff.1 HK.out).1];exact HK.out
     ·exact HB2.out.size
  ·obtain rfl:i=s.size:=by omega
   have hnx:=fun ty=>Lib.run_next_end_at (P:=Tryz.prog) wr w.heap.size s s.size ty HI.out hi
   go_wp2
   go_ret
   exact ⟨by rw [Lib.indexAny_none (by rw [<- Lib.size_eq];exact HN.out)];rfl,hbw⟩
theorem m11zero87 (w:World):(zeroValue 207).run Tryz.prog w = .ok (.agg (Array.replicate 256 (.bool false))) w:=(zero_of_info (P:=Tryz.prog) (n:=256) (by kernel_rfl)).1 w
theorem m11indexAny2_any (s:ByteArray) (w:World) (hs:s.size<=4000000000):
 Calls Tryz.prog 167 #[.string s,.string ⟨#[58,47]⟩] w fun e w'=>e = .returned (.int .i64 (Lib.indexAny s.data.toList [58,47]))/\Below w.heap.size w w':=by
 by_cases h:s.size<=8
 ·exact m11indexAny2_short s w h
 ·refine (Tryz.strings_IndexAny_long m11zero87 s ⟨#[58,47]⟩ w (by decide) (by omega) (by omega) (by decide) ?_).mono ?_
  ·intro j b hb
   match j,hb with
   | 0,hb=>simp at hb;subst hb;decide
   | 1,hb=>simp at hb;subst hb;decide
   | j+2,hb=>simp at hb
  ·rintro e w' ⟨rfl,rfl⟩
   refine ⟨rfl,((Below.refl _ w).alloc (Nat.le_refl _) _).alloc ?_ _⟩
   simp
theorem m11indexAny1_any (s:ByteArray) (w:World):
 Calls Tryz.prog 167 #[.string s,.string ⟨#[47]⟩] w fun e w'=>e = .returned (.int .i64 (Lib.indexAny s.data.toList [47]))/\Below w.heap.size w w':=by
 refine (Tryz.strings_IndexAny_one s ⟨#[47]⟩ w (by decide) ?_).mono ?_
 ·intro j b hb
  match j,hb with
  | 0,hb=>simp at hb;subst hb;decide
  | j+1,hb=>simp at hb
 ·rintro e w' ⟨rfl,rfl⟩
  exact ⟨rfl,Below.refl _ _⟩
end Go.Proofs.YtijpkalkfbejeaaGreatDoor
