/- Walks and plain facts. -/
import Derived.Test.YtijpkalkfbejeaaGreatDoorQm31
set_option linter.unusedSimpArgs false
set_option linter.unusedVariables false
set_option maxHeartbeats 16000000
set_option maxRecDepth 100000

namespace Go.Proofs.YtijpkalkfbejeaaGreatDoor
open Go.RowKit
theorem hostC_any (u:Adr) (pv:Value) (cu cn:Nat) (nv:Value) (q:List UInt8->Bool) (s:ByteArray) (w:World) (hA:AdrIn w cu u pv) (hn:w.cell? ⟨cn,0,none⟩=some nv) (hr:Rdr11 w nv q) (hs:s.size<=4000000000) (hh:u.host.length<=4000000000):
 Calls Tryz.prog 127 #[.string s,.pointer (some ⟨cu,0,none⟩),.pointer (some ⟨cn,0,none⟩)] w fun e w'=>e = .returned (.bool (hostR u q s.data.toList))/\Below w.heap.size w w':=by
 obtain ⟨f,lb,rfl,eg,hc⟩:=hr
 obtain ⟨A,hAe⟩: ∃ A:ByteArray,A=⟨(aheadV [58,47] s.data.toList).1.toArray⟩:=⟨_,rfl⟩
 obtain ⟨R,hRe⟩: ∃ A:ByteArray,A=⟨(aheadV [58,47] s.data.toList).2.toArray⟩:=⟨_,rfl⟩
 have hle:=ahead_le [58,47] s.data.toList
 have hAl:A.data.toList=(aheadV [58,47] s.data.toList).1:=by rw [hAe]
 have hRl:R.data.toList=(aheadV [58,47] s.data.toList).2:=by rw [hRe]
 have hAs:A.size<=4000000000:=by rw [hAe];exact size_le hle.1 hs
 have hRs:R.size<=4000000000:=by rw [hRe];exact size_le hle.2 hs
 have HCut:=hid (fun w=>scut2_any s w hs);rw [<- hAe,<- hRe] at HCut;have HLo:=hid (fun w=>lower_any A w (by omega));obtain ⟨N,hN⟩: ∃ N:ByteArray,N=⟨(low A.data.toList).toArray⟩:=⟨_,rfl⟩
 have hNl:N.data.toList=low A.data.toList:=by rw [hN]
 rw [<- hN] at HLo;obtain ⟨H,hH⟩: ∃ N:ByteArray,N=⟨u.host.toArray⟩:=⟨_,rfl⟩
 have hHl:H.data.toList=u.host:=by rw [hH]
 have HHo:=hid (fun w=>hostMeans_any N H w (by rw [Lib.size_eq,hNl,low,List.length_map,<- Lib.size_eq];exact hAs) (by rw [Lib.size_eq,hHl];exact hh));have HV:=hid (show hostR u q s.data.toList=(hostM N.data.toList H.data.toList&&q R.data.toList) by unfold hostR;rw [hNl,hAl,hRl,hHl]);obtain ⟨p,hpq⟩: ∃ p,hostM N.data.toList H.data.toList=p:=⟨_,rfl⟩
 rw [hpq] at HV HHo;have HN:=hid hn;have HA:=hid (show w.cell? ⟨cu,3,none⟩=some (.string H) by rw [hH];exact hA.cell 3 _ rfl);have HC:=hid (fun (X:World) (hX:Below w.heap.size w X)=>hc X R hX hRs);clear hn hA hc hle hAe hRe hAl hRl hAs hpq hN hNl hH hHl
 go_enter Tryz.func127,Tryz.ntmps127
 go_wp2_with fail
 refine (HCut.out _).mono ?_;rintro e w1 ⟨rfl,hb1⟩
 have HB1:=hid hb1;have HK:=hid (show ∀ Z,Below w1.heap.size w1 Z->Z.cell? ⟨cu,3,none⟩=some (.string H)/\Z.cell? ⟨cn,0,none⟩=some (.func (.func f) #[] lb) from fun Z hZ=>⟨keptC HA.out (below2 HB1.out hZ),keptC HN.out (below2 HB1.out hZ)⟩);have HC1:=hid (fun (X:World) (hX:Below w1.heap.size w1 X)=>HC.out X (below2 HB1.out hX))
 have HK1:=hid (fun (X Y:World) (hb:Below X.heap.size X Y) (h0:Below w1.heap.size w1 X)=>(show (fun wx:World=>Below w1.heap.size w1 wx/\wx.cell? ⟨cu,3,none⟩=some (.string H)/\wx.cell? ⟨cn,0,none⟩=some (.func (.func f) #[] lb)) Y from let h:=h0.trans (hb.mono h0.size);⟨h,HK.out Y h⟩));have HK0:=hid (show (fun wx:World=>Below w1.heap.size w1 wx/\wx.cell? ⟨cu,3,none⟩=some (.string H)/\wx.cell? ⟨cn,0,none⟩=some (.func (.func f) #[] lb)) w1.drew from let h:=(Below.refl _ w1).drew;⟨h,HK.out _ h⟩);clear hb1;obtain ⟨d0,d1⟩:=HK.out w1 (Below.refl _ _)
 cases p with
 | false=>
   go_wp2_with fail
   have HKa:Hid (∀ Z,Below w1.drew.heap.size w1.drew Z->Below w1.heap.size w1 Z/\Z.cell? ⟨cu,3,none⟩=some (.string H)):=fun Z hZ=>⟨below2 (Below.refl _ w1).drew hZ,(HK.out Z (below2 (Below.refl _ w1).drew hZ)).1⟩
   first
    | (go_region_with (first
      | (go_at_call 37;refine (HLo.out _).mono ?_;rintro e wa ⟨rfl,hba⟩;obtain ⟨hbw,k0⟩:=HKa.out wa hba;clear hba)
      | (go_at_call 129;refine (HHo.out _).mono ?_;rintro e wb ⟨rfl,rfl⟩)))
    | fail "x"
   all_goals
    go_wp2
    go_ret
    exact ⟨ret_bool (by rw [HV.out];rfl),below2 HB1.out hbw⟩
 | true=>
   go_wp2_with fail
   go_region_held (fun wx:World=>Below w1.heap.size w1 wx/\wx.cell? ⟨cu,3,none⟩=some (.string H)/\wx.cell? ⟨cn,0,none⟩=some (.func (.func f) #[] lb))
    (first | exact HK0.out | exact HK1.out _ _ (by assumption) (by (try dsimp only at *);go_split_ands;assumption) | (go_split_ands;exact ⟨by assumption,by assumption,by assumption⟩))
    (first
      | (go_at_call 37;refine (HLo.out _).mono ?_;rintro e wa ⟨rfl,hba⟩)
      | (go_at_call 129;refine (HHo.out _).mono ?_;rintro e wb ⟨rfl,rfl⟩)
      | (refine (HC1.out _ (by (try dsimp only at *);go_split_ands;assumption)).mono ?_;rintro e wc ⟨rfl,hbc⟩))
   all_goals
    (try dsimp only at *)
    go_split_ands
    have hbw:Below w1.heap.size w1 wc:=by assumption
    go_wp2
    go_ret
    exact ⟨ret_bool (by rw [HV.out];rfl),below2 HB1.out hbw⟩
theorem enters_host: ∀ args w,(callFunc 127 args).run Tryz.prog w = .ok (.enter 127 args) w:=enters_of Tryz.func127 (by kernel_rfl) rfl
theorem readHost_mk (u:Adr) (pv:Value) (hsl:IsSl pv) (f:Nat) (lb:Array Value) (w:World):
 Calls Tryz.prog 96 #[adrVal u pv,.func (.func f) #[] lb] w fun e w'=>e = .returned (.func (.func 127) #[] #[.pointer (some ⟨w.heap.size,0,none⟩),.pointer (some ⟨w.heap.size+1,0,none⟩)])/\w'=(w.alloc (.cells (adrCells u pv).toArray 24)).alloc (.cells #[.func (.func f) #[] lb] 115):=by
 have hmf: ∀ (fn:Fn) (first cap:Array Value) (w:World),(Instr.makeFunc fn first cap).run Tryz.prog w = .ok (.func fn first cap) w:=fun _ _ _ _=>rfl
 obtain ⟨a0,n0,c0,rfl⟩:=hsl
 unfold adrVal adrCells
 go_enter Tryz.func96,Tryz.ntmps96
 go_wp2
 go_ret
 exact ⟨rfl,rfl⟩
theorem readHost_any (u:Adr) (pv:Value) (hsl:IsSl pv) (hh:u.host.length<=4000000000) (nv:Value) (q:List UInt8->Bool) (w:World) (hr:Rdr11 w nv q):
 Calls Tryz.prog 96 #[adrVal u pv,nv] w (MkPost11 (hostR u q) w):=by
 have hr0:=hr;obtain ⟨f,lb,rfl,eg,hc⟩:=hr0
 refine (readHost_mk u pv hsl f lb w).mono ?_;rintro e w' ⟨rfl,hw⟩
 have h1:AdrIn (w.alloc (.cells (adrCells u pv).toArray 24)) w.heap.size u pv:=heap_alloc_new _ _;have hb1:Below w.heap.size w (w.alloc (.cells (adrCells u pv).toArray 24)):=(Below.refl _ w).alloc (Nat.le_refl _) _;have hz:(w.alloc (.cells (adrCells u pv).toArray 24)).heap.size=w.heap.size+1:=by simp
 have hb2:Below (w.alloc (.cells (adrCells u pv).toArray 24)).heap.size (w.alloc (.cells (adrCells u pv).toArray 24)) w':=by rw [hw];exact (Below.refl _ _).alloc (Nat.le_refl _) _
 have h2:w'.heap[w.heap.size+1]? = some (.cells #[.func (.func f) #[] lb] 115 (0,0)):=by
  rw [hw,<- hz];exact heap_alloc_new _ _
 have hA:=h1.kept hb2;have hB:=below2 hb1 hb2;have hcell:w'.cell? ⟨w.heap.size+1,0,none⟩=some (.func (.func f) #[] lb):=by rw [Lib.cell_of_heap h2];rfl
 refine ⟨_,rfl,⟨_,_,rfl,enters_host,fun X s hX hs=> ?_⟩,hB⟩
 exact hostC_any u pv w.heap.size (w.heap.size+1) _ q s X (hA.kept hX) (keptC hcell hX) (hr.kept (below2 hB hX)) hs hh
theorem schR_none {u p:Adr} {q:List UInt8->Bool} {s:List UInt8} (h:schemeV s=none):schR u p q s=(schM p.scheme u.scheme&&q s):=by unfold schR;rw [h]
theorem schR_all {u p:Adr} {q:List UInt8->Bool} {s sc b:List UInt8} (h:schemeV s=some (sc,b)) (hb:b=[]):schR u p q s=schM sc u.scheme:=by unfold schR;rw [h];simp only;rw [if_pos hb]
theorem schR_two {u p:Adr} {q:List UInt8->Bool} {s sc b:List UInt8} (h:schemeV s=some (sc,b)) (hb:b≠[]) (hp:Lib.hasPrefix b [47,47]=true):schR u p q s=(schM sc u.scheme&&q (b.drop 2)):=by unfold schR;rw [h];simp only;rw [if_neg hb,if_pos hp]
theorem schR_else {u p:Adr} {q:List UInt8->Bool} {s sc b:List UInt8} (h:schemeV s=some (sc,b)) (hb:b≠[]) (hp:Lib.hasPrefix b [47,47]=false):schR u p q s=(schM p.scheme u.scheme&&q s):=by unfold schR;rw [h];simp only;rw [if_neg hb,if_neg (by rw [hp];decide)]
theorem schemeV_le {s sc b:List UInt8} (h:schemeV s=some (sc,b)):sc.length<=s.length/\b.length<=s.length:=by
 unfold schemeV at h;split at h
 ·injection h with h
  have hp:=part_le 58 s;simp only [Prod.mk.injEq] at h;rw [<- h.1,<- h.2,low,List.length_map];exact hp
 ·cases h
theorem schC_any (u p:Adr) (pv rv:Value) (cu cn cp:Nat) (nv:Value) (q:List UInt8->Bool) (s:ByteArray) (w:World) (hg:Gd w) (hA:AdrIn w cu u pv) (hP:AdrIn w cp p rv) (hn:w.cell? ⟨cn,0,none⟩=some nv) (hr:Rdr11 w nv q) (hs:s.size<=4000000000):
 Calls Tryz.prog 123 #[.string s,.pointer (some ⟨cu,0,none⟩),.pointer (some ⟨cn,0,none⟩),.pointer (some ⟨cp,0,none⟩)] w fun e w'=>e = .returned (.bool (schR u p q s.data.toList))/\Below w.heap.size w w':=by
 obtain ⟨f,lb,rfl,eg,hc⟩:=hr
 have HCut:=hid (scutScheme_any s w hg hs);obtain ⟨U,hU⟩: ∃ X:ByteArray,X=⟨u.scheme.toArray⟩:=⟨_,rfl⟩
 obtain ⟨P,hP0⟩: ∃ X:ByteArray,X=⟨p.scheme.toArray⟩:=⟨_,rfl⟩
 have hUl:U.data.toList=u.scheme:=by rw [hU]
 have hPl:P.data.toList=p.scheme:=by rw [hP0]
 have HKu:=hid (show w.cell? ⟨cu,0,none⟩=some (.string U) by rw [hU];exact hA.cell 0 _ rfl);have HKp:=hid (show w.cell? ⟨cp,0,none⟩=some (.string P) by rw [hP0];exact hP.cell 0 _ rfl);have HKn:=hid hn;have HC:=hid (fun (X:World) (t:ByteArray) (hX:Below w.heap.size w X) (ht:t.size<=4000000000)=>hc X t hX ht);have HSP:=hid (fun w=>scheme11_any P U w);rw [hPl,hUl] at HSP
 obtain ⟨mp,hmp⟩: ∃ b,schM p.scheme u.scheme=b:=⟨_,rfl⟩
 rw [hmp] at HSP;clear hA hP hn hc hU hP0 hPl
 cases hsv:schemeV s.data.toList with
 | none=>
   have HV:=hid (show schR u p q s.data.toList=(mp&&q s.data.toList) by rw [schR_none hsv,hmp]);rw [hsv] at HCut;have HPre:Hid (∀ w:World,Calls Tryz.prog 126 #[.string ⟨#[]⟩,.string ⟨#[47,47]⟩] w fun e w'=>e = .returned (.tuple #[.string ⟨#[]⟩,.bool false])/\w'=w):=fun w=>Tryz.strings_CutPrefix ⟨#[]⟩ ⟨#[47,47]⟩ w
   clear hsv hUl hmp
   go_enter Tryz.func123,Tryz.ntmps123
   go_wp2_with fail
   refine HCut.out.mono ?_;rintro e w1 ⟨rfl,hb1⟩
   have HB1:=hid hb1;have d0:=keptC HKu.out hb1;have d1:=keptC HKp.out hb1;have d2:=keptC HKn.out hb1;clear hb1
   cases mp with
   | false=>
     go_wp2_with (first | (go_at_call 126;refine (HPre.out _).mono ?_;rintro e wz ⟨rfl,hwz⟩;rw [hwz];clear hwz) | (go_at_call 125;refine (HSP.out _).mono ?_;rintro e wz ⟨rfl,hwz⟩;rw [<- hwz];clear hwz))
     go_ret
     exact ⟨ret_bool (by rw [HV.out];rfl),HB1.out⟩
   | true=>
     go_wp2_with (first | (go_at_call 126;refine (HPre.out _).mono ?_;rintro e wz ⟨rfl,hwz⟩;rw [hwz];clear hwz) | (go_at_call 125;refine (HSP.out _).mono ?_;rintro e wz ⟨rfl,hwz⟩;rw [<- hwz];clear hwz))
     refine (HC.out _ s HB1.out hs).mono ?_;rintro e w3 ⟨rfl,hb3⟩
     go_wp2
     go_ret
     exact ⟨ret_bool (by rw [HV.out];rfl),below2 HB1.out hb3⟩
 | some m=>
   obtain ⟨sc,b⟩:=m
   have hle:=schemeV_le hsv;rw [hsv] at HCut;obtain ⟨S,hS⟩: ∃ X:ByteArray,X=⟨sc.toArray⟩:=⟨_,rfl⟩
   obtain ⟨B,hB⟩: ∃ X:ByteArray,X=⟨b.toArray⟩:=⟨_,rfl⟩
   have hSl:S.data.toList=sc:=by rw [hS]
   have hBl:B.data.toList=b:=by rw [hB]
   have hBs:B.size<=4000000000:=by rw [Lib.size_eq,hBl];rw [Lib.size_eq] at hs;omega
   have HCut2:Hid (Calls Tryz.prog 124 #[.string s] w fun e w'=>e = .returned (.tuple #[.string S,.string B,.bool true])/\Below w.heap.size w w'):=by
    rw [hS,hB];exact HCut.out
   clear HCut;have HCut:=HCut2;clear HCut2;have HSS:=hid (fun w=>scheme11_any S U w);rw [hSl,hUl] at HSS
   obtain ⟨ms,hms⟩: ∃ b,schM sc u.scheme=b:=⟨_,rfl⟩
   rw [hms] at HSS;have HPre0:=hid (fun w=>Tryz.strings_CutPrefix B ⟨#[47,47]⟩ w);by_cases hb0:b=[]
   ·have HV:=hid (show schR u p q s.data.toList=ms by rw [schR_all hsv hb0,hms])
    have hbe:=empty_yes B (by rw [hBl];exact hb0)
    clear hsv hUl hmp hS hB hSl hBl hle hb0 hms
    go_enter Tryz.func123,Tryz.ntmps123
    go_wp2_with fail
    refine HCut.out.mono ?_;rintro e w1 ⟨rfl,hb1⟩
    have HB1:=hid hb1;have d0:=keptC HKu.out hb1;have d1:=keptC HKp.out hb1;have d2:=keptC HKn.out hb1;clear hb1
    go_wp2_with (go_at_call 125;refine (HSS.out _).mono ?_;rintro e wz ⟨rfl,hwz⟩;rw [<- hwz];clear hwz)
    go_ret
    exact ⟨ret_bool (by rw [HV.out]),HB1.out⟩
   ·have hbe:=empty_no B (by rw [hBl];exact hb0)
    cases hpre:Lib.hasPrefix b [47,47] with
    | false=>
      have HV:=hid (show schR u p q s.data.toList=(mp&&q s.data.toList) by rw [schR_else hsv hb0 hpre,hmp]);obtain ⟨T,hT⟩: ∃ T:ByteArray,T=⟨(Lib.trimPrefix B.data.toList [47,47]).toArray⟩:=⟨_,rfl⟩
      have HPre:Hid (∀ w:World,Calls Tryz.prog 126 #[.string B,.string ⟨#[47,47]⟩] w fun e w'=>e = .returned (.tuple #[.string T,.bool false])/\w'=w):=fun w=>by
       have:=HPre0.out w;rw [show (⟨#[47,47]⟩:ByteArray).data.toList=[47,47] from rfl,<- hT,hBl,hpre] at this;exact this
      clear hsv hUl hmp hS hB hSl hBl hle hb0 hms hpre hT
      go_enter Tryz.func123,Tryz.ntmps123
      go_wp2_with fail
      refine HCut.out.mono ?_;rintro e w1 ⟨rfl,hb1⟩
      have HB1:=hid hb1;have d0:=keptC HKu.out hb1;have d1:=keptC HKp.out hb1;have d2:=keptC HKn.out hb1;clear hb1
      cases mp with
      | false=>
        go_wp2_with (first | (go_at_call 126;refine (HPre.out _).mono ?_;rintro e wz ⟨rfl,hwz⟩;rw [hwz];clear hwz) | (go_at_call 125;refine (HSP.out _).mono ?_;rintro e wz ⟨rfl,hwz⟩;rw [<- hwz];clear hwz))
        go_ret
        exact ⟨ret_bool (by rw [HV.out];rfl),HB1.out⟩
      | true=>
        go_wp2_with (first | (go_at_call 126;refine (HPre.out _).mono ?_;rintro e wz ⟨rfl,hwz⟩;rw [hwz];clear hwz) | (go_at_call 125;refine (HSP.out _).mono ?_;rintro e wz ⟨rfl,hwz⟩;rw [<- hwz];clear hwz))
        refine (HC.out _ s HB1.out hs).mono ?_;rintro e w3 ⟨rfl,hb3⟩
        go_wp2
        go_ret
        exact ⟨ret_bool (by rw [HV.out];rfl),below2 HB1.out hb3⟩
    | true=>
      have HV:=hid (show schR u p q s.data.toList=(ms&&q (b.drop 2)) by rw [schR_two hsv hb0 hpre,hms]);obtain ⟨T,hT⟩: ∃ T:ByteArray,T=⟨(b.drop 2).toArray⟩:=⟨_,rfl⟩
      have hTl:T.data.toList=b.drop 2:=by rw [hT]
      have hTs:T.size<=4000000000:=by rw [Lib.size_eq,hTl,List.length_drop,<- hBl,<- Lib.size_eq];omega
      have HPre:Hid (∀ w:World,Calls Tryz.prog 126 #[.string B,.string ⟨#[47,47]⟩] w fun e w'=>e = .returned (.tuple #[.string T,.bool true])/\w'=w):=fun w=>by
       have:=HPre0.out w;rw [show (⟨#[47,47]⟩:ByteArray).data.toList=[47,47] from rfl,hBl,hpre,show Lib.trimPrefix b [47,47]=b.drop 2 by unfold Lib.trimPrefix;rw [hpre];rfl,<- hT] at this;exact this
      rw [<- hTl] at HV;clear hsv hUl hmp hS hB hSl hBl hle hb0 hms hpre hT hTl
      go_enter Tryz.func123,Tryz.ntmps123
      go_wp2_with fail
      refine HCut.out.mono ?_;rintro e w1 ⟨rfl,hb1⟩
      have HB1:=hid hb1;have d0:=keptC HKu.out hb1;have d1:=keptC HKp.out hb1;have d2:=keptC HKn.out hb1;clear hb1
      cases ms with
      | false=>
        go_wp2_with (first | (go_at_call 126;refine (HPre.out _).mono ?_;rintro e wz ⟨rfl,hwz⟩;rw [hwz];clear hwz) | (go_at_call 125;refine (HSS.out _).mono ?_;rintro e wz ⟨rfl,hwz⟩;rw [<- hwz];clear hwz))
        go_ret
        exact ⟨ret_bool (by rw [HV.out];rfl),HB1.out⟩
      | true=>
        go_wp2_with (first | (go_at_call 126;refine (HPre.out _).mono ?_;rintro e wz ⟨rfl,hwz⟩;rw [hwz];clear hwz) | (go_at_call 125;refine (HSS.out _).mono ?_;rintro e wz ⟨rfl,hwz⟩;rw [<- hwz];clear hwz))
        refine (HC.out _ T HB1.out hTs).mono ?_;rintro e w3 ⟨rfl,hb3⟩
        go_wp2
        go_ret
        exact ⟨ret_bool (by rw [HV.out];rfl),below2 HB1.out hb3⟩
theorem enters_sch: ∀ args w,(callFunc 123 args).run Tryz.prog w = .ok (.enter 123 args) w:=enters_of Tryz.func123 (by kernel_rfl) rfl
theorem enters_word: ∀ args w,(callFunc 119 args).run Tryz.prog w = .ok (.enter 119 args) w:=enters_of Tryz.func119 (by kernel_rfl) rfl
theorem three_boxes (u p:Adr) (uv pv fv:Value) (w:World): ∃ w',w'=((w.alloc (.cells (adrCells u uv).toArray 24)).alloc (.cells (adrCells p pv).toArray 24)).alloc (.cells #[fv] 115)/\AdrIn w' w.heap.size u uv/\AdrIn w' (w.heap.size+1) p pv/\w'.cell? ⟨w.heap.size+2,0,none⟩=some fv/\Below w.heap.size w w':=by
 refine ⟨_,rfl,?_,?_,?_,?_⟩
 ·have h1:AdrIn (w.alloc (.cells (adrCells u uv).toArray 24)) w.heap.size u uv:=heap_alloc_new _ _
  exact (h1.kept ((Below.refl _ _).alloc (Nat.le_refl _) _)).kept ((Below.refl _ _).alloc (Nat.le_refl _) _)
 ·have hz:(w.alloc (.cells (adrCells u uv).toArray 24)).heap.size=w.heap.size+1:=by simp
  have h1:AdrIn ((w.alloc (.cells (adrCells u uv).toArray 24)).alloc (.cells (adrCells p pv).toArray 24)) (w.heap.size+1) p pv:=by
   unfold AdrIn;rw [<- hz];exact heap_alloc_new _ _
  exact h1.kept ((Below.refl _ _).alloc (Nat.le_refl _) _)
 ·have hz:((w.alloc (.cells (adrCells u uv).toArray 24)).alloc (.cells (adrCells p pv).toArray 24)).heap.size=w.heap.size+2:=by simp
  have:=heap_alloc_new ((w.alloc (.cells (adrCells u uv).toArray 24)).alloc (.cells (adrCells p pv).toArray 24)) (.cells #[fv] 115);rw [hz] at this;rw [Lib.cell_of_heap this];rfl
 ·exact ((Below.refl _ w).alloc (Nat.le_refl _) _).alloc (by simp) _ |>.alloc (by simp;omega) _
theorem readScheme_mk (u p:Adr) (uv pv:Value) (hu:IsSl uv) (hp:IsSl pv) (f:Nat) (lb:Array Value) (w:World):
 Calls Tryz.prog 95 #[adrVal u uv,adrVal p pv,.func (.func f) #[] lb] w fun e w'=>e = .returned (.func (.func 123) #[] #[.pointer (some ⟨w.heap.size,0,none⟩),.pointer (some ⟨w.heap.size+2,0,none⟩),.pointer (some ⟨w.heap.size+1,0,none⟩)])/\w'=((w.alloc (.cells (adrCells u uv).toArray 24)).alloc (.cells (adrCells p pv).toArray 24)).alloc (.cells #[.func (.func f) #[] lb] 115):=by
 have hmf: ∀ (fn:Fn) (first cap:Array Value) (w:World),(Instr.makeFunc fn first cap).run Tryz.prog w = .ok (.func fn first cap) w:=fun _ _ _ _=>rfl
 obtain ⟨ua,un,uc,rfl⟩:=hu
 obtain ⟨pa,pn,pc,rfl⟩:=hp
 unfold adrVal adrCells
 go_enter Tryz.func95,Tryz.ntmps95
 go_wp2
 go_ret
 exact ⟨rfl,rfl⟩
theorem readWord_mk (u p:Adr) (uv pv:Value) (hu:IsSl uv) (hp:IsSl pv) (f:Nat) (lb:Array Value) (w:World):
 Calls Tryz.prog 94 #[adrVal u uv,adrVal p pv,.func (.func f) #[] lb] w fun e w'=>e = .returned (.func (.func 119) #[] #[.pointer (some ⟨w.heap.size,0,none⟩),.pointer (some ⟨w.heap.size+1,0,none⟩),.pointer (some ⟨w.heap.size+2,0,none⟩)])/\w'=((w.alloc (.cells (adrCells u uv).toArray 24)).alloc (.cells (adrCells p pv).toArray 24)).alloc (.cells #[.func (.func f) #[] lb] 115):=by
 have hmf: ∀ (fn:Fn) (first cap:Array Value) (w:World),(Instr.makeFunc fn first cap).run Tryz.prog w = .ok (.func fn first cap) w:=fun _ _ _ _=>rfl
 obtain ⟨ua,un,uc,rfl⟩:=hu
 obtain ⟨pa,pn,pc,rfl⟩:=hp
 unfold adrVal adrCells
 go_enter Tryz.func94,Tryz.ntmps94
 go_wp2
 go_ret
 exact ⟨rfl,rfl⟩
theorem readScheme_any (u p:Adr) (uv pv:Value) (hu:IsSl uv) (hp:IsSl pv) (nv:Value) (q:List UInt8->Bool) (w:World) (hg:Gd w) (hr:Rdr11 w nv q):
 Calls Tryz.prog 95 #[adrVal u uv,adrVal p pv,nv] w (MkPost11 (schR u p q) w):=by
 have hr0:=hr;obtain ⟨f,lb,rfl,eg,hc⟩:=hr0
 refine (readScheme_mk u p uv pv hu hp f lb w).mono ?_;rintro e w' ⟨rfl,hw⟩
 obtain ⟨w2,hw2,hA,hP,hcell,hB⟩:=three_boxes u p uv pv (.func (.func f) #[] lb) w
 rw [<- hw2] at hw;subst hw;refine ⟨_,rfl,⟨_,_,rfl,enters_sch,fun X s hX hs=> ?_⟩,hB⟩
 exact schC_any u p uv pv w.heap.size (w.heap.size+2) (w.heap.size+1) _ q s X ((hg.kept hB).kept hX) (hA.kept hX) (hP.kept hX) (keptC hcell hX) (hr.kept (below2 hB hX)) hs
theorem wordR_star {u p:Adr} {q:List UInt8->Bool} {s:List UInt8} (h:s=[42]):wordR u p q s=(fetV u.scheme||u.scheme==p.scheme):=by unfold wordR;rw [if_pos h]
theorem wordR_self {u p:Adr} {q:List UInt8->Bool} {s:List UInt8} (h:s≠[42]) (h2:low s=tSelf):wordR u p q s=selfM u p:=by unfold wordR;rw [if_neg h,if_pos h2]
theorem wordR_else {u p:Adr} {q:List UInt8->Bool} {s:List UInt8} (h:s≠[42]) (h2:low s≠tSelf):wordR u p q s=(!Lib.hasPrefix s [39]&&q s):=by unfold wordR;rw [if_neg h,if_neg h2]
theorem wordC_any (u p:Adr) (uv pv:Value) (cu cp cn:Nat) (nv:Value) (q:List UInt8->Bool) (s:ByteArray) (w:World) (hg:Gd w) (hu:UrlAt w u uv) (hp:UrlAt w p pv) (hA:AdrIn w cu u uv) (hP:AdrIn w cp p pv) (hn:w.cell? ⟨cn,0,none⟩=some nv) (hr:Rdr11 w nv q) (hs:s.size<=4000000000):
 Calls Tryz.prog 119 #[.string s,.pointer (some ⟨cu,0,none⟩),.pointer (some ⟨cp,0,none⟩),.pointer (some ⟨cn,0,none⟩)] w fun e w'=>e = .returned (.bool (wordR u p q s.data.toList))/\Below w.heap.size w w':=by
 obtain ⟨f,lb,rfl,eg,hc⟩:=hr
 have HSelf:=hid (fun (w:World) (hg:Gd w) (hu:UrlAt w u uv) (hp:UrlAt w p pv)=>self_any u p uv pv w hg hu hp);obtain ⟨ua,un,uc,rfl⟩:=hu.sl
 obtain ⟨pa,pn,pc,rfl⟩:=hp.sl
 obtain ⟨u0,u1,u2,u3,u4,u5,u6,u8,u9,u10,u11,hx,hx0,-,-,-⟩:=adr_named u ua un uc
 obtain ⟨p0,p1,p2,p3,p4,p5,p6,p8,p9,p10,p11,hy,hy0,-,-,-⟩:=adr_named p pa pn pc
 have hva:adrVal u (.slice ua un uc) = .agg #[.string u0,.string u1,.string u2,.string u3,.bool u4,.int .i64 u5,.bool u6,.slice ua un uc,.string u8,.string u9,.bool u10,.bool u11]:=by unfold adrVal;rw [hx]
 have hvb:adrVal p (.slice pa pn pc) = .agg #[.string p0,.string p1,.string p2,.string p3,.bool p4,.int .i64 p5,.bool p6,.slice pa pn pc,.string p8,.string p9,.bool p10,.bool p11]:=by unfold adrVal;rw [hy]
 rw [hva,hvb] at HSelf
 have h1: ∀ Z,Below w.heap.size w Z -> ∀ j v,(adrCells u (.slice ua un uc))[j]? = some v->Z.cell? ⟨cu,j,none⟩=some v:=fun Z hZ j v h=>(hA.kept hZ).cell j v h
 have h2: ∀ Z,Below w.heap.size w Z -> ∀ j v,(adrCells p (.slice pa pn pc))[j]? = some v->Z.cell? ⟨cp,j,none⟩=some v:=fun Z hZ j v h=>(hP.kept hZ).cell j v h
 rw [hx] at h1;rw [hy] at h2;have HU:=hid h1;have HP:=hid h2;have HN:=hid hn;have HC:=hid (fun (X:World) (hX:Below w.heap.size w X)=>hc X s hX hs);have HG:=hid hg;have HUA:=hid hu;have HPA:=hid hp;have HFe:=hid (fun w=>fetched_any u0 w);rw [hx0] at HFe;have HLo:=hid (fun w=>lower_any s w (by omega));obtain ⟨L,hL⟩: ∃ N:ByteArray,N=⟨(low s.data.toList).toArray⟩:=⟨_,rfl⟩
 have hLl:L.data.toList=low s.data.toList:=by rw [hL]
 rw [<- hL] at HLo;have HPre:Hid (∀ w:World,Calls Tryz.prog 122 #[.string s,.string ⟨#[39]⟩] w fun e w'=>e = .returned (.bool (Lib.hasPrefix s.data.toList [39]))/\w'=w):=fun w=>Tryz.strings_HasPrefix s ⟨#[39]⟩ w
 obtain ⟨pf,hpf⟩: ∃ b,Lib.hasPrefix s.data.toList [39]=b:=⟨_,rfl⟩
 rw [hpf] at HPre;by_cases h42:s.data.toList=[42]
 ·obtain ⟨fe,hfe⟩: ∃ b,fetV u.scheme=b:=⟨_,rfl⟩
  rw [hfe] at HFe;obtain ⟨eq,heq⟩: ∃ b,(u0.toList==p0.toList)=b:=⟨_,rfl⟩
  have HV:=hid (show wordR u p q s.data.toList=(fe||eq) by rw [wordR_star h42,hfe,<- hx0,<- hy0,<- heq,Lib.toList_data,Lib.toList_data]);have e42:=beq_yes s [42] h42;have y0:=HU.out w (Below.refl _ _) 0 _ rfl;have z0:=HP.out w (Below.refl _ _) 0 _ rfl;clear h42 h1 h2 hn hg hu hp hA hP hx hy hva hvb hx0 hy0 hfe hpf hLl hL hc
  cases fe<;>
  ·go_enter Tryz.func119,Tryz.ntmps119
   go_wp2_with (go_at_call 120;refine (HFe.out _).mono ?_;rintro e wz ⟨rfl,hwz⟩;rw [<- hwz];clear hwz)
   go_ret
   exact ⟨ret_bool (by rw [HV.out];rfl),Below.refl _ _⟩
 ·have e42:=beq_no s [42] h42
  by_cases hse:low s.data.toList=tSelf
  ·have HV:=hid (wordR_self (u:=u) (p:=p) (q:=q) h42 hse)
   have eS:=beq_yes L [39,115,101,108,102,39] (by rw [hLl];exact hse)
   clear h42 h1 h2 hn hg hu hp hA hP hx hy hva hvb hx0 hy0 hpf hLl hL hse hc
   go_enter Tryz.func119,Tryz.ntmps119
   go_wp2_with fail
   refine (HLo.out _).mono ?_;rintro e w1 ⟨rfl,hb1⟩
   have HB1:=hid hb1;have y0:=HU.out w1 hb1 0 _ rfl;have z0:=HP.out w1 hb1 0 _ rfl;have y1:=HU.out w1 hb1 1 _ rfl;have z1:=HP.out w1 hb1 1 _ rfl;have y2:=HU.out w1 hb1 2 _ rfl;have z2:=HP.out w1 hb1 2 _ rfl;have y3:=HU.out w1 hb1 3 _ rfl;have z3:=HP.out w1 hb1 3 _ rfl;have y4:=HU.out w1 hb1 4 _ rfl;have z4:=HP.out w1 hb1 4 _ rfl;have y5:=HU.out w1 hb1 5 _ rfl;have z5:=HP.out w1 hb1 5 _ rfl;have y6:=HU.out w1 hb1 6 _ rfl;have z6:=HP.out w1 hb1 6 _ rfl;have y7:=HU.out w1 hb1 7 _ rfl;have z7:=HP.out w1 hb1 7 _ rfl;have y8:=HU.out w1 hb1 8 _ rfl;have z8:=HP.out w1 hb1 8 _ rfl
   have y9:=HU.out w1 hb1 9 _ rfl;have z9:=HP.out w1 hb1 9 _ rfl;have y10:=HU.out w1 hb1 10 _ rfl;have z10:=HP.out w1 hb1 10 _ rfl;have y11:=HU.out w1 hb1 11 _ rfl;have z11:=HP.out w1 hb1 11 _ rfl;clear hb1
   go_wp2_with (go_at_call 121;refine (HSelf.out _ (HG.out.kept HB1.out) (HUA.out.kept HB1.out) (HPA.out.kept HB1.out)).mono ?_;rintro e w2 ⟨rfl,hb2⟩)
   go_ret
   exact ⟨ret_bool (by rw [HV.out]),below2 HB1.out hb2⟩
  ·have HV:=hid (show wordR u p q s.data.toList=(!pf&&q s.data.toList) by rw [wordR_else h42 hse,hpf])
   have eS:=beq_no L [39,115,101,108,102,39] (by rw [hLl];exact hse)
   clear h42 h1 h2 hn hg hu hp hA hP hx hy hva hvb hx0 hy0 hpf hLl hL hse hc
   go_enter Tryz.func119,Tryz.ntmps119
   go_wp2_with fail
   refine (HLo.out _).mono ?_;rintro e w1 ⟨rfl,hb1⟩
   have HB1:=hid hb1;have d2:=keptC HN.out hb1;clear hb1
   cases pf with
   | true=>
     go_wp2_with (go_at_call 122;refine (HPre.out _).mono ?_;rintro e wz ⟨rfl,hwz⟩;rw [hwz];clear hwz)
     go_ret
     exact ⟨ret_bool (by rw [HV.out];rfl),HB1.out⟩
   | false=>
     go_wp2_with (go_at_call 122;refine (HPre.out _).mono ?_;rintro e wz ⟨rfl,hwz⟩;rw [hwz];clear hwz)
     refine (HC.out _ HB1.out).mono ?_;rintro e w3 ⟨rfl,hb3⟩
     go_wp2
     go_ret
     exact ⟨ret_bool (by rw [HV.out];rfl),below2 HB1.out hb3⟩
theorem readWord_any (u p:Adr) (uv pv:Value) (nv:Value) (q:List UInt8->Bool) (w:World) (hg:Gd w) (hu:UrlAt w u uv) (hp:UrlAt w p pv) (hr:Rdr11 w nv q):
 Calls Tryz.prog 94 #[adrVal u uv,adrVal p pv,nv] w (MkPost11 (wordR u p q) w):=by
 have hr0:=hr;obtain ⟨f,lb,rfl,eg,hc⟩:=hr0
 refine (readWord_mk u p uv pv hu.sl hp.sl f lb w).mono ?_;rintro e w' ⟨rfl,hw⟩
 obtain ⟨w2,hw2,hA,hP,hcell,hB⟩:=three_boxes u p uv pv (.func (.func f) #[] lb) w
 rw [<- hw2] at hw;subst hw;refine ⟨_,rfl,⟨_,_,rfl,enters_word,fun X s hX hs=> ?_⟩,hB⟩
 exact wordC_any u p uv pv w.heap.size (w.heap.size+1) (w.heap.size+2) _ q s X ((hg.kept hB).kept hX) ((hu.kept hB).kept hX) ((hp.kept hB).kept hX) (hA.kept hX) (hP.kept hX) (keptC hcell hX) (hr.kept (below2 hB hX)) hs
theorem enters_path: ∀ args w,(callFunc 133 args).run Tryz.prog w = .ok (.enter 133 args) w:=enters_of Tryz.func133 (by kernel_rfl) rfl
def Sized11 (u:Adr):Prop:=u.host.length<=4000000000 /\ ∀ x ∈ u.path,x.length<=140737488351232
theorem readPath11_any (u:Adr) (uv:Value) (hops:Int) (w:World) (hg:Gd w) (hu:UrlAt w u uv) (hz:Sized11 u):
 Calls Tryz.prog 98 #[adrVal u uv,.int .i64 hops] w (MkPost11 (pathM hops u) w):=by
 have hmf: ∀ (fn:Fn) (first cap:Array Value) (w:World),(Instr.makeFunc fn first cap).run Tryz.prog w = .ok (.func fn first cap) w:=fun _ _ _ _=>rfl
 obtain ⟨ua,un,uc,rfl⟩:=hu.sl
 obtain ⟨u0,u1,u2,u3,u4,u5,u6,u8,u9,u10,u11,hx,-,-,-,-⟩:=adr_named u ua un uc
 have hva:adrVal u (.slice ua un uc) = .agg #[.string u0,.string u1,.string u2,.string u3,.bool u4,.int .i64 u5,.bool u6,.slice ua un uc,.string u8,.string u9,.bool u10,.bool u11]:=by unfold adrVal;rw [hx]
 rw [hva];obtain ⟨W1,hW1⟩: ∃ W1,(w.alloc (.cells #[.string u0,.string u1,.string u2,.string u3,.bool u4,.int .i64 u5,.bool u6,.slice ua un uc,.string u8,.string u9,.bool u10,.bool u11] 24))=W1:=⟨_,rfl⟩
 have hb1:Below w.heap.size w W1:=by rw [<- hW1];exact (Below.refl _ w).alloc (Nat.le_refl _) _
 have hs1:W1.heap.size=w.heap.size+1:=by rw [<- hW1];simp
 have hA1:AdrIn W1 w.heap.size u (.slice ua un uc):=by
  unfold AdrIn;rw [hx,<- hW1]
  exact heap_alloc_new w _
 obtain ⟨W2,hW2⟩: ∃ W2,(W1.alloc (.cells #[.int .i64 hops] 3))=W2:=⟨_,rfl⟩
 have hb2:Below W1.heap.size W1 W2:=by rw [<- hW2];exact (Below.refl _ W1).alloc (Nat.le_refl _) _
 have hA2:=hA1.kept hb2;have hI2:W2.cell? ⟨w.heap.size+1,0,none⟩=some (.int .i64 hops):=by
  have:=heap_alloc_new W1 (.cells #[.int .i64 hops] 3);rw [hW2,hs1] at this
  rw [Lib.cell_of_heap this];rfl
 have hB2:=below2 hb1 hb2;have hfl: ∀ j v,(adrCells u (.slice ua un uc))[j]? = some v->W2.cell? ⟨w.heap.size,j,none⟩=some v:=fun j v h=>hA2.cell j v h
 rw [hx] at hfl;have y7:=hfl 7 _ rfl;have HG2:=hid (hg.kept hB2);have HU2:=hid (hu.kept hB2);have HA2:=hid hA2;have HI2:=hid hI2;have HB2:=hid hB2;have HUn:=hid (fun (w:World) (h:PathAt w (.slice ua un uc) u.path)=>unpercented_any (.slice ua un uc) u.path w h (by have:=hu.2.1;omega) hz.2);have HL:=hid (show u.path.length<=5000000000 by have:=hu.2.1;omega);unfold TxPost at HUn;obtain ⟨n,hn⟩: ∃ n,n=(u.path.map unpct).length:=⟨_,rfl⟩
 have HNN:=hid hn;rw [<- hn] at HUn;clear hb1 hA1 hb2 hA2 hI2 hB2 hfl hg hu hz hx hva hn
 go_enter Tryz.func98,Tryz.ntmps98
 go_wp2_with fail
 refine (HUn.out _ HU2.out.1).mono ?_;rintro e w3 ⟨g,cap,rfl,hown,hb3⟩
 have HB3:=hid (below2 HB2.out hb3);have HB23:=hid hb3;have HO:=hid hown;clear hb3 hown
 go_wp2_with fail
 go_ret
 obtain ⟨W4,hW4⟩: ∃ W4,W4=w3.alloc (.cells #[.slice (some ⟨g,0,none⟩) n cap] 22):=⟨_,rfl⟩
 rw [<- hW4];have hb4:Below w3.heap.size w3 W4:=by rw [hW4];exact (Below.refl _ w3).alloc (Nat.le_refl _) _
 have hcell:W4.cell? ⟨w3.heap.size,0,none⟩=some (.slice (some ⟨g,0,none⟩) n cap):=by
  have:=heap_alloc_new w3 (.cells #[.slice (some ⟨g,0,none⟩) n cap] 22);rw [<- hW4] at this;rw [Lib.cell_of_heap this];rfl
 have h24:=below2 HB23.out hb4;have hO:=HO.out;have hnn:=HNN.out;rw [hnn] at hO hcell;obtain ⟨t1,t2,t3⟩:=own_txS hO
 refine ⟨_,rfl,⟨_,_,rfl,enters_path,fun X s hX hs=> ?_⟩,below2 HB3.out hb4⟩
 exact pathC_any u (.slice ua un uc) hops (w.heap.size+1) w.heap.size w3.heap.size g cap s X ((HG2.out.kept h24).kept hX) ((HA2.out.kept h24).kept hX) (keptC (keptC HI2.out h24) hX) (keptC hcell hX) ((t1.kept hb4).kept hX) t2 HL.out hs
theorem meaning_any (u p:Adr) (uv pv:Value) (hops:Int) (w:World) (hg:Gd w) (hu:UrlAt w u uv) (hp:UrlAt w p pv) (hz:Sized11 u):
 Calls Tryz.prog 77 #[adrVal u uv,adrVal p pv,.int .i64 hops] w (MkPost11 (oneV u p hops) w):=by
 obtain ⟨ua,un,uc,rfl⟩:=hu.sl
 obtain ⟨pa,pn,pc,rfl⟩:=hp.sl
 have H1:=hid (fun (w:World) (hg:Gd w) (hu:UrlAt w u (.slice ua un uc))=>readPath11_any u (.slice ua un uc) hops w hg hu hz);have H2:=hid (fun (nv:Value) (q:List UInt8->Bool) (w:World) (hr:Rdr11 w nv q)=>readPort11_any u (.slice ua un uc) ⟨_,_,_,rfl⟩ nv q w hr);have H3:=hid (fun (nv:Value) (q:List UInt8->Bool) (w:World) (hr:Rdr11 w nv q)=>readHost_any u (.slice ua un uc) ⟨_,_,_,rfl⟩ hz.1 nv q w hr);have H4:=hid (fun (nv:Value) (q:List UInt8->Bool) (w:World) (hg:Gd w) (hr:Rdr11 w nv q)=>readScheme_any u p (.slice ua un uc) (.slice pa pn pc) ⟨_,_,_,rfl⟩ ⟨_,_,_,rfl⟩ nv q w hg hr)
 have H5:=hid (fun (nv:Value) (q:List UInt8->Bool) (w:World) (hg:Gd w) (hu:UrlAt w u (.slice ua un uc)) (hp:UrlAt w p (.slice pa pn pc)) (hr:Rdr11 w nv q)=>readWord_any u p (.slice ua un uc) (.slice pa pn pc) nv q w hg hu hp hr);obtain ⟨u0,u1,u2,u3,u4,u5,u6,u8,u9,u10,u11,hx,-,-,-,-⟩:=adr_named u ua un uc
 obtain ⟨p0,p1,p2,p3,p4,p5,p6,p8,p9,p10,p11,hy,-,-,-,-⟩:=adr_named p pa pn pc
 have hva:adrVal u (.slice ua un uc) = .agg #[.string u0,.string u1,.string u2,.string u3,.bool u4,.int .i64 u5,.bool u6,.slice ua un uc,.string u8,.string u9,.bool u10,.bool u11]:=by unfold adrVal;rw [hx]
 have hvb:adrVal p (.slice pa pn pc) = .agg #[.string p0,.string p1,.string p2,.string p3,.bool p4,.int .i64 p5,.bool p6,.slice pa pn pc,.string p8,.string p9,.bool p10,.bool p11]:=by unfold adrVal;rw [hy]
 rw [hva] at H1 H2 H3 ⊢;rw [hva,hvb] at H4 H5
 rw [hvb];obtain ⟨W1,hW1⟩: ∃ W1,(w.alloc (.cells #[.string u0,.string u1,.string u2,.string u3,.bool u4,.int .i64 u5,.bool u6,.slice ua un uc,.string u8,.string u9,.bool u10,.bool u11] 24))=W1:=⟨_,rfl⟩
 have hb1:Below w.heap.size w W1:=by rw [<- hW1];exact (Below.refl _ w).alloc (Nat.le_refl _) _
 have hs1:W1.heap.size=w.heap.size+1:=by rw [<- hW1];simp
 have hA1:AdrIn W1 w.heap.size u (.slice ua un uc):=by
  unfold AdrIn;rw [hx,<- hW1]
  exact heap_alloc_new w _
 obtain ⟨W2,hW2⟩: ∃ W2,(W1.alloc (.cells #[.string p0,.string p1,.string p2,.string p3,.bool p4,.int .i64 p5,.bool p6,.slice pa pn pc,.string p8,.string p9,.bool p10,.bool p11] 24))=W2:=⟨_,rfl⟩
 have hb2:Below W1.heap.size W1 W2:=by rw [<- hW2];exact (Below.refl _ W1).alloc (Nat.le_refl _) _
 have hA2:=hA1.kept hb2;have hP2:AdrIn W2 (w.heap.size+1) p (.slice pa pn pc):=by
  unfold AdrIn;rw [hy,<- hW2,<- hs1]
  exact heap_alloc_new W1 _
 have hB2:=below2 hb1 hb2;have HG2:=hid (hg.kept hB2);have HU2:=hid (hu.kept hB2);have HP2:=hid (hp.kept hB2);have HB2:=hid hB2;have HRu:=hid (show ∀ Z,Below W2.heap.size W2 Z->Z.rangeAt w.heap.size 0 [.string u0,.string u1,.string u2,.string u3,.bool u4,.int .i64 u5,.bool u6,.slice ua un uc,.string u8,.string u9,.bool u10,.bool u11] from fun Z hZ=>by
  have:=range_row (show Z.heap[w.heap.size]? = some (.cells (adrCells u (.slice ua un uc)).toArray 24 (0,0)) from hA2.kept hZ);rw [hx] at this;exact this)
 have HRp:=hid (show ∀ Z,Below W2.heap.size W2 Z->Z.rangeAt (w.heap.size+1) 0 [.string p0,.string p1,.string p2,.string p3,.bool p4,.int .i64 p5,.bool p6,.slice pa pn pc,.string p8,.string p9,.bool p10,.bool p11] from fun Z hZ=>by
  have:=range_row (show Z.heap[w.heap.size+1]? = some (.cells (adrCells p (.slice pa pn pc)).toArray 24 (0,0)) from hP2.kept hZ);rw [hy] at this;exact this)
 clear hb1 hb2 hA1 hA2 hP2 hB2 hg hu hp hx hy hz hva hvb
 go_enter Tryz.func77,Tryz.ntmps77
 go_wp2_with fail
 have HQ0:=hid ((Below.refl W2.heap.size W2).drew);refine wp_region_held_drew (S:=(fun wx=>Below W2.heap.size W2 wx)) (by kernel_rfl) HQ0.out (fun hHeld=> ?_)
 refine wpAnyH_take (i:=0) rfl (by kernel_rfl) (by kernel_rfl) (by kernel_rfl) (fun _ _ _ h=>h) (yieldsIf_load_mid (by kernel_rfl) 24 (.tmp 3) rfl w.heap.size 0 rfl [.string u0,.string u1,.string u2,.string u3,.bool u4,.int .i64 u5,.bool u6,.slice ua un uc,.string u8,.string u9,.bool u10,.bool u11] _ HRu.out Tryz.underlying24 rfl sizeU) (by assumption) ?_
 (try simp only [Act.put,List.setIfInBounds_toArray,List.set_cons_zero,List.set_cons_succ])
 refine wpAnyH_take (i:=1) rfl (by kernel_rfl) (by kernel_rfl) (by kernel_rfl) (fun _ _ _ h=>h) (yieldsIf_load_mid (by kernel_rfl) 24 (.tmp 4) rfl (w.heap.size+1) 0 rfl [.string p0,.string p1,.string p2,.string p3,.bool p4,.int .i64 p5,.bool p6,.slice pa pn pc,.string p8,.string p9,.bool p10,.bool p11] _ HRp.out Tryz.underlying24 rfl sizeU) (by assumption) ?_
 (try simp only [Act.put,List.setIfInBounds_toArray,List.set_cons_zero,List.set_cons_succ])
 refine wpAnyH_take (i:=2) rfl (by kernel_rfl) (by kernel_rfl) (by kernel_rfl) (fun _ _ _ h=>h) (yieldsIf_load_mid (by kernel_rfl) 24 (.tmp 3) rfl w.heap.size 0 rfl [.string u0,.string u1,.string u2,.string u3,.bool u4,.int .i64 u5,.bool u6,.slice ua un uc,.string u8,.string u9,.bool u10,.bool u11] _ HRu.out Tryz.underlying24 rfl sizeU) (by assumption) ?_
 (try simp only [Act.put,List.setIfInBounds_toArray,List.set_cons_zero,List.set_cons_succ])
 refine wpAnyH_take (i:=3) rfl (by kernel_rfl) (by kernel_rfl) (by kernel_rfl) (fun _ _ _ h=>h) (yieldsIf_load_mid (by kernel_rfl) 24 (.tmp 4) rfl (w.heap.size+1) 0 rfl [.string p0,.string p1,.string p2,.string p3,.bool p4,.int .i64 p5,.bool p6,.slice pa pn pc,.string p8,.string p9,.bool p10,.bool p11] _ HRp.out Tryz.underlying24 rfl sizeU) (by assumption) ?_
 (try simp only [Act.put,List.setIfInBounds_toArray,List.set_cons_zero,List.set_cons_succ])
 refine wpAnyH_take (i:=4) rfl (by kernel_rfl) (by kernel_rfl) (by kernel_rfl) (fun _ _ _ h=>h) (yieldsIf_load_mid (by kernel_rfl) 24 (.tmp 3) rfl w.heap.size 0 rfl [.string u0,.string u1,.string u2,.string u3,.bool u4,.int .i64 u5,.bool u6,.slice ua un uc,.string u8,.string u9,.bool u10,.bool u11] _ HRu.out Tryz.underlying24 rfl sizeU) (by assumption) ?_
 (try simp only [Act.put,List.setIfInBounds_toArray,List.set_cons_zero,List.set_cons_succ])
 refine wpAnyH_take (i:=5) rfl (by kernel_rfl) (by kernel_rfl) (by kernel_rfl) (fun _ _ _ h=>h) (yieldsIf_load_mid (by kernel_rfl) 24 (.tmp 3) rfl w.heap.size 0 rfl [.string u0,.string u1,.string u2,.string u3,.bool u4,.int .i64 u5,.bool u6,.slice ua un uc,.string u8,.string u9,.bool u10,.bool u11] _ HRu.out Tryz.underlying24 rfl sizeU) (by assumption) ?_
 (try simp only [Act.put,List.setIfInBounds_toArray,List.set_cons_zero,List.set_cons_succ])
 refine wpAnyH_take (i:=6) rfl (by kernel_rfl) (by kernel_rfl) (by kernel_rfl) (fun _ _ _ h=>h) (yieldsIf_load_mid (by kernel_rfl) 24 (.tmp 3) rfl w.heap.size 0 rfl [.string u0,.string u1,.string u2,.string u3,.bool u4,.int .i64 u5,.bool u6,.slice ua un uc,.string u8,.string u9,.bool u10,.bool u11] _ HRu.out Tryz.underlying24 rfl sizeU) (by assumption) ?_
 (try simp only [Act.put,List.setIfInBounds_toArray,List.set_cons_zero,List.set_cons_succ])
 refine' wpAnyH_take (i:=7) (oi:=⟨some 14,_,_,_,_,_⟩) (v:=_) rfl (by kernel_rfl) (by kernel_rfl) (by kernel_rfl) (fun _ _ _ h=>h) (Or.inl ⟨by kernel_rfl,?hy7⟩) (by assumption) ?rest7
 case hy7=>(intro w hSw;(try dsimp only at hSw);go_simp;first | done | with_reducible rfl)
 (try simp only [Act.put,List.setIfInBounds_toArray,List.set_cons_zero,List.set_cons_succ])
 refine wpAnyH_ready (rs:=[8]) (by kernel_rfl) (by simp) ?_
 refine AllReadyH.cons rfl (fun K hK=> ?_) AllReadyH.nil;rw [if_pos (by kernel_rfl)]
 go_simp
 go_wp2_with (go_at_call 98;refine (H1.out _ (HG2.out.kept HQ0.out) (HU2.out.kept HQ0.out)).mono ?_;rintro e x1 ⟨v1,rfl,hr1,hbx1⟩)
 have HR1:=hid hr1;have HQ1:=hid (below2 HQ0.out hbx1);clear hr1 hbx1;refine hK.out _ _ HQ1.out (fun hHeld2=> ?_);clear hK K hHeld
 rename _=>hHeld
 refine wpAnyH_ready (rs:=[9]) (by kernel_rfl) (by simp) ?_
 refine AllReadyH.cons rfl (fun K hK=> ?_) AllReadyH.nil;rw [if_pos (by kernel_rfl)]
 go_simp
 go_wp2_with (go_at_call 97;refine (H2.out _ _ _ HR1.out).mono ?_;rintro e x2 ⟨v2,rfl,hr2,hbx2⟩)
 have HR2:=hid hr2;have HQ2:=hid (below2 HQ1.out hbx2);clear hr2 hbx2;refine hK.out _ _ HQ2.out (fun hHeld2=> ?_);clear hK K hHeld
 rename _=>hHeld
 refine wpAnyH_ready (rs:=[10]) (by kernel_rfl) (by simp) ?_
 refine AllReadyH.cons rfl (fun K hK=> ?_) AllReadyH.nil;rw [if_pos (by kernel_rfl)]
 go_simp
 go_wp2_with (go_at_call 96;refine (H3.out _ _ _ HR2.out).mono ?_;rintro e x3 ⟨v3,rfl,hr3,hbx3⟩)
 have HR3:=hid hr3;have HQ3:=hid (below2 HQ2.out hbx3);clear hr3 hbx3;refine hK.out _ _ HQ3.out (fun hHeld2=> ?_);clear hK K hHeld
 rename _=>hHeld
 refine wpAnyH_ready (rs:=[11]) (by kernel_rfl) (by simp) ?_
 refine AllReadyH.cons rfl (fun K hK=> ?_) AllReadyH.nil;rw [if_pos (by kernel_rfl)]
 go_simp
 go_wp2_with (go_at_call 95;refine (H4.out _ _ _ (HG2.out.kept HQ3.out) HR3.out).mono ?_;rintro e x4 ⟨v4,rfl,hr4,hbx4⟩)
 have HR4:=hid hr4;have HQ4:=hid (below2 HQ3.out hbx4);clear hr4 hbx4;refine hK.out _ _ HQ4.out (fun hHeld2=> ?_);clear hK K hHeld
 rename _=>hHeld
 refine wpAnyH_ready (rs:=[12]) (by kernel_rfl) (by simp) ?_
 refine AllReadyH.cons rfl (fun K hK=> ?_) AllReadyH.nil;rw [if_pos (by kernel_rfl)]
 go_simp
 go_wp2_with (go_at_call 94;refine (H5.out _ _ _ (HG2.out.kept HQ4.out) (HU2.out.kept HQ4.out) (HP2.out.kept HQ4.out) HR4.out).mono ?_;rintro e x5 ⟨v5,rfl,hr5,hbx5⟩)
 have HR5:=hid hr5;have HQ5:=hid (below2 HQ4.out hbx5);clear hr5 hbx5;refine hK.out _ _ HQ5.out (fun hHeld2=> ?_);clear hK K hHeld
 rename _=>hHeld
 refine' wpAnyH_take (i:=13) (oi:=⟨some 6,_,_,_,_,_⟩) (v:=_) rfl (by kernel_rfl) (by kernel_rfl) (by kernel_rfl) (fun _ _ _ h=>h) (Or.inl ⟨by kernel_rfl,?hy13⟩) (by assumption) ?rest13
 case hy13=>(intro w hSw;(try dsimp only at hSw);go_simp;first | done | with_reducible rfl)
 (try simp only [Act.put,List.setIfInBounds_toArray,List.set_cons_zero,List.set_cons_succ])
 refine wpAnyH_done (by kernel_rfl) ?_ _
 have HB5:=hid (below2 HB2.out HQ5.out);clear HQ0 HQ1 HQ2 HQ3 HQ4 HQ5 hHeld HRu HRp
 go_wp2
 go_ret
 exact ⟨v5,by first | rfl | simp,HR5.out,HB5.out⟩
end Go.Proofs.YtijpkalkfbejeaaGreatDoor
