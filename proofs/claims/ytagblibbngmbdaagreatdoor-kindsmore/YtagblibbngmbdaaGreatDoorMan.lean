import Derived.Test.YtagblibbngmbdaaGreatDoorMai
set_option maxRecDepth 100000
set_option maxHeartbeats 2000000
namespace Go.Proofs.YtagblibbngmbdaaGreatDoor
open Go.RowKit
theorem zia (f:Nat) (hCB:CB f) (c:Cx) (w:World) (n:Nat) (s:Sx.St) (sb:Nat) (at':Int) (h:RD c w n s) (hA:c.apart sb) (hS:S9 w sb 11 at' ⟨#[]⟩ ⟨#[]⟩ ⟨#[]⟩ 0 (.slice none 0 0) (.slice none 0 0) (.slice none 0 0)) (hf: ¬ Dry (Sx.nest c.e f 11 s (c.full.drop n))):
  Calls Tryz.prog 149 #[.pointer (some ⟨c.rb,0,none⟩),.pointer (some ⟨sb,0,none⟩)] w (Post c [sb,c.rb] w (encB w sb 11 at') (Sx.nest c.e f 11 s (c.full.drop n))):=by
 have HF:=hide hf
 have HH:=hide h
 have HA:=hide hA
 have HS:=hide hS
 have HCB:=hide hCB
 have HSub:Hid (∀ a b,Kp [c.rb] a b→Kp [sb,c.rb] a b):=fun a b h=>h.mono (by simp)
 have hnb:sb ∉ [c.rb]:=by have:=hA.1;simp;omega
 have hr:=h.rlt
 have hsl:=hS.lt
 have HRb:Hid (c.rb<w.heap.size):=hr
 have HSl:Hid (sb<w.heap.size):=hsl
 have hne:=hA.1
 have hne':sb ≠ c.rb:=fun e=>hne e.symm
 obtain ⟨c0,c1,c2,c3,c4,c5,c6,c7,c8,cf⟩:=hS
 clear h hA hf hCB
 go_enter Tryz.func149,Tryz.ntmps149
 go_wp2_with fail
 refine (zay c _ n s HH.out).mono ?_
 intro e w1 hp
 rcases hm1:Sx.nameOf c.e s (c.full.drop n) with ⟨A,s1,r1⟩|⟨code,p,rest⟩
 ·rw [hm1] at hp
  obtain ⟨v1,n1,rfl,hv1,hr1,hd1,hk1⟩:=hp
  unfold encT at hv1
  rw [hv1]
  have HM1:=hide hm1
  have HR1:=hide hr1
  have HD1:=hide hd1
  have HK1:=hide hk1
  obtain ⟨c0,c1,c2,c3,c4,c5,c6,c7,c8,cf⟩:=HS.out.keep hk1 hnb
  clear hm1 hr1 hd1 hk1 hv1
  generalize hbA:bs A=bA at *
  have HBA:=hide hbA
  clear hbA
  go_wp2_with fail
  refine (zak ⟨#[102,114,111,109]⟩ (by simp) c _ n1 s1 (by exact HD1.out.set_apart HA.out _ _)).mono ?_
  intro e w2 hp
  rw [show (⟨#[102,114,111,109]⟩:ByteArray).data.toList=Sx.wFrom from rfl] at hp
  have KA:Hid (Kp [sb,c.rb] w (w1.setCell ⟨sb,2,none⟩ (.string bA))):=Kp.rb (HSub.out _ _ HK1.out) _ _
  rcases hm2:Sx.skp c.e Sx.wFrom s1 (c.full.drop n1) with ⟨u2,s2,r2⟩|⟨code,p,rest⟩
  ·rw [hm2] at hp
   obtain ⟨v2,n2,rfl,hv2,hr2,hd2,hk2⟩:=hp
   have HM2:=hide hm2
   have HR2:=hide hr2
   have HD2:=hide hd2
   have HK2:=hide hk2
   clear hm2 hr2 hd2 hk2 hv2 c0 c1 c2 c3 c4 c5 c6 c7 c8 cf
   go_wp2_with fail
   refine (zay c _ n2 s2 HD2.out).mono ?_
   intro e w3 hp
   rcases hm3:Sx.nameOf c.e s2 (c.full.drop n2) with ⟨B,s3,r3⟩|⟨code,p,rest⟩
   ·rw [hm3] at hp
    obtain ⟨v3,n3,rfl,hv3,hr3,hd3,hk3⟩:=hp
    unfold encT at hv3
    rw [hv3]
    have HM3:=hide hm3
    have HR3:=hide hr3
    have HD3:=hide hd3
    have HK3:=hide hk3
    have HS3:=hide ((((HS.out.keep HK1.out hnb).setA bA).keep HK2.out hnb).keep hk3 hnb)
    obtain ⟨c0,c1,c2,c3,c4,c5,c6,c7,c8,cf⟩:=HS3.out
    clear hm3 hr3 hd3 hk3 hv3
    generalize hbB:bs B=bB at *
    have HBB:=hide hbB
    clear hbB
    have HNA:Hid (Sx.nestA c.e f 11 s (c.full.drop n)= .inl ({ Sx.F0 with A:=A,B:=B },s3,c.full.drop n3)):=by
     show _=_
     unfold Sx.nestA
     rw [if_pos (by omega),HM1.out,HR1.out]
     show Sx.bnd (Sx.skp c.e Sx.wFrom s1 (c.full.drop n1)) _=_
     rw [HM2.out,HR2.out]
     show Sx.bnd (Sx.nameOf c.e s2 (c.full.drop n2)) _=_
     rw [HM3.out,HR3.out]
     rfl
    have HFB:Hid (¬ Dry (Sx.ps c.e f 0 [] s3 (c.full.drop n3))):=by
     have h1:=HF.out
     unfold Sx.nest at h1
     exact Dry.bnd (Dry.next h1 HNA.out)
    have KB:Hid (Kp [sb,c.rb] w (w3.setCell ⟨sb,3,none⟩ (.string bB))):=Kp.rb ((KA.out.trans (HSub.out _ _ HK2.out)).trans (HSub.out _ _ HK3.out)) _ _
    have HSB:=hide (HS3.out.setB bB)
    have HDB:=hide (HD3.out.set_apart HA.out 3 (.string bB))
    have HEB:Hid (∀ w',EL w' (fun b=>w.heap.size≤b) 1 [] (.slice none 0 0)):=fun w'=>EL.nil _ _ _ _
    have HX0:Hid (∃ x:Sx.Flds,x={ Sx.F0 with A:=A,B:=B }):=⟨_,rfl⟩
    clear HS3
    go_wp2_with fail
    refine (HCB.out c _ n3 s3 (by exact HDB.out) HFB.out).mono ?_
    intro e w4 hp
    rcases hm4:Sx.ps c.e f 0 [] s3 (c.full.drop n3) with ⟨body,s4,r4⟩|⟨code,p,rest⟩
    ·rw [hm4] at hp
     obtain ⟨v4,n4,rfl,⟨mB,hv4⟩,hr4,hd4,hk4⟩:=hp
     obtain ⟨aB,capB,rfl⟩:=hv4.slice
     have HM4:=hide hm4
     have HR4:=hide hr4
     have HD4:=hide hd4
     have HK4:=hide hk4
     have HV4:=hide (hv4.base (P':=fun b=>w.heap.size≤b) (fun b _ hb=>Nat.le_trans KB.out.size hb))
     have HS4:=hide (HSB.out.keep hk4 hnb)
     obtain ⟨c0,c1,c2,c3,c4,c5,c6,c7,c8,cf⟩:=HS4.out
     have KC:Hid (Kp [sb,c.rb] w (w4.setCell ⟨sb,7,none⟩ (.slice aB body.length capB))):=Kp.rb (KB.out.trans (HSub.out _ _ hk4)) _ _
     have HSC:=hide (HS4.out.setBody (.slice aB body.length capB))
     have HDC:=hide (hd4.set_apart HA.out 7 (.slice aB body.length capB))
     have HVC:=hide (HV4.out.keep (S:=[sb]) (Kp.rb (Kp.refl _ _) 7 (.slice aB body.length capB)) (by simp;exact HSl.out))
     have hn4:Sx.nest c.e f 11 s (c.full.drop n)=Sx.bnd (if ((11:Nat)=11∨(11:Nat)=14)∧Sx.txt (c.full.drop n4)=Sx.wElse then Sx.bnd (Sx.skp c.e Sx.wElse s4 (c.full.drop n4)) fun _ s r=>Sx.ps c.e f 0 [] s r else .inl ([],s4,c.full.drop n4)) fun els s r=> .inl (({ Sx.F0 with A:=A,B:=B },body,els),s,r):=by
      unfold Sx.nest
      rw [HNA.out]
      show Sx.bnd (Sx.ps c.e f 0 [] s3 (c.full.drop n3)) _=_
      rw [HM4.out,HR4.out]
      rfl
     have HN4:=hide hn4
     clear hm4 hr4 hd4 hk4 hv4 hn4 HS4
     by_cases ht:Sx.txt (c.full.drop n4)=Sx.wElse
     ·have HT:=hide ht
      have HN5:Hid (Sx.nest c.e f 11 s (c.full.drop n)=Sx.bnd (Sx.bnd (Sx.skp c.e Sx.wElse s4 (c.full.drop n4)) fun _ s r=>Sx.ps c.e f 0 [] s r) fun els s r=> .inl (({ Sx.F0 with A:=A,B:=B },body,els),s,r)):=by
       show _=_
       rw [HN4.out,if_pos ⟨by omega,ht⟩]
      clear ht
      go_wp2_with fail
      refine (zal ⟨#[101,108,115,101]⟩ HT.out (by exact HDC.out)).mono ?_
      rintro e w5 ⟨rfl,k5,rfl⟩
      go_wp2_with fail
      refine (zak ⟨#[101,108,115,101]⟩ (by simp) c _ n4 s4 (by exact HDC.out.drewN _)).mono ?_
      intro e w6 hp
      rw [show (⟨#[101,108,115,101]⟩:ByteArray).data.toList=Sx.wElse from rfl] at hp
      rcases hm6:Sx.skp c.e Sx.wElse s4 (c.full.drop n4) with ⟨u6,s6,r6⟩|⟨code,p,rest⟩
      ·rw [hm6] at hp
       obtain ⟨v6,n6,rfl,hv6,hr6,hd6,hk6⟩:=hp
       have HM6:=hide hm6
       have HR6:=hide hr6
       have HD6:=hide hd6
       have HK6:=hide hk6
       have HF6:Hid (¬ Dry (Sx.ps c.e f 0 [] s6 (c.full.drop n6))):=by
        have h1:=HF.out
        rw [HN5.out] at h1
        have h2:=Dry.next (Dry.bnd h1) hm6
        rwa [hr6] at h2
       have HS6:=hide ((HSC.out.keep ((Kp.refl [] _).drewN k5) (by simp)).keep hk6 hnb)
       clear hm6 hr6 hd6 hk6 hv6 c0 c1 c2 c3 c4 c5 c6 c7 c8 cf
       go_wp2_with fail
       refine (HCB.out c _ n6 s6 HD6.out HF6.out).mono ?_
       intro e w7 hp
       rcases hm7:Sx.ps c.e f 0 [] s6 (c.full.drop n6) with ⟨els,s7,r7⟩|⟨code,p,rest⟩
       ·rw [hm7] at hp
        obtain ⟨v7,n7,rfl,⟨mL,hv7⟩,hr7,hd7,hk7⟩:=hp
        obtain ⟨aL,capL,rfl⟩:=hv7.slice
        have HM7:=hide hm7
        have HR7:=hide hr7
        have HD7:=hide hd7
        have HK7:=hide hk7
        have K6:Hid (Kp [sb,c.rb] w w6):=(KC.out.drewN k5).trans (HSub.out _ _ HK6.out)
        have HV7:=hide (hv7.base (P':=fun b=>w.heap.size≤b) (fun b _ hb=>Nat.le_trans K6.out.size hb))
        have HS7:=hide (HS6.out.keep hk7 hnb)
        obtain ⟨c0,c1,c2,c3,c4,c5,c6,c7,c8,cf⟩:=HS7.out
        have HRb':=HRb.out
        have HSl':=HSl.out
        clear hm7 hr7 hd7 hk7 hv7
        go_wp2
        go_end0
        rw [HN5.out,HM6.out]
        show Post c [sb,c.rb] w _ (Sx.bnd (Sx.ps c.e f 0 [] s6 r6) _) _ _
        rw [HR6.out,HM7.out,HR7.out]
        have kz:Kp [sb,c.rb] (w4.setCell ⟨sb,7,none⟩ (.slice aB body.length capB)) (w7.setCell ⟨sb,8,none⟩ (.slice aL els.length capL)):=
         Kp.rb ((((Kp.refl _ _).drewN k5).trans (HSub.out _ _ HK6.out)).trans (HSub.out _ _ HK7.out)) _ _
        refine ⟨_,n7,rfl,⟨rfl,1+mB+mL,none,0,aB,capB,aL,capL,?_,?_,?_,?_⟩,rfl,HD7.out.set_apart HA.out _ _,Kp.rb ((K6.out.trans (HSub.out _ _ HK7.out))) _ _⟩
        ·show S9 _ _ _ _ (bs A) (bs B) _ _ _ _ _
         rw [HBA.out,HBB.out]
         exact HS7.out.setElse _
        ·rw [show 1+mB+mL=1+(mB+mL) from by omega]
         exact (EL.nil _ _ _ _).more _
        ·rw [show 1+mB+mL=mB+(1+mL) from by omega]
         exact (HVC.out.keep kz (by simp;exact ⟨HSl',HRb'⟩)).more _
        ·rw [show 1+mB+mL=mL+(1+mB) from by omega]
         exact (HV7.out.keep (S:=[sb]) (Kp.rb (Kp.refl _ _) _ _) (by simp;exact HSl')).more _
       ·rw [hm7] at hp
        obtain ⟨rfl,hk7⟩:=hp
        refine ⟨rfl,?_⟩
        rw [HN5.out,HM6.out]
        show Post c [sb,c.rb] w _ (Sx.bnd (Sx.ps c.e f 0 [] s6 r6) _) _ _
        rw [HR6.out,hm7]
        exact ⟨rfl,((KC.out.drewN k5).trans (HSub.out _ _ HK6.out)).trans (HSub.out _ _ hk7)⟩
      ·rw [hm6] at hp
       obtain ⟨rfl,hk6⟩:=hp
       refine ⟨rfl,?_⟩
       rw [HN5.out,hm6]
       exact ⟨rfl,(KC.out.drewN k5).trans (HSub.out _ _ hk6)⟩
     ·have HT:=hide ht
      have HN5:Hid (Sx.nest c.e f 11 s (c.full.drop n)= .inl (({ Sx.F0 with A:=A,B:=B },body,[]),s4,c.full.drop n4)):=by
       show _=_
       rw [HN4.out,if_neg (fun h=>ht h.2)]
       rfl
      have HRb':=HRb.out
      have HSl':=HSl.out
      clear ht
      go_wp2_with fail
      refine (zan ⟨#[101,108,115,101]⟩ HT.out (by exact HDC.out)).mono ?_
      rintro e w5 ⟨rfl,k5,rfl⟩
      go_wp2
      go_end0
      rw [HN5.out]
      have kz:Kp [] (w4.setCell ⟨sb,7,none⟩ (.slice aB body.length capB)) ((w4.setCell ⟨sb,7,none⟩ (.slice aB body.length capB)).drewN k5):=(Kp.refl _ _).drewN k5
      refine ⟨_,n4,rfl,⟨rfl,1+mB+1,none,0,aB,capB,none,0,?_,?_,?_,?_⟩,rfl,HDC.out.drewN _,KC.out.drewN _⟩
      ·show S9 _ _ _ _ (bs A) (bs B) _ _ _ _ _
       rw [HBA.out,HBB.out]
       exact HSC.out.keep kz (by simp)
      ·rw [show 1+mB+1=1+(mB+1) from by omega]
       exact (EL.nil _ _ _ _).more _
      ·rw [show 1+mB+1=mB+(1+1) from by omega]
       exact (HVC.out.keep kz (by simp)).more _
      ·rw [show 1+mB+1=1+(1+mB) from by omega]
       exact (SL.nil _ _ _ _).more _
    ·rw [hm4] at hp
     obtain ⟨rfl,hk4⟩:=hp
     refine ⟨rfl,?_⟩
     unfold Sx.nest
     rw [HNA.out]
     show Post c [sb,c.rb] w _ (Sx.bnd (Sx.ps c.e f 0 [] s3 (c.full.drop n3)) _) _ _
     rw [hm4]
     exact ⟨rfl,KB.out.trans (HSub.out _ _ hk4)⟩
   ·rw [hm3] at hp
    obtain ⟨rfl,hk3⟩:=hp
    refine ⟨rfl,?_⟩
    unfold Sx.nest Sx.nestA
    rw [if_pos (by omega),HM1.out,HR1.out]
    show Post c [sb,c.rb] w _ (Sx.bnd (Sx.bnd (Sx.skp c.e Sx.wFrom s1 (c.full.drop n1)) _) _) _ _
    rw [HM2.out,HR2.out]
    show Post c [sb,c.rb] w _ (Sx.bnd (Sx.bnd (Sx.nameOf c.e s2 (c.full.drop n2)) _) _) _ _
    rw [hm3]
    exact ⟨rfl,(KA.out.trans (HSub.out _ _ HK2.out)).trans (HSub.out _ _ hk3)⟩
  ·rw [hm2] at hp
   obtain ⟨rfl,hk2⟩:=hp
   refine ⟨rfl,?_⟩
   unfold Sx.nest Sx.nestA
   rw [if_pos (by omega),HM1.out,HR1.out]
   show Post c [sb,c.rb] w _ (Sx.bnd (Sx.bnd (Sx.skp c.e Sx.wFrom s1 (c.full.drop n1)) _) _) _ _
   rw [hm2]
   exact ⟨rfl,KA.out.trans (HSub.out _ _ hk2)⟩
 ·rw [hm1] at hp
  obtain ⟨rfl,hk1⟩:=hp
  refine ⟨rfl,?_⟩
  unfold Sx.nest Sx.nestA
  rw [if_pos (by omega),hm1]
  exact ⟨rfl,HSub.out _ _ hk1⟩
theorem zib (f:Nat) (hCB:CB f) (c:Cx) (w:World) (n:Nat) (s:Sx.St) (sb:Nat) (at':Int) (h:RD c w n s) (hA:c.apart sb) (hS:S9 w sb 12 at' ⟨#[]⟩ ⟨#[]⟩ ⟨#[]⟩ 0 (.slice none 0 0) (.slice none 0 0) (.slice none 0 0)) (hf: ¬ Dry (Sx.nest c.e f 12 s (c.full.drop n))):
  Calls Tryz.prog 149 #[.pointer (some ⟨c.rb,0,none⟩),.pointer (some ⟨sb,0,none⟩)] w (Post c [sb,c.rb] w (encB w sb 12 at') (Sx.nest c.e f 12 s (c.full.drop n))):=by
 have HF:=hide hf
 have HH:=hide h
 have HA:=hide hA
 have HS:=hide hS
 have HCB:=hide hCB
 have HSub:Hid (∀ a b,Kp [c.rb] a b→Kp [sb,c.rb] a b):=fun a b h=>h.mono (by simp)
 have hnb:sb ∉ [c.rb]:=by have:=hA.1;simp;omega
 have hr:=h.rlt
 have hsl:=hS.lt
 have HRb:Hid (c.rb<w.heap.size):=hr
 have HSl:Hid (sb<w.heap.size):=hsl
 have hne:=hA.1
 have hne':sb ≠ c.rb:=fun e=>hne e.symm
 obtain ⟨c0,c1,c2,c3,c4,c5,c6,c7,c8,cf⟩:=hS
 clear h hA hf hCB
 go_enter Tryz.func149,Tryz.ntmps149
 go_wp2_with fail
 refine (zay c _ n s HH.out).mono ?_
 intro e w1 hp
 rcases hm1:Sx.nameOf c.e s (c.full.drop n) with ⟨A,s1,r1⟩|⟨code,p,rest⟩
 ·rw [hm1] at hp
  obtain ⟨v1,n1,rfl,hv1,hr1,hd1,hk1⟩:=hp
  unfold encT at hv1
  rw [hv1]
  have HM1:=hide hm1
  have HR1:=hide hr1
  have HD1:=hide hd1
  have HK1:=hide hk1
  obtain ⟨c0,c1,c2,c3,c4,c5,c6,c7,c8,cf⟩:=HS.out.keep hk1 hnb
  clear hm1 hr1 hd1 hk1 hv1
  generalize hbA:bs A=bA at *
  have HBA:=hide hbA
  clear hbA
  go_wp2_with fail
  refine (zak ⟨#[102,114,111,109]⟩ (by simp) c _ n1 s1 (by exact HD1.out.set_apart HA.out _ _)).mono ?_
  intro e w2 hp
  rw [show (⟨#[102,114,111,109]⟩:ByteArray).data.toList=Sx.wFrom from rfl] at hp
  have KA:Hid (Kp [sb,c.rb] w (w1.setCell ⟨sb,2,none⟩ (.string bA))):=Kp.rb (HSub.out _ _ HK1.out) _ _
  rcases hm2:Sx.skp c.e Sx.wFrom s1 (c.full.drop n1) with ⟨u2,s2,r2⟩|⟨code,p,rest⟩
  ·rw [hm2] at hp
   obtain ⟨v2,n2,rfl,hv2,hr2,hd2,hk2⟩:=hp
   have HM2:=hide hm2
   have HR2:=hide hr2
   have HD2:=hide hd2
   have HK2:=hide hk2
   clear hm2 hr2 hd2 hk2 hv2 c0 c1 c2 c3 c4 c5 c6 c7 c8 cf
   go_wp2_with fail
   refine (zay c _ n2 s2 HD2.out).mono ?_
   intro e w3 hp
   rcases hm3:Sx.nameOf c.e s2 (c.full.drop n2) with ⟨B,s3,r3⟩|⟨code,p,rest⟩
   ·rw [hm3] at hp
    obtain ⟨v3,n3,rfl,hv3,hr3,hd3,hk3⟩:=hp
    unfold encT at hv3
    rw [hv3]
    have HM3:=hide hm3
    have HR3:=hide hr3
    have HD3:=hide hd3
    have HK3:=hide hk3
    have HS3:=hide ((((HS.out.keep HK1.out hnb).setA bA).keep HK2.out hnb).keep hk3 hnb)
    obtain ⟨c0,c1,c2,c3,c4,c5,c6,c7,c8,cf⟩:=HS3.out
    clear hm3 hr3 hd3 hk3 hv3
    generalize hbB:bs B=bB at *
    have HBB:=hide hbB
    clear hbB
    have HNA:Hid (Sx.nestA c.e f 12 s (c.full.drop n)= .inl ({ Sx.F0 with A:=A,B:=B },s3,c.full.drop n3)):=by
     show _=_
     unfold Sx.nestA
     rw [if_pos (by omega),HM1.out,HR1.out]
     show Sx.bnd (Sx.skp c.e Sx.wFrom s1 (c.full.drop n1)) _=_
     rw [HM2.out,HR2.out]
     show Sx.bnd (Sx.nameOf c.e s2 (c.full.drop n2)) _=_
     rw [HM3.out,HR3.out]
     rfl
    have HFB:Hid (¬ Dry (Sx.ps c.e f 0 [] s3 (c.full.drop n3))):=by
     have h1:=HF.out
     unfold Sx.nest at h1
     exact Dry.bnd (Dry.next h1 HNA.out)
    have KB:Hid (Kp [sb,c.rb] w (w3.setCell ⟨sb,3,none⟩ (.string bB))):=Kp.rb ((KA.out.trans (HSub.out _ _ HK2.out)).trans (HSub.out _ _ HK3.out)) _ _
    have HSB:=hide (HS3.out.setB bB)
    have HDB:=hide (HD3.out.set_apart HA.out 3 (.string bB))
    have HEB:Hid (∀ w',EL w' (fun b=>w.heap.size≤b) 1 [] (.slice none 0 0)):=fun w'=>EL.nil _ _ _ _
    have HX0:Hid (∃ x:Sx.Flds,x={ Sx.F0 with A:=A,B:=B }):=⟨_,rfl⟩
    clear HS3
    go_wp2_with fail
    refine (HCB.out c _ n3 s3 (by exact HDB.out) HFB.out).mono ?_
    intro e w4 hp
    rcases hm4:Sx.ps c.e f 0 [] s3 (c.full.drop n3) with ⟨body,s4,r4⟩|⟨code,p,rest⟩
    ·rw [hm4] at hp
     obtain ⟨v4,n4,rfl,⟨mB,hv4⟩,hr4,hd4,hk4⟩:=hp
     obtain ⟨aB,capB,rfl⟩:=hv4.slice
     have HM4:=hide hm4
     have HR4:=hide hr4
     have HD4:=hide hd4
     have HK4:=hide hk4
     have HV4:=hide (hv4.base (P':=fun b=>w.heap.size≤b) (fun b _ hb=>Nat.le_trans KB.out.size hb))
     have HS4:=hide (HSB.out.keep hk4 hnb)
     obtain ⟨c0,c1,c2,c3,c4,c5,c6,c7,c8,cf⟩:=HS4.out
     have KC:Hid (Kp [sb,c.rb] w (w4.setCell ⟨sb,7,none⟩ (.slice aB body.length capB))):=Kp.rb (KB.out.trans (HSub.out _ _ hk4)) _ _
     have HSC:=hide (HS4.out.setBody (.slice aB body.length capB))
     have HDC:=hide (hd4.set_apart HA.out 7 (.slice aB body.length capB))
     have HVC:=hide (HV4.out.keep (S:=[sb]) (Kp.rb (Kp.refl _ _) 7 (.slice aB body.length capB)) (by simp;exact HSl.out))
     have hn4:Sx.nest c.e f 12 s (c.full.drop n)=Sx.bnd (if ((12:Nat)=11∨(12:Nat)=14)∧Sx.txt (c.full.drop n4)=Sx.wElse then Sx.bnd (Sx.skp c.e Sx.wElse s4 (c.full.drop n4)) fun _ s r=>Sx.ps c.e f 0 [] s r else .inl ([],s4,c.full.drop n4)) fun els s r=> .inl (({ Sx.F0 with A:=A,B:=B },body,els),s,r):=by
      unfold Sx.nest
      rw [HNA.out]
      show Sx.bnd (Sx.ps c.e f 0 [] s3 (c.full.drop n3)) _=_
      rw [HM4.out,HR4.out]
      rfl
     have HN4:=hide hn4
     clear hm4 hr4 hd4 hk4 hv4 hn4 HS4
     have HN5:Hid (Sx.nest c.e f 12 s (c.full.drop n)= .inl (({ Sx.F0 with A:=A,B:=B },body,[]),s4,c.full.drop n4)):=by
      show _=_
      rw [HN4.out,if_neg (fun h=>by omega)]
      rfl
     have HRb':=HRb.out
     have HSl':=HSl.out
     go_wp2
     go_end0
     rw [HN5.out]
     have kz:Kp [] (w4.setCell ⟨sb,7,none⟩ (.slice aB body.length capB)) (w4.setCell ⟨sb,7,none⟩ (.slice aB body.length capB)):=Kp.refl _ _
     refine ⟨_,n4,rfl,⟨rfl,1+mB+1,none,0,aB,capB,none,0,?_,?_,?_,?_⟩,rfl,HDC.out,KC.out⟩
     ·show S9 _ _ _ _ (bs A) (bs B) _ _ _ _ _
      rw [HBA.out,HBB.out]
      exact HSC.out
     ·rw [show 1+mB+1=1+(mB+1) from by omega]
      exact (EL.nil _ _ _ _).more _
     ·rw [show 1+mB+1=mB+(1+1) from by omega]
      exact HVC.out.more _
     ·rw [show 1+mB+1=1+(1+mB) from by omega]
      exact (SL.nil _ _ _ _).more _
    ·rw [hm4] at hp
     obtain ⟨rfl,hk4⟩:=hp
     refine ⟨rfl,?_⟩
     unfold Sx.nest
     rw [HNA.out]
     show Post c [sb,c.rb] w _ (Sx.bnd (Sx.ps c.e f 0 [] s3 (c.full.drop n3)) _) _ _
     rw [hm4]
     exact ⟨rfl,KB.out.trans (HSub.out _ _ hk4)⟩
   ·rw [hm3] at hp
    obtain ⟨rfl,hk3⟩:=hp
    refine ⟨rfl,?_⟩
    unfold Sx.nest Sx.nestA
    rw [if_pos (by omega),HM1.out,HR1.out]
    show Post c [sb,c.rb] w _ (Sx.bnd (Sx.bnd (Sx.skp c.e Sx.wFrom s1 (c.full.drop n1)) _) _) _ _
    rw [HM2.out,HR2.out]
    show Post c [sb,c.rb] w _ (Sx.bnd (Sx.bnd (Sx.nameOf c.e s2 (c.full.drop n2)) _) _) _ _
    rw [hm3]
    exact ⟨rfl,(KA.out.trans (HSub.out _ _ HK2.out)).trans (HSub.out _ _ hk3)⟩
  ·rw [hm2] at hp
   obtain ⟨rfl,hk2⟩:=hp
   refine ⟨rfl,?_⟩
   unfold Sx.nest Sx.nestA
   rw [if_pos (by omega),HM1.out,HR1.out]
   show Post c [sb,c.rb] w _ (Sx.bnd (Sx.bnd (Sx.skp c.e Sx.wFrom s1 (c.full.drop n1)) _) _) _ _
   rw [hm2]
   exact ⟨rfl,KA.out.trans (HSub.out _ _ hk2)⟩
 ·rw [hm1] at hp
  obtain ⟨rfl,hk1⟩:=hp
  refine ⟨rfl,?_⟩
  unfold Sx.nest Sx.nestA
  rw [if_pos (by omega),hm1]
  exact ⟨rfl,HSub.out _ _ hk1⟩
theorem zic (f:Nat) (hCB:CB f) (c:Cx) (w:World) (n:Nat) (s:Sx.St) (sb:Nat) (at':Int) (h:RD c w n s) (hA:c.apart sb) (hS:S9 w sb 13 at' ⟨#[]⟩ ⟨#[]⟩ ⟨#[]⟩ 0 (.slice none 0 0) (.slice none 0 0) (.slice none 0 0)) (hf: ¬ Dry (Sx.nest c.e f 13 s (c.full.drop n))):
  Calls Tryz.prog 149 #[.pointer (some ⟨c.rb,0,none⟩),.pointer (some ⟨sb,0,none⟩)] w (Post c [sb,c.rb] w (encB w sb 13 at') (Sx.nest c.e f 13 s (c.full.drop n))):=by
 have HF:=hide hf
 have HH:=hide h
 have HA:=hide hA
 have HS:=hide hS
 have HCB:=hide hCB
 have HSub:Hid (∀ a b,Kp [c.rb] a b→Kp [sb,c.rb] a b):=fun a b h=>h.mono (by simp)
 have hnb:sb ∉ [c.rb]:=by have:=hA.1;simp;omega
 have hr:=h.rlt
 have hsl:=hS.lt
 have HRb:Hid (c.rb<w.heap.size):=hr
 have HSl:Hid (sb<w.heap.size):=hsl
 have hne:=hA.1
 have hne':sb ≠ c.rb:=fun e=>hne e.symm
 obtain ⟨c0,c1,c2,c3,c4,c5,c6,c7,c8,cf⟩:=hS
 clear h hA hf hCB
 go_enter Tryz.func149,Tryz.ntmps149
 have HFE:Hid (¬ Dry (Sx.pe c.e f 0 Sx.d0 s (c.full.drop n))):=by
  have h1:=HF.out
  unfold Sx.nest Sx.nestA at h1
  rw [if_neg (by omega)] at h1
  exact Dry.bnd (Dry.bnd h1)
 go_wp2_with fail
 refine (zbr f c _ n s HH.out HFE.out).mono ?_
 intro e w1 hp
 rcases hm1:Sx.pe c.e f 0 Sx.d0 s (c.full.drop n) with ⟨x,s3,r1⟩|⟨code,p,rest⟩
 ·rw [hm1] at hp
  obtain ⟨v1,n3,rfl,⟨mE,hv1⟩,hr1,hd1,hk1⟩:=hp
  obtain ⟨aE,capE,rfl⟩:=hv1.slice
  have HM1:=hide hm1
  have HR1:=hide hr1
  have HD1:=hide hd1
  have HK1:=hide hk1
  have HV1:=hide hv1
  have HS3:=hide (HS.out.keep hk1 hnb)
  obtain ⟨c0,c1,c2,c3,c4,c5,c6,c7,c8,cf⟩:=HS3.out
  clear hm1 hr1 hd1 hk1 hv1
  have HNA:Hid (Sx.nestA c.e f 13 s (c.full.drop n)= .inl ({ Sx.F0 with E:=[x] },s3,c.full.drop n3)):=by
   show _=_
   unfold Sx.nestA
   rw [if_neg (by omega),HM1.out,HR1.out]
   rfl
  have HFB:Hid (¬ Dry (Sx.ps c.e f 0 [] s3 (c.full.drop n3))):=by
   have h1:=HF.out
   unfold Sx.nest at h1
   exact Dry.bnd (Dry.next h1 HNA.out)
  have KB:Hid (Kp [sb,c.rb] w (w1.setCell ⟨sb,6,none⟩ (.slice aE 1 capE))):=Kp.rb (HSub.out _ _ HK1.out) _ _
  have HSB:=hide (HS3.out.setE (.slice aE 1 capE))
  have HDB:=hide (HD1.out.set_apart HA.out 6 (.slice aE 1 capE))
  have HEB:=hide (HV1.out.keep (S:=[sb]) (Kp.rb (Kp.refl _ _) 6 (.slice aE 1 capE)) (by simp;exact HSl.out))
  clear HS3
  simp only [List.length_singleton] at *
  go_wp2_with fail
  refine (HCB.out c _ n3 s3 (by exact HDB.out) HFB.out).mono ?_
  intro e w4 hp
  rcases hm4:Sx.ps c.e f 0 [] s3 (c.full.drop n3) with ⟨body,s4,r4⟩|⟨code,p,rest⟩
  ·rw [hm4] at hp
   obtain ⟨v4,n4,rfl,⟨mB,hv4⟩,hr4,hd4,hk4⟩:=hp
   obtain ⟨aB,capB,rfl⟩:=hv4.slice
   have HM4:=hide hm4
   have HR4:=hide hr4
   have HD4:=hide hd4
   have HK4:=hide hk4
   have HV4:=hide (hv4.base (P':=fun b=>w.heap.size≤b) (fun b _ hb=>Nat.le_trans KB.out.size hb))
   have HS4:=hide (HSB.out.keep hk4 hnb)
   obtain ⟨c0,c1,c2,c3,c4,c5,c6,c7,c8,cf⟩:=HS4.out
   have KC:Hid (Kp [sb,c.rb] w (w4.setCell ⟨sb,7,none⟩ (.slice aB body.length capB))):=Kp.rb (KB.out.trans (HSub.out _ _ hk4)) _ _
   have HSC:=hide (HS4.out.setBody (.slice aB body.length capB))
   have HDC:=hide (hd4.set_apart HA.out 7 (.slice aB body.length capB))
   have HVC:=hide (HV4.out.keep (S:=[sb]) (Kp.rb (Kp.refl _ _) 7 (.slice aB body.length capB)) (by simp;exact HSl.out))
   have HEC:=hide ((HEB.out.keep hk4 (by simp;exact HRb.out)).keep (S:=[sb]) (Kp.rb (Kp.refl _ _) 7 (.slice aB body.length capB)) (by simp;exact HSl.out))
   have hn4:Sx.nest c.e f 13 s (c.full.drop n)=Sx.bnd (if ((13:Nat)=11∨(13:Nat)=14)∧Sx.txt (c.full.drop n4)=Sx.wElse then Sx.bnd (Sx.skp c.e Sx.wElse s4 (c.full.drop n4)) fun _ s r=>Sx.ps c.e f 0 [] s r else .inl ([],s4,c.full.drop n4)) fun els s r=> .inl (({ Sx.F0 with E:=[x] },body,els),s,r):=by
    unfold Sx.nest
    rw [HNA.out]
    show Sx.bnd (Sx.ps c.e f 0 [] s3 (c.full.drop n3)) _=_
    rw [HM4.out,HR4.out]
    rfl
   have HN4:=hide hn4
   clear hm4 hr4 hd4 hk4 hv4 hn4 HS4
   have HN5:Hid (Sx.nest c.e f 13 s (c.full.drop n)= .inl (({ Sx.F0 with E:=[x] },body,[]),s4,c.full.drop n4)):=by
    show _=_
    rw [HN4.out,if_neg (fun h=>by omega)]
    rfl
   have HRb':=HRb.out
   have HSl':=HSl.out
   go_wp2
   go_end0
   rw [HN5.out]
   have kz:Kp [] (w4.setCell ⟨sb,7,none⟩ (.slice aB body.length capB)) (w4.setCell ⟨sb,7,none⟩ (.slice aB body.length capB)):=Kp.refl _ _
   refine ⟨_,n4,rfl,⟨rfl,mE+mB+1,aE,capE,aB,capB,none,0,?_,?_,?_,?_⟩,rfl,HDC.out,KC.out⟩
   ·show S9 _ _ _ _ (bs []) (bs []) _ _ _ _ _
    rw [zhq]
    exact HSC.out
   ·rw [show mE+mB+1=mE+(mB+1) from by omega]
    exact HEC.out.more _
   ·rw [show mE+mB+1=mB+(mE+1) from by omega]
    exact HVC.out.more _
   ·rw [show mE+mB+1=1+(mE+mB) from by omega]
    exact (SL.nil _ _ _ _).more _
  ·rw [hm4] at hp
   obtain ⟨rfl,hk4⟩:=hp
   refine ⟨rfl,?_⟩
   unfold Sx.nest
   rw [HNA.out]
   show Post c [sb,c.rb] w _ (Sx.bnd (Sx.ps c.e f 0 [] s3 (c.full.drop n3)) _) _ _
   rw [hm4]
   exact ⟨rfl,KB.out.trans (HSub.out _ _ hk4)⟩
 ·rw [hm1] at hp
  obtain ⟨rfl,hk1⟩:=hp
  refine ⟨rfl,?_⟩
  unfold Sx.nest Sx.nestA
  rw [if_neg (by omega),hm1]
  exact ⟨rfl,HSub.out _ _ hk1⟩
theorem zid (f:Nat) (hCB:CB f) (c:Cx) (w:World) (n:Nat) (s:Sx.St) (sb:Nat) (at':Int) (h:RD c w n s) (hA:c.apart sb) (hS:S9 w sb 14 at' ⟨#[]⟩ ⟨#[]⟩ ⟨#[]⟩ 0 (.slice none 0 0) (.slice none 0 0) (.slice none 0 0)) (hf: ¬ Dry (Sx.nest c.e f 14 s (c.full.drop n))):
  Calls Tryz.prog 149 #[.pointer (some ⟨c.rb,0,none⟩),.pointer (some ⟨sb,0,none⟩)] w (Post c [sb,c.rb] w (encB w sb 14 at') (Sx.nest c.e f 14 s (c.full.drop n))):=by
 have HF:=hide hf
 have HH:=hide h
 have HA:=hide hA
 have HS:=hide hS
 have HCB:=hide hCB
 have HSub:Hid (∀ a b,Kp [c.rb] a b→Kp [sb,c.rb] a b):=fun a b h=>h.mono (by simp)
 have hnb:sb ∉ [c.rb]:=by have:=hA.1;simp;omega
 have hr:=h.rlt
 have hsl:=hS.lt
 have HRb:Hid (c.rb<w.heap.size):=hr
 have HSl:Hid (sb<w.heap.size):=hsl
 have hne:=hA.1
 have hne':sb ≠ c.rb:=fun e=>hne e.symm
 obtain ⟨c0,c1,c2,c3,c4,c5,c6,c7,c8,cf⟩:=hS
 clear h hA hf hCB
 go_enter Tryz.func149,Tryz.ntmps149
 have HFE:Hid (¬ Dry (Sx.pe c.e f 0 Sx.d0 s (c.full.drop n))):=by
  have h1:=HF.out
  unfold Sx.nest Sx.nestA at h1
  rw [if_neg (by omega)] at h1
  exact Dry.bnd (Dry.bnd h1)
 go_wp2_with fail
 refine (zbr f c _ n s HH.out HFE.out).mono ?_
 intro e w1 hp
 rcases hm1:Sx.pe c.e f 0 Sx.d0 s (c.full.drop n) with ⟨x,s3,r1⟩|⟨code,p,rest⟩
 ·rw [hm1] at hp
  obtain ⟨v1,n3,rfl,⟨mE,hv1⟩,hr1,hd1,hk1⟩:=hp
  obtain ⟨aE,capE,rfl⟩:=hv1.slice
  have HM1:=hide hm1
  have HR1:=hide hr1
  have HD1:=hide hd1
  have HK1:=hide hk1
  have HV1:=hide hv1
  have HS3:=hide (HS.out.keep hk1 hnb)
  obtain ⟨c0,c1,c2,c3,c4,c5,c6,c7,c8,cf⟩:=HS3.out
  clear hm1 hr1 hd1 hk1 hv1
  have HNA:Hid (Sx.nestA c.e f 14 s (c.full.drop n)= .inl ({ Sx.F0 with E:=[x] },s3,c.full.drop n3)):=by
   show _=_
   unfold Sx.nestA
   rw [if_neg (by omega),HM1.out,HR1.out]
   rfl
  have HFB:Hid (¬ Dry (Sx.ps c.e f 0 [] s3 (c.full.drop n3))):=by
   have h1:=HF.out
   unfold Sx.nest at h1
   exact Dry.bnd (Dry.next h1 HNA.out)
  have KB:Hid (Kp [sb,c.rb] w (w1.setCell ⟨sb,6,none⟩ (.slice aE 1 capE))):=Kp.rb (HSub.out _ _ HK1.out) _ _
  have HSB:=hide (HS3.out.setE (.slice aE 1 capE))
  have HDB:=hide (HD1.out.set_apart HA.out 6 (.slice aE 1 capE))
  have HEB:=hide (HV1.out.keep (S:=[sb]) (Kp.rb (Kp.refl _ _) 6 (.slice aE 1 capE)) (by simp;exact HSl.out))
  clear HS3
  simp only [List.length_singleton] at *
  go_wp2_with fail
  refine (HCB.out c _ n3 s3 (by exact HDB.out) HFB.out).mono ?_
  intro e w4 hp
  rcases hm4:Sx.ps c.e f 0 [] s3 (c.full.drop n3) with ⟨body,s4,r4⟩|⟨code,p,rest⟩
  ·rw [hm4] at hp
   obtain ⟨v4,n4,rfl,⟨mB,hv4⟩,hr4,hd4,hk4⟩:=hp
   obtain ⟨aB,capB,rfl⟩:=hv4.slice
   have HM4:=hide hm4
   have HR4:=hide hr4
   have HD4:=hide hd4
   have HK4:=hide hk4
   have HV4:=hide (hv4.base (P':=fun b=>w.heap.size≤b) (fun b _ hb=>Nat.le_trans KB.out.size hb))
   have HS4:=hide (HSB.out.keep hk4 hnb)
   obtain ⟨c0,c1,c2,c3,c4,c5,c6,c7,c8,cf⟩:=HS4.out
   have KC:Hid (Kp [sb,c.rb] w (w4.setCell ⟨sb,7,none⟩ (.slice aB body.length capB))):=Kp.rb (KB.out.trans (HSub.out _ _ hk4)) _ _
   have HSC:=hide (HS4.out.setBody (.slice aB body.length capB))
   have HDC:=hide (hd4.set_apart HA.out 7 (.slice aB body.length capB))
   have HVC:=hide (HV4.out.keep (S:=[sb]) (Kp.rb (Kp.refl _ _) 7 (.slice aB body.length capB)) (by simp;exact HSl.out))
   have HEC:=hide ((HEB.out.keep hk4 (by simp;exact HRb.out)).keep (S:=[sb]) (Kp.rb (Kp.refl _ _) 7 (.slice aB body.length capB)) (by simp;exact HSl.out))
   have hn4:Sx.nest c.e f 14 s (c.full.drop n)=Sx.bnd (if ((14:Nat)=11∨(14:Nat)=14)∧Sx.txt (c.full.drop n4)=Sx.wElse then Sx.bnd (Sx.skp c.e Sx.wElse s4 (c.full.drop n4)) fun _ s r=>Sx.ps c.e f 0 [] s r else .inl ([],s4,c.full.drop n4)) fun els s r=> .inl (({ Sx.F0 with E:=[x] },body,els),s,r):=by
    unfold Sx.nest
    rw [HNA.out]
    show Sx.bnd (Sx.ps c.e f 0 [] s3 (c.full.drop n3)) _=_
    rw [HM4.out,HR4.out]
    rfl
   have HN4:=hide hn4
   clear hm4 hr4 hd4 hk4 hv4 hn4 HS4
   by_cases ht:Sx.txt (c.full.drop n4)=Sx.wElse
   ·have HT:=hide ht
    have HN5:Hid (Sx.nest c.e f 14 s (c.full.drop n)=Sx.bnd (Sx.bnd (Sx.skp c.e Sx.wElse s4 (c.full.drop n4)) fun _ s r=>Sx.ps c.e f 0 [] s r) fun els s r=> .inl (({ Sx.F0 with E:=[x] },body,els),s,r)):=by
     show _=_
     rw [HN4.out,if_pos ⟨by omega,ht⟩]
    clear ht
    go_wp2_with fail
    refine (zal ⟨#[101,108,115,101]⟩ HT.out (by exact HDC.out)).mono ?_
    rintro e w5 ⟨rfl,k5,rfl⟩
    go_wp2_with fail
    refine (zak ⟨#[101,108,115,101]⟩ (by simp) c _ n4 s4 (by exact HDC.out.drewN _)).mono ?_
    intro e w6 hp
    rw [show (⟨#[101,108,115,101]⟩:ByteArray).data.toList=Sx.wElse from rfl] at hp
    rcases hm6:Sx.skp c.e Sx.wElse s4 (c.full.drop n4) with ⟨u6,s6,r6⟩|⟨code,p,rest⟩
    ·rw [hm6] at hp
     obtain ⟨v6,n6,rfl,hv6,hr6,hd6,hk6⟩:=hp
     have HM6:=hide hm6
     have HR6:=hide hr6
     have HD6:=hide hd6
     have HK6:=hide hk6
     have HF6:Hid (¬ Dry (Sx.ps c.e f 0 [] s6 (c.full.drop n6))):=by
      have h1:=HF.out
      rw [HN5.out] at h1
      have h2:=Dry.next (Dry.bnd h1) hm6
      rwa [hr6] at h2
     have HS6:=hide ((HSC.out.keep ((Kp.refl [] _).drewN k5) (by simp)).keep hk6 hnb)
     clear hm6 hr6 hd6 hk6 hv6 c0 c1 c2 c3 c4 c5 c6 c7 c8 cf
     go_wp2_with fail
     refine (HCB.out c _ n6 s6 HD6.out HF6.out).mono ?_
     intro e w7 hp
     rcases hm7:Sx.ps c.e f 0 [] s6 (c.full.drop n6) with ⟨els,s7,r7⟩|⟨code,p,rest⟩
     ·rw [hm7] at hp
      obtain ⟨v7,n7,rfl,⟨mL,hv7⟩,hr7,hd7,hk7⟩:=hp
      obtain ⟨aL,capL,rfl⟩:=hv7.slice
      have HM7:=hide hm7
      have HR7:=hide hr7
      have HD7:=hide hd7
      have HK7:=hide hk7
      have K6:Hid (Kp [sb,c.rb] w w6):=(KC.out.drewN k5).trans (HSub.out _ _ HK6.out)
      have HV7:=hide (hv7.base (P':=fun b=>w.heap.size≤b) (fun b _ hb=>Nat.le_trans K6.out.size hb))
      have HS7:=hide (HS6.out.keep hk7 hnb)
      obtain ⟨c0,c1,c2,c3,c4,c5,c6,c7,c8,cf⟩:=HS7.out
      have HRb':=HRb.out
      have HSl':=HSl.out
      clear hm7 hr7 hd7 hk7 hv7
      go_wp2
      go_end0
      rw [HN5.out,HM6.out]
      show Post c [sb,c.rb] w _ (Sx.bnd (Sx.ps c.e f 0 [] s6 r6) _) _ _
      rw [HR6.out,HM7.out,HR7.out]
      have kz:Kp [sb,c.rb] (w4.setCell ⟨sb,7,none⟩ (.slice aB body.length capB)) (w7.setCell ⟨sb,8,none⟩ (.slice aL els.length capL)):=
       Kp.rb ((((Kp.refl _ _).drewN k5).trans (HSub.out _ _ HK6.out)).trans (HSub.out _ _ HK7.out)) _ _
      refine ⟨_,n7,rfl,⟨rfl,mE+mB+mL,aE,capE,aB,capB,aL,capL,?_,?_,?_,?_⟩,rfl,HD7.out.set_apart HA.out _ _,Kp.rb ((K6.out.trans (HSub.out _ _ HK7.out))) _ _⟩
      ·show S9 _ _ _ _ (bs []) (bs []) _ _ _ _ _
       rw [zhq]
       exact HS7.out.setElse _
      ·rw [show mE+mB+mL=mE+(mB+mL) from by omega]
       exact (HEC.out.keep kz (by simp;exact ⟨HSl',HRb'⟩)).more _
      ·rw [show mE+mB+mL=mB+(mE+mL) from by omega]
       exact (HVC.out.keep kz (by simp;exact ⟨HSl',HRb'⟩)).more _
      ·rw [show mE+mB+mL=mL+(mE+mB) from by omega]
       exact (HV7.out.keep (S:=[sb]) (Kp.rb (Kp.refl _ _) _ _) (by simp;exact HSl')).more _
     ·rw [hm7] at hp
      obtain ⟨rfl,hk7⟩:=hp
      refine ⟨rfl,?_⟩
      rw [HN5.out,HM6.out]
      show Post c [sb,c.rb] w _ (Sx.bnd (Sx.ps c.e f 0 [] s6 r6) _) _ _
      rw [HR6.out,hm7]
      exact ⟨rfl,((KC.out.drewN k5).trans (HSub.out _ _ HK6.out)).trans (HSub.out _ _ hk7)⟩
    ·rw [hm6] at hp
     obtain ⟨rfl,hk6⟩:=hp
     refine ⟨rfl,?_⟩
     rw [HN5.out,hm6]
     exact ⟨rfl,(KC.out.drewN k5).trans (HSub.out _ _ hk6)⟩
   ·have HT:=hide ht
    have HN5:Hid (Sx.nest c.e f 14 s (c.full.drop n)= .inl (({ Sx.F0 with E:=[x] },body,[]),s4,c.full.drop n4)):=by
     show _=_
     rw [HN4.out,if_neg (fun h=>ht h.2)]
     rfl
    have HRb':=HRb.out
    have HSl':=HSl.out
    clear ht
    go_wp2_with fail
    refine (zan ⟨#[101,108,115,101]⟩ HT.out (by exact HDC.out)).mono ?_
    rintro e w5 ⟨rfl,k5,rfl⟩
    go_wp2
    go_end0
    rw [HN5.out]
    have kz:Kp [] (w4.setCell ⟨sb,7,none⟩ (.slice aB body.length capB)) ((w4.setCell ⟨sb,7,none⟩ (.slice aB body.length capB)).drewN k5):=(Kp.refl _ _).drewN k5
    refine ⟨_,n4,rfl,⟨rfl,mE+mB+1,aE,capE,aB,capB,none,0,?_,?_,?_,?_⟩,rfl,HDC.out.drewN _,KC.out.drewN _⟩
    ·show S9 _ _ _ _ (bs []) (bs []) _ _ _ _ _
     rw [zhq]
     exact HSC.out.keep kz (by simp)
    ·rw [show mE+mB+1=mE+(mB+1) from by omega]
     exact (HEC.out.keep kz (by simp)).more _
    ·rw [show mE+mB+1=mB+(mE+1) from by omega]
     exact (HVC.out.keep kz (by simp)).more _
    ·rw [show mE+mB+1=1+(mE+mB) from by omega]
     exact (SL.nil _ _ _ _).more _
  ·rw [hm4] at hp
   obtain ⟨rfl,hk4⟩:=hp
   refine ⟨rfl,?_⟩
   unfold Sx.nest
   rw [HNA.out]
   show Post c [sb,c.rb] w _ (Sx.bnd (Sx.ps c.e f 0 [] s3 (c.full.drop n3)) _) _ _
   rw [hm4]
   exact ⟨rfl,KB.out.trans (HSub.out _ _ hk4)⟩
 ·rw [hm1] at hp
  obtain ⟨rfl,hk1⟩:=hp
  refine ⟨rfl,?_⟩
  unfold Sx.nest Sx.nestA
  rw [if_neg (by omega),hm1]
  exact ⟨rfl,HSub.out _ _ hk1⟩
end Go.Proofs.YtagblibbngmbdaaGreatDoor
