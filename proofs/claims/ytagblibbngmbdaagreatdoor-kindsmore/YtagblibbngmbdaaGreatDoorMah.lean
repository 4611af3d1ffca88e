import Derived.Test.YtagblibbngmbdaaGreatDoorMag
set_option maxRecDepth 100000
set_option maxHeartbeats 2000000
namespace Go.Proofs.YtagblibbngmbdaaGreatDoor
open Go.RowKit
theorem zds (c:Cx) (S:List Nat) (hS:c.rb ∈ S) (p1 p2:Value) (I:World→List Sx.Tr→Prop) (hI: ∀ w w' acc,I w acc→Kp [c.rb] w w'→I w' acc) (one:List Sx.Tr→Sx.St→List Tk.Tok→Sx.Rs (List Sx.Tr))
  (hone: ∀ acc s ts acc' s' r,one acc s ts= .inl (acc',s',r)→r.length≤ts.length∧acc'.length=acc.length+1)
  (w:World) (hC: ∀ acc w1 n s,acc.length≤6→I w1 acc→RD c w1 n s→Kp S w w1→ ¬ Dry (one acc s (c.full.drop n))→Calls Tryz.prog 108 #[p1,p2] w1 (Post c S w (fun w' acc' v=>v= .tuple #[]∧I w' acc') (one acc s (c.full.drop n))))
  (acc:List Sx.Tr) (hacc:acc.length=0) (n:Nat) (s:Sx.St) (hi:I w acc) (h:RD c w n s) (hf: ¬ Dry (Sx.brk c.e one acc s (c.full.drop n))):
  Calls Tryz.prog 107 #[.pointer (some ⟨c.rb,0,none⟩),.func (.func 108) #[] #[p1,p2]] w (Post c S w (fun w' acc' v=>v= .tuple #[]∧I w' acc') (Sx.brk c.e one acc s (c.full.drop n))):=by
 have HF:=hide hf
 have HH:=hide h
 have HI:=hide hI
 have HN:=hide hone
 have HC:=hide hC
 have HI0:=hide hi
 have HSub:Hid (∀ a b,Kp [c.rb] a b→Kp S a b):=fun a b h=>h.mono (by simpa using hS)
 clear h hI hone hC hi hf hS
 go_enter Tryz.func107,Tryz.ntmps107
 go_wp2_with fail
 refine (zak ⟨#[40]⟩ (by simp) c _ n s HH.out).mono ?_
 intro e w1 hp
 rw [show (⟨#[40]⟩:ByteArray).data.toList=[40] from rfl] at hp
 rcases hm:Sx.skp c.e [40] s (c.full.drop n) with ⟨u,s1,r1⟩|⟨code,p,rest⟩
 ·rw [hm] at hp
  obtain ⟨v1,n1,rfl,hv1,hr1,hd1,hk1⟩:=hp
  have HM:=hide hm
  have HR1:=hide hr1
  have HD1:=hide hd1
  have HK1:=hide hk1
  have HE1:Hid (Sx.brk c.e one acc s (c.full.drop n)=Sx.bnd (if Sx.txt (c.full.drop n1)=[41] then .inl (acc,s1,c.full.drop n1) else Sx.bnd (one acc s1 (c.full.drop n1)) fun acc s ts=>Sx.brkL c.e one 7 1 acc s ts) fun acc s ts=>
    Sx.bnd (Sx.skp c.e [41] s ts) fun _ s ts=> .inl (acc,s,ts)):=by
   show _=_
   unfold Sx.brk
   rw [hm,hr1]
   rfl
  have HI1:=hide (HI.out _ _ _ HI0.out hk1)
  clear hm hr1 hd1 hk1 hv1
  by_cases ht:Sx.txt (c.full.drop n1)=[41]
  ·have HT:=hide ht
   have HE2:Hid (Sx.brk c.e one acc s (c.full.drop n)=Sx.bnd (Sx.skp c.e [41] s1 (c.full.drop n1)) fun _ s ts=> .inl (acc,s,ts)):=by
    show _=_
    rw [HE1.out,if_pos ht]
    rfl
   clear ht
   go_wp2_with fail
   refine (zal ⟨#[41]⟩ HT.out HD1.out).mono ?_
   rintro e w2 ⟨rfl,k1,rfl⟩
   go_wp2_with fail
   refine (zak ⟨#[41]⟩ (by simp) c _ n1 s1 (by exact HD1.out.drewN _)).mono ?_
   intro e w3 hp
   rw [show (⟨#[41]⟩:ByteArray).data.toList=[41] from rfl] at hp
   rcases hm3:Sx.skp c.e [41] s1 (c.full.drop n1) with ⟨u,s3,r3⟩|⟨code,p,rest⟩
   ·rw [hm3] at hp
    obtain ⟨v3,n3,rfl,hv3,hr3,hd3,hk3⟩:=hp
    have HM3:=hide hm3
    have HR3:=hide hr3
    have HD3:=hide hd3
    have HK3:=hide hk3
    clear hm3 hr3 hd3 hk3 hv3
    go_wp2
    rw [HE2.out,HM3.out,HR3.out]
    go_end0
    exact ⟨_,n3,rfl,⟨rfl,HI.out _ _ _ HI1.out (((Kp.refl _ _).drewN _).trans HK3.out)⟩,rfl,HD3.out,HSub.out _ _ ((HK1.out.drewN _).trans HK3.out)⟩
   ·rw [hm3] at hp
    obtain ⟨rfl,hk3⟩:=hp
    refine ⟨rfl,?_⟩
    rw [HE2.out,hm3]
    exact ⟨rfl,HSub.out _ _ ((HK1.out.drewN _).trans hk3)⟩
  ·have HT:=hide ht
   have HE2:Hid (Sx.brk c.e one acc s (c.full.drop n)=Sx.bnd (Sx.bnd (one acc s1 (c.full.drop n1)) fun acc s ts=>Sx.brkL c.e one 7 1 acc s ts) fun acc s ts=>Sx.bnd (Sx.skp c.e [41] s ts) fun _ s ts=> .inl (acc,s,ts)):=by
    show _=_
    rw [HE1.out,if_neg ht]
   have HF2:Hid (¬ Dry (one acc s1 (c.full.drop n1))):=by
    have h1:=HF.out
    rw [HE2.out] at h1
    exact Dry.bnd (Dry.bnd h1)
   clear ht
   go_wp2_with fail
   refine (zan ⟨#[41]⟩ HT.out HD1.out).mono ?_
   rintro e w2 ⟨rfl,k1,rfl⟩
   go_wp2_with fail
   refine (HC.out acc _ n1 s1 (by omega) (by exact HI.out _ _ _ HI1.out ((Kp.refl _ _).drewN _)) (by exact HD1.out.drewN _) (by exact HSub.out _ _ (HK1.out.drewN _)) HF2.out).mono ?_
   intro e w3 hp
   rcases hm3:one acc s1 (c.full.drop n1) with ⟨acc3,s3,r3⟩|⟨code,p,rest⟩
   ·rw [hm3] at hp
    obtain ⟨v3,n3,rfl,hv3,hr3,hd3,hk3⟩:=hp
    have HM3:=hide hm3
    have HR3:=hide hr3
    have HD3:=hide hd3
    have HK3:=hide hk3
    have HI3:=hide hv3.2
    have hl3:acc3.length=1:=by have:=(HN.out _ _ _ _ _ _ hm3).2;omega
    have HE3:Hid (Sx.brk c.e one acc s (c.full.drop n)=Sx.bnd (Sx.brkL c.e one 7 1 acc3 s3 (c.full.drop n3)) fun acc s ts=>Sx.bnd (Sx.skp c.e [41] s ts) fun _ s ts=> .inl (acc,s,ts)):=by
     show _=_
     rw [HE2.out,hm3,hr3]
     rfl
    clear hm3 hr3 hd3 hk3 hv3
    go_wp2
    go_loopw [4] (fun q wr=> ∃ (j m n4:Nat) (acc4:List Sx.Tr) (s4:Sx.St),q= .int .i64 m∧j+m=8∧m≤6∧acc4.length=m∧Hid (Sx.brkL c.e one 7 1 acc3 s3 (c.full.drop n3)=Sx.brkL c.e one j m acc4 s4 (c.full.drop n4))∧RD c wr n4 s4∧I wr acc4∧Kp S w wr) (fun _ wr=>c.full.length - zcj c wr)
    case atStart=>exact ⟨7,1,n3,acc3,s3,rfl,rfl,by omega,hl3,rfl,HD3.out,HI3.out,HK3.out⟩
    case round=>
     obtain ⟨j,m,n4,acc4,s4,rfl,hjm,hm6,hl4,HP,hd4,hi4,hk4⟩:=hrel
     have HL4:=hide hl4
     clear hl4
     have HD4:=hide hd4
     have HI4:=hide hi4
     have HK4:=hide hk4
     clear hd4 hi4 hk4
     obtain ⟨j,rfl⟩: ∃ j',j=j'+1:=⟨j - 1,by omega⟩
     by_cases ht:Sx.txt (c.full.drop n4)=[44]
     ·have hlt:n4<c.full.length:=zbv ht (by simp)
      have HT:=hide ht
      have HSK:Hid (Sx.skp c.e [44] s4 (c.full.drop n4)= .inl ((),s4,c.full.drop (n4+1))):=by
       show _=_
       unfold Sx.skp
       rw [if_pos ht,List.tail_drop]
      by_cases h6:m=6
      ·have HX:Hid (Sx.brkL c.e one (j+1) m acc4 s4 (c.full.drop n4)= .inr (8,Sx.place c.e (c.full.drop (n4+1)),c.full.drop (n4+1))):=by
        show _=_
        simp only [Sx.brkL]
        rw [if_pos ht,if_pos h6,List.tail_drop]
        rfl
       subst h6
       clear ht
       go_wp2_with fail
       refine (zal ⟨#[44]⟩ HT.out HD4.out).mono ?_
       rintro e w2 ⟨rfl,k2,rfl⟩
       go_wp2_with fail
       refine (zak ⟨#[44]⟩ (by simp) c _ n4 s4 (by exact HD4.out.drewN _)).mono ?_
       intro e w5 hp
       rw [show (⟨#[44]⟩:ByteArray).data.toList=[44] from rfl,HSK.out] at hp
       obtain ⟨v5,n5,rfl,hv5,hr5,hd5,hk5⟩:=hp
       have HD5:=hide hd5
       have HK5:=hide hk5
       have HR5:=hide hr5
       clear hd5 hk5 hr5 hv5
       go_wp2_with fail
       refine (za9 8 c _ n5 s4 HD5.out).mono ?_
       rintro e w6 ⟨rfl,hb⟩
       go_wp2
       rw [HE3.out,HP.out,HX.out,HR5.out]
       exact ⟨rfl,rfl,((HK4.out.drewN _).trans (HSub.out _ _ HK5.out)).trans (Kp.of_below hb)⟩
      ·have HX:Hid (Sx.brkL c.e one (j+1) m acc4 s4 (c.full.drop n4)=Sx.bnd (one acc4 s4 (c.full.drop (n4+1))) fun acc s r=>Sx.brkL c.e one j (m+1) acc s r):=by
        show _=_
        simp only [Sx.brkL]
        rw [if_pos ht,if_neg h6,List.tail_drop]
       have HF5:Hid (¬ Dry (one acc4 s4 (c.full.drop (n4+1)))):=by
        have h1:=HF.out
        rw [HE3.out,HP.out,HX.out] at h1
        exact Dry.bnd (Dry.bnd h1)
       have d6:((m:Int) == 6)=false:=by simp;omega
       clear ht
       go_wp2_with fail
       refine (zal ⟨#[44]⟩ HT.out HD4.out).mono ?_
       rintro e w2 ⟨rfl,k2,rfl⟩
       go_wp2_with fail
       refine (zak ⟨#[44]⟩ (by simp) c _ n4 s4 (by exact HD4.out.drewN _)).mono ?_
       intro e w5 hp
       rw [show (⟨#[44]⟩:ByteArray).data.toList=[44] from rfl,HSK.out] at hp
       obtain ⟨v5,n5,rfl,hv5,hr5,hd5,hk5⟩:=hp
       have HD5:=hide hd5
       have HK5:=hide hk5
       have HR5:=hide hr5
       have HI5:=hide (HI.out _ _ _ (HI.out _ _ _ HI4.out ((Kp.refl _ _).drewN _)) hk5)
       clear hd5 hk5 hr5 hv5
       go_wp2_with fail
       refine (HC.out acc4 _ n5 s4 (by have:=HL4.out;omega) HI5.out HD5.out (by exact (HK4.out.drewN _).trans (HSub.out _ _ HK5.out)) (by rw [←HR5.out];exact HF5.out)).mono ?_
       intro e w6 hp
       rcases hm6':one acc4 s4 (c.full.drop n5) with ⟨acc6,s6,r6⟩|⟨code,p,rest⟩
       ·rw [hm6'] at hp
        obtain ⟨v6,n6,rfl,hv6,hr6,hd6,hk6⟩:=hp
        have HM6:=hide hm6'
        have HR6:=hide hr6
        have HD6:=hide hd6
        have HK6:=hide hk6
        have HI6:=hide hv6.2
        clear hm6' hr6 hd6 hk6 hv6
        go_wp2
        refine ⟨⟨j,m+1,n6,acc6,s6,by go_num,by omega,by omega,(by have:=(HN.out _ _ _ _ _ _ HM6.out).2;have:=HL4.out;omega),?_,HD6.out,HI6.out,HK6.out⟩,?_⟩
        ·show _=_
         rw [HP.out,HX.out,HR5.out,HM6.out,HR6.out]
         rfl
        ·rw [HD6.out.nx,HD4.out.nx]
         have h1:=(HN.out _ _ _ _ _ _ HM6.out).1
         have h2:=congrArg List.length HR5.out
         rw [HR6.out] at h1
         simp only [List.length_drop] at h1 h2
         have h3:=HD6.out.hn
         omega
       ·rw [hm6'] at hp
        obtain ⟨rfl,hk6⟩:=hp
        refine ⟨rfl,?_⟩
        rw [HE3.out,HP.out,HX.out,HR5.out,hm6']
        exact ⟨rfl,hk6⟩
     ·have HT:=hide ht
      have HX:Hid (Sx.brkL c.e one (j+1) m acc4 s4 (c.full.drop n4)= .inl (acc4,s4,c.full.drop n4)):=by
       show _=_
       simp only [Sx.brkL]
       rw [if_neg ht]
      clear ht
      go_wp2_with fail
      refine (zan ⟨#[44]⟩ HT.out HD4.out).mono ?_
      rintro e w2 ⟨rfl,k2,rfl⟩
      go_wp2_with fail
      refine (zak ⟨#[41]⟩ (by simp) c _ n4 s4 (by exact HD4.out.drewN _)).mono ?_
      intro e w5 hp
      rw [show (⟨#[41]⟩:ByteArray).data.toList=[41] from rfl] at hp
      rcases hm5:Sx.skp c.e [41] s4 (c.full.drop n4) with ⟨u,s5,r5⟩|⟨code,p,rest⟩
      ·rw [hm5] at hp
       obtain ⟨v5,n5,rfl,hv5,hr5,hd5,hk5⟩:=hp
       have HM5:=hide hm5
       have HR5:=hide hr5
       have HD5:=hide hd5
       have HK5:=hide hk5
       clear hm5 hr5 hd5 hk5 hv5
       go_wp2
       rw [HE3.out,HP.out,HX.out]
       show bodyPost _ _ (Post c S w _ (Sx.bnd (Sx.skp c.e [41] s4 (c.full.drop n4)) _)) _ _ _
       rw [HM5.out,HR5.out]
       go_end0
       exact ⟨_,n5,rfl,⟨rfl,HI.out _ _ _ HI4.out (((Kp.refl _ _).drewN _).trans HK5.out)⟩,rfl,HD5.out,(HK4.out.drewN _).trans (HSub.out _ _ HK5.out)⟩
      ·rw [hm5] at hp
       obtain ⟨rfl,hk5⟩:=hp
       refine ⟨rfl,?_⟩
       rw [HE3.out,HP.out,HX.out]
       show Post c S w _ (Sx.bnd (Sx.skp c.e [41] s4 (c.full.drop n4)) _) _ _
       rw [hm5]
       exact ⟨rfl,(HK4.out.drewN _).trans (HSub.out _ _ hk5)⟩
   ·rw [hm3] at hp
    obtain ⟨rfl,hk3⟩:=hp
    refine ⟨rfl,?_⟩
    rw [HE2.out,hm3]
    exact ⟨rfl,hk3⟩
 ·rw [hm] at hp
  obtain ⟨rfl,hk1⟩:=hp
  refine ⟨rfl,?_⟩
  unfold Sx.brk
  rw [hm]
  exact ⟨rfl,HSub.out _ _ hk1⟩
end Go.Proofs.YtagblibbngmbdaaGreatDoor
namespace Go.Proofs.YtagblibbngmbdaaGreatDoor
open Go.RowKit
theorem zdt (c:Cx) (S:List Nat) (hS:c.rb ∈ S) (p1 p2:Value) (I:World→List Sx.Tr→Prop) (hI: ∀ w w' acc,I w acc→Kp [c.rb] w w'→I w' acc) (one:List Sx.Tr→Sx.St→List Tk.Tok→Sx.Rs (List Sx.Tr))
  (hone: ∀ acc s ts acc' s' r,one acc s ts= .inl (acc',s',r)→r.length≤ts.length∧acc'.length=acc.length+1)
  (w:World) (hC: ∀ acc w1 n s,acc.length≤6→I w1 acc→RD c w1 n s→Kp S w w1→ ¬ Dry (one acc s (c.full.drop n))→Calls Tryz.prog 172 #[p1,p2] w1 (Post c S w (fun w' acc' v=>v= .tuple #[]∧I w' acc') (one acc s (c.full.drop n))))
  (acc:List Sx.Tr) (hacc:acc.length=0) (n:Nat) (s:Sx.St) (hi:I w acc) (h:RD c w n s) (hf: ¬ Dry (Sx.brk c.e one acc s (c.full.drop n))):
  Calls Tryz.prog 107 #[.pointer (some ⟨c.rb,0,none⟩),.func (.func 172) #[] #[p1,p2]] w (Post c S w (fun w' acc' v=>v= .tuple #[]∧I w' acc') (Sx.brk c.e one acc s (c.full.drop n))):=by
 have HF:=hide hf
 have HH:=hide h
 have HI:=hide hI
 have HN:=hide hone
 have HC:=hide hC
 have HI0:=hide hi
 have HSub:Hid (∀ a b,Kp [c.rb] a b→Kp S a b):=fun a b h=>h.mono (by simpa using hS)
 clear h hI hone hC hi hf hS
 go_enter Tryz.func107,Tryz.ntmps107
 go_wp2_with fail
 refine (zak ⟨#[40]⟩ (by simp) c _ n s HH.out).mono ?_
 intro e w1 hp
 rw [show (⟨#[40]⟩:ByteArray).data.toList=[40] from rfl] at hp
 rcases hm:Sx.skp c.e [40] s (c.full.drop n) with ⟨u,s1,r1⟩|⟨code,p,rest⟩
 ·rw [hm] at hp
  obtain ⟨v1,n1,rfl,hv1,hr1,hd1,hk1⟩:=hp
  have HM:=hide hm
  have HR1:=hide hr1
  have HD1:=hide hd1
  have HK1:=hide hk1
  have HE1:Hid (Sx.brk c.e one acc s (c.full.drop n)=Sx.bnd (if Sx.txt (c.full.drop n1)=[41] then .inl (acc,s1,c.full.drop n1) else Sx.bnd (one acc s1 (c.full.drop n1)) fun acc s ts=>Sx.brkL c.e one 7 1 acc s ts) fun acc s ts=>
    Sx.bnd (Sx.skp c.e [41] s ts) fun _ s ts=> .inl (acc,s,ts)):=by
   show _=_
   unfold Sx.brk
   rw [hm,hr1]
   rfl
  have HI1:=hide (HI.out _ _ _ HI0.out hk1)
  clear hm hr1 hd1 hk1 hv1
  by_cases ht:Sx.txt (c.full.drop n1)=[41]
  ·have HT:=hide ht
   have HE2:Hid (Sx.brk c.e one acc s (c.full.drop n)=Sx.bnd (Sx.skp c.e [41] s1 (c.full.drop n1)) fun _ s ts=> .inl (acc,s,ts)):=by
    show _=_
    rw [HE1.out,if_pos ht]
    rfl
   clear ht
   go_wp2_with fail
   refine (zal ⟨#[41]⟩ HT.out HD1.out).mono ?_
   rintro e w2 ⟨rfl,k1,rfl⟩
   go_wp2_with fail
   refine (zak ⟨#[41]⟩ (by simp) c _ n1 s1 (by exact HD1.out.drewN _)).mono ?_
   intro e w3 hp
   rw [show (⟨#[41]⟩:ByteArray).data.toList=[41] from rfl] at hp
   rcases hm3:Sx.skp c.e [41] s1 (c.full.drop n1) with ⟨u,s3,r3⟩|⟨code,p,rest⟩
   ·rw [hm3] at hp
    obtain ⟨v3,n3,rfl,hv3,hr3,hd3,hk3⟩:=hp
    have HM3:=hide hm3
    have HR3:=hide hr3
    have HD3:=hide hd3
    have HK3:=hide hk3
    clear hm3 hr3 hd3 hk3 hv3
    go_wp2
    rw [HE2.out,HM3.out,HR3.out]
    go_end0
    exact ⟨_,n3,rfl,⟨rfl,HI.out _ _ _ HI1.out (((Kp.refl _ _).drewN _).trans HK3.out)⟩,rfl,HD3.out,HSub.out _ _ ((HK1.out.drewN _).trans HK3.out)⟩
   ·rw [hm3] at hp
    obtain ⟨rfl,hk3⟩:=hp
    refine ⟨rfl,?_⟩
    rw [HE2.out,hm3]
    exact ⟨rfl,HSub.out _ _ ((HK1.out.drewN _).trans hk3)⟩
  ·have HT:=hide ht
   have HE2:Hid (Sx.brk c.e one acc s (c.full.drop n)=Sx.bnd (Sx.bnd (one acc s1 (c.full.drop n1)) fun acc s ts=>Sx.brkL c.e one 7 1 acc s ts) fun acc s ts=>Sx.bnd (Sx.skp c.e [41] s ts) fun _ s ts=> .inl (acc,s,ts)):=by
    show _=_
    rw [HE1.out,if_neg ht]
   have HF2:Hid (¬ Dry (one acc s1 (c.full.drop n1))):=by
    have h1:=HF.out
    rw [HE2.out] at h1
    exact Dry.bnd (Dry.bnd h1)
   clear ht
   go_wp2_with fail
   refine (zan ⟨#[41]⟩ HT.out HD1.out).mono ?_
   rintro e w2 ⟨rfl,k1,rfl⟩
   go_wp2_with fail
   refine (HC.out acc _ n1 s1 (by omega) (by exact HI.out _ _ _ HI1.out ((Kp.refl _ _).drewN _)) (by exact HD1.out.drewN _) (by exact HSub.out _ _ (HK1.out.drewN _)) HF2.out).mono ?_
   intro e w3 hp
   rcases hm3:one acc s1 (c.full.drop n1) with ⟨acc3,s3,r3⟩|⟨code,p,rest⟩
   ·rw [hm3] at hp
    obtain ⟨v3,n3,rfl,hv3,hr3,hd3,hk3⟩:=hp
    have HM3:=hide hm3
    have HR3:=hide hr3
    have HD3:=hide hd3
    have HK3:=hide hk3
    have HI3:=hide hv3.2
    have hl3:acc3.length=1:=by have:=(HN.out _ _ _ _ _ _ hm3).2;omega
    have HE3:Hid (Sx.brk c.e one acc s (c.full.drop n)=Sx.bnd (Sx.brkL c.e one 7 1 acc3 s3 (c.full.drop n3)) fun acc s ts=>Sx.bnd (Sx.skp c.e [41] s ts) fun _ s ts=> .inl (acc,s,ts)):=by
     show _=_
     rw [HE2.out,hm3,hr3]
     rfl
    clear hm3 hr3 hd3 hk3 hv3
    go_wp2
    go_loopw [4] (fun q wr=> ∃ (j m n4:Nat) (acc4:List Sx.Tr) (s4:Sx.St),q= .int .i64 m∧j+m=8∧m≤6∧acc4.length=m∧Hid (Sx.brkL c.e one 7 1 acc3 s3 (c.full.drop n3)=Sx.brkL c.e one j m acc4 s4 (c.full.drop n4))∧RD c wr n4 s4∧I wr acc4∧Kp S w wr) (fun _ wr=>c.full.length - zcj c wr)
    case atStart=>exact ⟨7,1,n3,acc3,s3,rfl,rfl,by omega,hl3,rfl,HD3.out,HI3.out,HK3.out⟩
    case round=>
     obtain ⟨j,m,n4,acc4,s4,rfl,hjm,hm6,hl4,HP,hd4,hi4,hk4⟩:=hrel
     have HL4:=hide hl4
     clear hl4
     have HD4:=hide hd4
     have HI4:=hide hi4
     have HK4:=hide hk4
     clear hd4 hi4 hk4
     obtain ⟨j,rfl⟩: ∃ j',j=j'+1:=⟨j - 1,by omega⟩
     by_cases ht:Sx.txt (c.full.drop n4)=[44]
     ·have hlt:n4<c.full.length:=zbv ht (by simp)
      have HT:=hide ht
      have HSK:Hid (Sx.skp c.e [44] s4 (c.full.drop n4)= .inl ((),s4,c.full.drop (n4+1))):=by
       show _=_
       unfold Sx.skp
       rw [if_pos ht,List.tail_drop]
      by_cases h6:m=6
      ·have HX:Hid (Sx.brkL c.e one (j+1) m acc4 s4 (c.full.drop n4)= .inr (8,Sx.place c.e (c.full.drop (n4+1)),c.full.drop (n4+1))):=by
        show _=_
        simp only [Sx.brkL]
        rw [if_pos ht,if_pos h6,List.tail_drop]
        rfl
       subst h6
       clear ht
       go_wp2_with fail
       refine (zal ⟨#[44]⟩ HT.out HD4.out).mono ?_
       rintro e w2 ⟨rfl,k2,rfl⟩
       go_wp2_with fail
       refine (zak ⟨#[44]⟩ (by simp) c _ n4 s4 (by exact HD4.out.drewN _)).mono ?_
       intro e w5 hp
       rw [show (⟨#[44]⟩:ByteArray).data.toList=[44] from rfl,HSK.out] at hp
       obtain ⟨v5,n5,rfl,hv5,hr5,hd5,hk5⟩:=hp
       have HD5:=hide hd5
       have HK5:=hide hk5
       have HR5:=hide hr5
       clear hd5 hk5 hr5 hv5
       go_wp2_with fail
       refine (za9 8 c _ n5 s4 HD5.out).mono ?_
       rintro e w6 ⟨rfl,hb⟩
       go_wp2
       rw [HE3.out,HP.out,HX.out,HR5.out]
       exact ⟨rfl,rfl,((HK4.out.drewN _).trans (HSub.out _ _ HK5.out)).trans (Kp.of_below hb)⟩
      ·have HX:Hid (Sx.brkL c.e one (j+1) m acc4 s4 (c.full.drop n4)=Sx.bnd (one acc4 s4 (c.full.drop (n4+1))) fun acc s r=>Sx.brkL c.e one j (m+1) acc s r):=by
        show _=_
        simp only [Sx.brkL]
        rw [if_pos ht,if_neg h6,List.tail_drop]
       have HF5:Hid (¬ Dry (one acc4 s4 (c.full.drop (n4+1)))):=by
        have h1:=HF.out
        rw [HE3.out,HP.out,HX.out] at h1
        exact Dry.bnd (Dry.bnd h1)
       have d6:((m:Int) == 6)=false:=by simp;omega
       clear ht
       go_wp2_with fail
       refine (zal ⟨#[44]⟩ HT.out HD4.out).mono ?_
       rintro e w2 ⟨rfl,k2,rfl⟩
       go_wp2_with fail
       refine (zak ⟨#[44]⟩ (by simp) c _ n4 s4 (by exact HD4.out.drewN _)).mono ?_
       intro e w5 hp
       rw [show (⟨#[44]⟩:ByteArray).data.toList=[44] from rfl,HSK.out] at hp
       obtain ⟨v5,n5,rfl,hv5,hr5,hd5,hk5⟩:=hp
       have HD5:=hide hd5
       have HK5:=hide hk5
       have HR5:=hide hr5
       have HI5:=hide (HI.out _ _ _ (HI.out _ _ _ HI4.out ((Kp.refl _ _).drewN _)) hk5)
       clear hd5 hk5 hr5 hv5
       go_wp2_with fail
       refine (HC.out acc4 _ n5 s4 (by have:=HL4.out;omega) HI5.out HD5.out (by exact (HK4.out.drewN _).trans (HSub.out _ _ HK5.out)) (by rw [←HR5.out];exact HF5.out)).mono ?_
       intro e w6 hp
       rcases hm6':one acc4 s4 (c.full.drop n5) with ⟨acc6,s6,r6⟩|⟨code,p,rest⟩
       ·rw [hm6'] at hp
        obtain ⟨v6,n6,rfl,hv6,hr6,hd6,hk6⟩:=hp
        have HM6:=hide hm6'
        have HR6:=hide hr6
        have HD6:=hide hd6
        have HK6:=hide hk6
        have HI6:=hide hv6.2
        clear hm6' hr6 hd6 hk6 hv6
        go_wp2
        refine ⟨⟨j,m+1,n6,acc6,s6,by go_num,by omega,by omega,(by have:=(HN.out _ _ _ _ _ _ HM6.out).2;have:=HL4.out;omega),?_,HD6.out,HI6.out,HK6.out⟩,?_⟩
        ·show _=_
         rw [HP.out,HX.out,HR5.out,HM6.out,HR6.out]
         rfl
        ·rw [HD6.out.nx,HD4.out.nx]
         have h1:=(HN.out _ _ _ _ _ _ HM6.out).1
         have h2:=congrArg List.length HR5.out
         rw [HR6.out] at h1
         simp only [List.length_drop] at h1 h2
         have h3:=HD6.out.hn
         omega
       ·rw [hm6'] at hp
        obtain ⟨rfl,hk6⟩:=hp
        refine ⟨rfl,?_⟩
        rw [HE3.out,HP.out,HX.out,HR5.out,hm6']
        exact ⟨rfl,hk6⟩
     ·have HT:=hide ht
      have HX:Hid (Sx.brkL c.e one (j+1) m acc4 s4 (c.full.drop n4)= .inl (acc4,s4,c.full.drop n4)):=by
       show _=_
       simp only [Sx.brkL]
       rw [if_neg ht]
      clear ht
      go_wp2_with fail
      refine (zan ⟨#[44]⟩ HT.out HD4.out).mono ?_
      rintro e w2 ⟨rfl,k2,rfl⟩
      go_wp2_with fail
      refine (zak ⟨#[41]⟩ (by simp) c _ n4 s4 (by exact HD4.out.drewN _)).mono ?_
      intro e w5 hp
      rw [show (⟨#[41]⟩:ByteArray).data.toList=[41] from rfl] at hp
      rcases hm5:Sx.skp c.e [41] s4 (c.full.drop n4) with ⟨u,s5,r5⟩|⟨code,p,rest⟩
      ·rw [hm5] at hp
       obtain ⟨v5,n5,rfl,hv5,hr5,hd5,hk5⟩:=hp
       have HM5:=hide hm5
       have HR5:=hide hr5
       have HD5:=hide hd5
       have HK5:=hide hk5
       clear hm5 hr5 hd5 hk5 hv5
       go_wp2
       rw [HE3.out,HP.out,HX.out]
       show bodyPost _ _ (Post c S w _ (Sx.bnd (Sx.skp c.e [41] s4 (c.full.drop n4)) _)) _ _ _
       rw [HM5.out,HR5.out]
       go_end0
       exact ⟨_,n5,rfl,⟨rfl,HI.out _ _ _ HI4.out (((Kp.refl _ _).drewN _).trans HK5.out)⟩,rfl,HD5.out,(HK4.out.drewN _).trans (HSub.out _ _ HK5.out)⟩
      ·rw [hm5] at hp
       obtain ⟨rfl,hk5⟩:=hp
       refine ⟨rfl,?_⟩
       rw [HE3.out,HP.out,HX.out]
       show Post c S w _ (Sx.bnd (Sx.skp c.e [41] s4 (c.full.drop n4)) _) _ _
       rw [hm5]
       exact ⟨rfl,(HK4.out.drewN _).trans (HSub.out _ _ hk5)⟩
   ·rw [hm3] at hp
    obtain ⟨rfl,hk3⟩:=hp
    refine ⟨rfl,?_⟩
    rw [HE2.out,hm3]
    exact ⟨rfl,hk3⟩
 ·rw [hm] at hp
  obtain ⟨rfl,hk1⟩:=hp
  refine ⟨rfl,?_⟩
  unfold Sx.brk
  rw [hm]
  exact ⟨rfl,HSub.out _ _ hk1⟩
end Go.Proofs.YtagblibbngmbdaaGreatDoor
