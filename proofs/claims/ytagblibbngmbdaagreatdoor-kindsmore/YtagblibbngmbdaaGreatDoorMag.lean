import Derived.Test.YtagblibbngmbdaaGreatDoorMaf
set_option maxRecDepth 100000
set_option maxHeartbeats 2000000
namespace Go.Proofs.YtagblibbngmbdaaGreatDoor
open Go.RowKit
theorem zlt (f:Nat) (hU: ∀ f',f'≤f→Cn f' 2 198):Cn (f+1) 1 189:=by
 intro c w n s h hf
 rw [Sx.pe_1] at hf ⊢
 have HF:=hide hf
 have HH:=hide h
 have HB:=hide h.lt
 have HU:=hide hU
 have hr:=h.rlt
 clear h hf hU
 go_enter Tryz.func189,Tryz.ntmps189
 go_wp2_with fail
 refine (HU.out f (Nat.le_refl _) c _ n s (by exact HH.out.alloc _) (Dry.bnd HF.out)).mono ?_
 intro e w1 hp
 rcases hm:Sx.pe c.e f 2 Sx.d0 s (c.full.drop n) with ⟨x,s1,r1⟩|⟨code,p,rest⟩
 ·rw [hm] at hp
  obtain ⟨v,n1,rfl,hv,hr1,hd1,hk1⟩:=hp
  obtain ⟨f1,op1,nm1,k1,L1,a1,len1,cap1,hl1,hx1,rfl,hE1⟩:=hv.open
  have HM:=hide hm
  have HR1:=hide hr1
  have HD1:=hide hd1
  have HK1:=hide hk1
  have HV1:=hide hv
  have HF1:Hid (¬ Dry (Sx.pe c.e f 4 x s1 (c.full.drop n1))):=by
   have:=Dry.next HF.out hm
   rwa [hr1] at this
  have hn0:w.heap.size ∉ [c.rb]:=by simp;omega
  have hz1:w.heap.size<w1.heap.size:=by have:=hk1.size;simp at this;omega
  have HS:=hide (LX.start (t:=49) HB.out hz1 (((Kp.refl _ _).alloc _).trans hk1) hd1 ((X4.new _ _ _ _ _ 49).keep hk1 hn0) (hv.base (P':=fun b=>w.heap.size+1≤b) (fun b _ hb=>by simp at hb;omega)))
  clear hm hr1 hd1 hk1 hv hE1 hx1 hl1
  generalize bs nm1=bn1 at *
  go_wp2_with fail
  go_loopw [] (fun wr=> ∃ (f2 n2:Nat) (y:Sx.Tr) (s2:Sx.St) (op k:Int) (nm:ByteArray) (a:Option Addr) (len cap:Nat),f2≤f∧Hid (Sx.pe c.e f 4 x s1 (c.full.drop n1)=Sx.pe c.e f2 4 y s2 (c.full.drop n2))∧LX w wr c w1.heap.size n2 s2 y op k nm a len cap) (fun wr=>c.full.length - zcj c wr)
  case atStart=>exact ⟨f,n1,x,s1,op1,k1,bn1,a1,len1,cap1,Nat.le_refl _,rfl,HS.out⟩
  case round=>
   obtain ⟨f2,n2,y,s2,op,k,nm,a,len,cap,hf2,HP,HL⟩:=hrel
   have HFr:Hid (¬ Dry (Sx.pe c.e f2 4 y s2 (c.full.drop n2))):=by rw [←HP.out];exact HF1.out
   obtain ⟨f3,rfl⟩: ∃ f3,f2=f3+1:=by
    cases f2 with
    |zero=>exact absurd ⟨_,_,rfl⟩ HFr.out
    |succ f3=>exact ⟨f3,rfl⟩
   have hxlt:=HL.x.lt
   obtain ⟨x0,x1,x2,x3,xf⟩:=HL.x
   obtain ⟨y0,y1,y2,y3,yf⟩:=HL.z
   have hvlt:=HL.vlt
   have HLL:=hide HL
   clear HL
   by_cases ht:Sx.txt (c.full.drop n2)=[43]
   ·have hlt:n2<c.full.length:=zbv ht (by simp)
    have HE:Hid (Sx.pe c.e (f3+1) 4 y s2 (c.full.drop n2)=Sx.bnd (Sx.join 4 y (Sx.pe c.e f3 2 Sx.d0 s2 (c.full.drop (n2+1)))) fun z s1 r1=>Sx.pe c.e f3 4 z s1 r1):=by
     show _=_
     rw [Sx.pe_4,if_pos ht,List.tail_drop]
    have HFj:Hid (¬ Dry (Sx.pe c.e f3 2 Sx.d0 s2 (c.full.drop (n2+1)))):=by
     have h1:=HFr.out
     rw [HE.out] at h1
     exact Dry.bnd (Dry.bnd h1)
    have HT:=hide ht
    clear ht
    go_wp2_with fail
    refine (zal ⟨#[43]⟩ HT.out HLL.out.rd).mono ?_
    rintro e w2 ⟨rfl,kk,rfl⟩
    go_wp2_with fail
    refine (zde 4 y _ (fun b=>w.heap.size+1≤b∧b ≠ w1.heap.size) c _ n2 s2 (by exact HLL.out.rd.drewN _) hlt (fun b hb=>by simp at hb;exact ⟨by omega,by omega⟩) (by simp;omega) (by exact (HLL.out.drewN _).v) _
     (fun w' hw'=>HU.out f3 (by omega) c w' (n2+1) s2 hw' HFj.out) (fun y' s1' r1' hm'=>zb0 HLL.out.rd HT.out y' s1' r1' hm')).mono ?_
    intro e w3 hp
    rcases hm:Sx.join 4 y (Sx.pe c.e f3 2 Sx.d0 s2 (c.full.drop (n2+1))) with ⟨z,s4,r4⟩|⟨code,p,rest⟩
    ·rw [hm] at hp
     obtain ⟨v4,n4,rfl,hv4,hr4,hd4,hk4⟩:=hp
     rw [hr4] at hm
     have hfur:=zgx hlt hm hd4.hn
     obtain ⟨f4,op4,nm4,k4,L4,a4,len4,cap4,hl4,hx4,rfl,hE4⟩:=hv4.open
     have HS4:=hide (LX.set (HLL.out.drewN kk) hk4 hd4 hv4)
     have HM4:=hide hm
     have hn4:=hd4.hn
     have hcc:w1.heap.size ∉ [c.rb]:=by have:=HB.out.1;simp;omega
     obtain ⟨X0,X1,X2,X3,XF⟩:=(HLL.out.drewN kk).x.keep hk4 hcc
     clear hm hr4 hd4 hk4 hv4 hE4 hx4 hl4 x0 x1 x2 x3 xf y0 y1 y2 y3 yf
     generalize bs nm4=bn4 at *
     go_wp2
     go_roundw
     case rel=>
      refine ⟨f3,n4,z,s4,op4,k4,bn4,a4,len4,cap4,by omega,?_,HS4.out⟩
      show _=_
      rw [HP.out,HE.out,HM4.out]
      rfl
     case measure=>
      rw [HS4.out.rd.nx,HLL.out.rd.nx]
      omega
    ·rw [hm] at hp
     obtain ⟨rfl,hk4⟩:=hp
     refine ⟨rfl,?_⟩
     rw [HM.out]
     show Post c [c.rb] w _ (Sx.pe c.e f 4 x s1 r1) _ _
     rw [HR1.out,HP.out,HE.out,hm]
     exact ⟨rfl,(HLL.out.kp.drewN _).trans hk4⟩
   ·have H43:=hide ht
    clear ht
    by_cases ht:Sx.txt (c.full.drop n2)=[45]
    ·have hlt:n2<c.full.length:=zbv ht (by simp)
     have HE:Hid (Sx.pe c.e (f3+1) 4 y s2 (c.full.drop n2)=Sx.bnd (Sx.join 5 y (Sx.pe c.e f3 2 Sx.d0 s2 (c.full.drop (n2+1)))) fun z s1 r1=>Sx.pe c.e f3 4 z s1 r1):=by
      show _=_
      rw [Sx.pe_4,if_neg H43.out,if_pos ht,List.tail_drop]
     have HFj:Hid (¬ Dry (Sx.pe c.e f3 2 Sx.d0 s2 (c.full.drop (n2+1)))):=by
      have h1:=HFr.out
      rw [HE.out] at h1
      exact Dry.bnd (Dry.bnd h1)
     have HT:=hide ht
     clear ht
     go_wp2_with fail
     refine (zan ⟨#[43]⟩ H43.out HLL.out.rd).mono ?_
     rintro e w2 ⟨rfl,k9,rfl⟩
     go_wp2_with fail
     refine (zal ⟨#[45]⟩ HT.out (by exact HLL.out.rd.drewN _)).mono ?_
     rintro e w2 ⟨rfl,kk,rfl⟩
     go_wp2_with fail
     refine (zde 5 y _ (fun b=>w.heap.size+1≤b∧b ≠ w1.heap.size) c _ n2 s2 (by exact HLL.out.rd.drewN _) hlt (fun b hb=>by simp at hb;exact ⟨by omega,by omega⟩) (by simp;omega) (by exact (HLL.out.drewN _).v) _
      (fun w' hw'=>HU.out f3 (by omega) c w' (n2+1) s2 hw' HFj.out) (fun y' s1' r1' hm'=>zb0 HLL.out.rd HT.out y' s1' r1' hm')).mono ?_
     intro e w3 hp
     rcases hm:Sx.join 5 y (Sx.pe c.e f3 2 Sx.d0 s2 (c.full.drop (n2+1))) with ⟨z,s4,r4⟩|⟨code,p,rest⟩
     ·rw [hm] at hp
      obtain ⟨v4,n4,rfl,hv4,hr4,hd4,hk4⟩:=hp
      rw [hr4] at hm
      have hfur:=zgx hlt hm hd4.hn
      obtain ⟨f4,op4,nm4,k4,L4,a4,len4,cap4,hl4,hx4,rfl,hE4⟩:=hv4.open
      have HS4:=hide (LX.set (HLL.out.drewN (k9+kk)) hk4 hd4 hv4)
      have HM4:=hide hm
      have hn4:=hd4.hn
      have hcc:w1.heap.size ∉ [c.rb]:=by have:=HB.out.1;simp;omega
      obtain ⟨X0,X1,X2,X3,XF⟩:=(HLL.out.drewN (k9+kk)).x.keep hk4 hcc
      clear hm hr4 hd4 hk4 hv4 hE4 hx4 hl4 x0 x1 x2 x3 xf y0 y1 y2 y3 yf
      generalize bs nm4=bn4 at *
      go_wp2
      go_roundw
      case rel=>
       refine ⟨f3,n4,z,s4,op4,k4,bn4,a4,len4,cap4,by omega,?_,HS4.out⟩
       show _=_
       rw [HP.out,HE.out,HM4.out]
       rfl
      case measure=>
       rw [HS4.out.rd.nx,HLL.out.rd.nx]
       omega
     ·rw [hm] at hp
      obtain ⟨rfl,hk4⟩:=hp
      refine ⟨rfl,?_⟩
      rw [HM.out]
      show Post c [c.rb] w _ (Sx.pe c.e f 4 x s1 r1) _ _
      rw [HR1.out,HP.out,HE.out,hm]
      exact ⟨rfl,(HLL.out.kp.drewN _).trans hk4⟩
    ·have HE:Hid (Sx.pe c.e (f3+1) 4 y s2 (c.full.drop n2)= .inl (y,s2,c.full.drop n2)):=by
      show _=_
      rw [Sx.pe_4,if_neg H43.out,if_neg ht]
     have HT:=hide ht
     clear ht
     go_wp2_with fail
     refine (zan ⟨#[43]⟩ H43.out HLL.out.rd).mono ?_
     rintro e w2 ⟨rfl,k9,rfl⟩
     go_wp2_with fail
     refine (zan ⟨#[45]⟩ HT.out (by exact HLL.out.rd.drewN _)).mono ?_
     rintro e w2 ⟨rfl,kk,rfl⟩
     go_wp2
     refine bodyPost_ret (v:= .agg #[.int .i64 op,.string nm,.int .i64 k,.slice a len cap]) (by simp [results,Tryz.results189,go_sem,y0,y1,y2,y3]) rfl ?_
     rw [HM.out]
     show Post c [c.rb] w _ (Sx.pe c.e f 4 x s1 r1) _ _
     rw [HR1.out,HP.out,HE.out]
     exact zbj HB.out (HLL.out.drewN (k9+kk)).kp (HLL.out.drewN (k9+kk)).rd ((HLL.out.drewN (k9+kk)).v.base (fun b _ hb=>hb.1))
 ·rw [hm] at hp
  obtain ⟨rfl,hk1⟩:=hp
  refine ⟨rfl,?_⟩
  rw [hm]
  exact ⟨rfl,((Kp.refl _ _).alloc _).trans hk1⟩
end Go.Proofs.YtagblibbngmbdaaGreatDoor
namespace Go.Proofs.YtagblibbngmbdaaGreatDoor
open Go.RowKit
theorem zkd (f:Nat) (h1:Cn f 1 189):Cn (f+1) 0 173:=by
 intro c w n s h hf
 rw [Sx.pe_0] at hf ⊢
 have HF:=hide hf
 have HH:=hide h
 have HB:=hide h.lt
 have HU:=hide h1
 have hr:=h.rlt
 have c6:=h.c6
 have bs6:s.parts≤12000:=by have:=h.b6;omega
 clear h hf h1
 have HA:=hide (fun w h=>at_any c w n s h)
 generalize hpl:Sx.place c.e (c.full.drop n)=pl at *
 have HPL:=hide hpl
 clear hpl
 go_enter Tryz.func173,Tryz.ntmps173
 go_wp2
 go_quiet ((go_at_call 104;exact Calls.quiet_of (HA.out _ (by exact (HH.out.alloc _).drewN _))))
 go_wp2_with fail
 refine (HU.out c _ n s (by exact (HH.out.alloc _).drewN _) (Dry.bnd (Dry.bnd HF.out))).mono ?_
 intro e w1 hp
 rcases hm:Sx.pe c.e f 1 Sx.d0 s (c.full.drop n) with ⟨x,s1,r1⟩|⟨code,p,rest⟩
 ·rw [hm] at hp
  obtain ⟨v,n1,rfl,hv,hr1,hd1,hk1⟩:=hp
  obtain ⟨f1,op1,nm1,k1,L1,a1,len1,cap1,hl1,hx1,rfl,hE1⟩:=hv.open
  have HM:=hide hm
  have HR1:=hide hr1
  have hpm:=(Sx.pe_keeps _ _ _ _ _ _ _ _ _ hm).pm
  have HF1:=hide (Dry.next (Dry.bnd HF.out) hm)
  have hn0:w.heap.size ∉ [c.rb]:=by simp;omega
  have hz1:w.heap.size<w1.heap.size:=by have:=hk1.size;simp at this;omega
  have HS:=hide (LX.start (t:=49) HB.out hz1 ((((Kp.refl _ _).alloc _).drewN _).trans hk1) hd1 (((X4.new _ _ _ _ _ 49).keep ((Kp.refl [] _).drewN _) (by simp)).keep hk1 hn0) (hv.base (P':=fun b=>w.heap.size+1≤b) (fun b _ hb=>by simp at hb;omega)))
  clear hm hr1 hd1 hk1 hv hE1 hx1 hl1
  generalize bs nm1=bn1 at *
  by_cases ht:Sx.txt (c.full.drop n1)=[60]
  ·have hlt:n1<c.full.length:=zbv ht (by simp)
   have HFj:Hid (¬ Dry (Sx.pe c.e f 1 Sx.d0 s1 (c.full.drop (n1+1)))):=by
    have h1:=HF1.out
    rw [HR1.out,if_pos ht,List.tail_drop] at h1
    exact Dry.bnd h1
   have HT:=hide ht
   clear ht
   have hxlt:=HS.out.x.lt
   have hvlt:=HS.out.vlt
   go_wp2_with fail
   refine (zal ⟨#[60]⟩ HT.out HS.out.rd).mono ?_
   rintro e w2 ⟨rfl,kk,rfl⟩
   go_wp2_with fail
   refine (zd5 7 x _ (fun b=>w.heap.size+1≤b∧b ≠ w1.heap.size) c _ n1 s1 (by exact (HS.out.drewN _).rd) hlt (fun b hb=>by simp at hb hxlt;exact ⟨by omega,by omega⟩) (by simp;omega) (by exact (HS.out.drewN _).v) _
    (fun w' hw'=>HU.out c w' (n1+1) s1 hw' HFj.out) (fun y' s1' r1' hm'=>zb0 HS.out.rd HT.out y' s1' r1' hm')).mono ?_
   intro e w3 hp
   rcases hm:Sx.join 7 x (Sx.pe c.e f 1 Sx.d0 s1 (c.full.drop (n1+1))) with ⟨z,s4,r4⟩|⟨code,p,rest⟩
   ·rw [hm] at hp
    obtain ⟨v4,n4,rfl,hv4,hr4,hd4,hk4⟩:=hp
    have hpm4:s1.parts≤s4.parts:=by
     obtain ⟨_,s5,h5,_,rfl⟩:=Sx.join_ok hm
     have:=(Sx.pe_keeps _ _ _ _ _ _ _ _ _ h5).pm
     simp only [Sx.St.part]
     omega
    obtain ⟨f4,op4,nm4,k4,L4,a4,len4,cap4,hl4,hx4,rfl,hE4⟩:=hv4.open
    have HS4:=hide (LX.set (HS.out.drewN (kk)) hk4 hd4 hv4)
    have HM4:=hide hm
    have HR4:=hide hr4
    have hcc:w1.heap.size ∉ [c.rb]:=by have:=HB.out.1;simp;omega
    obtain ⟨X0,X1,X2,X3,XF⟩:=(HS.out.drewN (kk)).x.keep hk4 hcc
    obtain ⟨y0,y1,y2,y3,yf⟩:=(HS.out.drewN (kk)).z.keep hk4 hn0
    have g6:=hd4.c6
    have b4:s4.parts≤12000:=by have:=hd4.b6;omega
    have q1: ¬ c.rb=w1.heap.size:=by omega
    have q2: ¬ w1.heap.size=c.rb:=by omega
    have q3: ¬ w.heap.size=w1.heap.size:=by omega
    have q4: ¬ w1.heap.size=w.heap.size:=by omega
    have hE:Sx.bnd (Sx.bnd (Sx.pe c.e f 1 Sx.d0 s (c.full.drop n)) fun x s1 r1=>if Sx.txt r1=[60] then Sx.join 7 x (Sx.pe c.e f 1 Sx.d0 s1 r1.tail) else if Sx.txt r1=[61,61] then Sx.join 8 x (Sx.pe c.e f 1 Sx.d0 s1 r1.tail) else .inl (x,s1,r1)) (fun z s3 r3=>if 20<s3.parts - s.parts then (.inr (8,pl,r3):Sx.Rs Sx.Tr) else .inl (z,s3,r3))
      =if 20<s4.parts - s.parts then .inr (8,pl,c.full.drop n4) else .inl (z,s4,c.full.drop n4):=by
     rw [HM.out]
     show Sx.bnd (if Sx.txt r1=[60] then _ else _) _=_
     rw [HR1.out,if_pos HT.out,List.tail_drop,HM4.out,HR4.out]
     rfl
    have HE:=hide hE
    clear hm hr4 hd4 hk4 hv4 hE4 hx4 hl4 hE
    generalize bs nm4=bn4 at *
    by_cases h20:20<s4.parts - s.parts
    ·have d1:decide ((20:Int)<(s4.parts:Int) - (s.parts:Int))=true:=by simp;omega
     have H20:=hide h20
     clear h20
     go_wp2
     rw [HE.out,if_pos H20.out]
     exact ⟨rfl,rfl,HS4.out.kp⟩
    ·have d1:decide ((20:Int)<(s4.parts:Int) - (s.parts:Int))=false:=by simp;omega
     have H20:=hide h20
     clear h20
     go_wp2
     refine bodyPost_ret (v:= .agg #[.int .i64 op4,.string bn4,.int .i64 k4,.slice a4 len4 cap4]) (by simp [results,Tryz.results173,go_sem,y0,y1,y2,y3]) rfl ?_
     rw [HE.out,if_neg H20.out]
     exact zbj HB.out HS4.out.kp HS4.out.rd (HS4.out.v.base (fun b _ hb=>hb.1))
   ·rw [hm] at hp
    obtain ⟨rfl,hk4⟩:=hp
    refine ⟨rfl,?_⟩
    rw [HM.out]
    show Post c [c.rb] w _ (Sx.bnd (if Sx.txt r1=[60] then _ else _) _) _ _
    rw [HR1.out,if_pos HT.out,List.tail_drop,hm]
    exact ⟨rfl,(HS.out.drewN _).kp.trans hk4⟩
  ·have H60:=hide ht
   clear ht
   by_cases ht:Sx.txt (c.full.drop n1)=[61,61]
   ·have hlt:n1<c.full.length:=zbv ht (by simp)
    have HFj:Hid (¬ Dry (Sx.pe c.e f 1 Sx.d0 s1 (c.full.drop (n1+1)))):=by
     have h1:=HF1.out
     rw [HR1.out,if_neg H60.out,if_pos ht,List.tail_drop] at h1
     exact Dry.bnd h1
    have HT:=hide ht
    clear ht
    have hxlt:=HS.out.x.lt
    have hvlt:=HS.out.vlt
    go_wp2_with fail
    refine (zan ⟨#[60]⟩ H60.out HS.out.rd).mono ?_
    rintro e w2 ⟨rfl,k9,rfl⟩
    go_wp2_with fail
    refine (zal ⟨#[61,61]⟩ HT.out (by exact HS.out.rd.drewN _)).mono ?_
    rintro e w2 ⟨rfl,kk,rfl⟩
    go_wp2_with fail
    refine (zd5 8 x _ (fun b=>w.heap.size+1≤b∧b ≠ w1.heap.size) c _ n1 s1 (by exact (HS.out.drewN _).rd) hlt (fun b hb=>by simp at hb hxlt;exact ⟨by omega,by omega⟩) (by simp;omega) (by exact (HS.out.drewN _).v) _
     (fun w' hw'=>HU.out c w' (n1+1) s1 hw' HFj.out) (fun y' s1' r1' hm'=>zb0 HS.out.rd HT.out y' s1' r1' hm')).mono ?_
    intro e w3 hp
    rcases hm:Sx.join 8 x (Sx.pe c.e f 1 Sx.d0 s1 (c.full.drop (n1+1))) with ⟨z,s4,r4⟩|⟨code,p,rest⟩
    ·rw [hm] at hp
     obtain ⟨v4,n4,rfl,hv4,hr4,hd4,hk4⟩:=hp
     have hpm4:s1.parts≤s4.parts:=by
      obtain ⟨_,s5,h5,_,rfl⟩:=Sx.join_ok hm
      have:=(Sx.pe_keeps _ _ _ _ _ _ _ _ _ h5).pm
      simp only [Sx.St.part]
      omega
     obtain ⟨f4,op4,nm4,k4,L4,a4,len4,cap4,hl4,hx4,rfl,hE4⟩:=hv4.open
     have HS4:=hide (LX.set (HS.out.drewN (k9+kk)) hk4 hd4 hv4)
     have HM4:=hide hm
     have HR4:=hide hr4
     have hcc:w1.heap.size ∉ [c.rb]:=by have:=HB.out.1;simp;omega
     obtain ⟨X0,X1,X2,X3,XF⟩:=(HS.out.drewN (k9+kk)).x.keep hk4 hcc
     obtain ⟨y0,y1,y2,y3,yf⟩:=(HS.out.drewN (k9+kk)).z.keep hk4 hn0
     have g6:=hd4.c6
     have b4:s4.parts≤12000:=by have:=hd4.b6;omega
     have q1: ¬ c.rb=w1.heap.size:=by omega
     have q2: ¬ w1.heap.size=c.rb:=by omega
     have q3: ¬ w.heap.size=w1.heap.size:=by omega
     have q4: ¬ w1.heap.size=w.heap.size:=by omega
     have hE:Sx.bnd (Sx.bnd (Sx.pe c.e f 1 Sx.d0 s (c.full.drop n)) fun x s1 r1=>if Sx.txt r1=[60] then Sx.join 7 x (Sx.pe c.e f 1 Sx.d0 s1 r1.tail) else if Sx.txt r1=[61,61] then Sx.join 8 x (Sx.pe c.e f 1 Sx.d0 s1 r1.tail) else .inl (x,s1,r1)) (fun z s3 r3=>if 20<s3.parts - s.parts then (.inr (8,pl,r3):Sx.Rs Sx.Tr) else .inl (z,s3,r3))
       =if 20<s4.parts - s.parts then .inr (8,pl,c.full.drop n4) else .inl (z,s4,c.full.drop n4):=by
      rw [HM.out]
      show Sx.bnd (if Sx.txt r1=[60] then _ else _) _=_
      rw [HR1.out,if_neg H60.out,if_pos HT.out,List.tail_drop,HM4.out,HR4.out]
      rfl
     have HE:=hide hE
     clear hm hr4 hd4 hk4 hv4 hE4 hx4 hl4 hE
     generalize bs nm4=bn4 at *
     by_cases h20:20<s4.parts - s.parts
     ·have d1:decide ((20:Int)<(s4.parts:Int) - (s.parts:Int))=true:=by simp;omega
      have H20:=hide h20
      clear h20
      go_wp2
      rw [HE.out,if_pos H20.out]
      exact ⟨rfl,rfl,HS4.out.kp⟩
     ·have d1:decide ((20:Int)<(s4.parts:Int) - (s.parts:Int))=false:=by simp;omega
      have H20:=hide h20
      clear h20
      go_wp2
      refine bodyPost_ret (v:= .agg #[.int .i64 op4,.string bn4,.int .i64 k4,.slice a4 len4 cap4]) (by simp [results,Tryz.results173,go_sem,y0,y1,y2,y3]) rfl ?_
      rw [HE.out,if_neg H20.out]
      exact zbj HB.out HS4.out.kp HS4.out.rd (HS4.out.v.base (fun b _ hb=>hb.1))
    ·rw [hm] at hp
     obtain ⟨rfl,hk4⟩:=hp
     refine ⟨rfl,?_⟩
     rw [HM.out]
     show Post c [c.rb] w _ (Sx.bnd (if Sx.txt r1=[60] then _ else _) _) _ _
     rw [HR1.out,if_neg H60.out,if_pos HT.out,List.tail_drop,hm]
     exact ⟨rfl,(HS.out.drewN _).kp.trans hk4⟩
   ·have HT:=hide ht
    clear ht
    have hxlt:=HS.out.x.lt
    have hvlt:=HS.out.vlt
    have hE:Sx.bnd (Sx.bnd (Sx.pe c.e f 1 Sx.d0 s (c.full.drop n)) fun x s1 r1=>if Sx.txt r1=[60] then Sx.join 7 x (Sx.pe c.e f 1 Sx.d0 s1 r1.tail) else if Sx.txt r1=[61,61] then Sx.join 8 x (Sx.pe c.e f 1 Sx.d0 s1 r1.tail) else .inl (x,s1,r1)) (fun z s3 r3=>if 20<s3.parts - s.parts then (.inr (8,pl,r3):Sx.Rs Sx.Tr) else .inl (z,s3,r3))
      =if 20<s1.parts - s.parts then .inr (8,pl,c.full.drop n1) else .inl (x,s1,c.full.drop n1):=by
     rw [HM.out]
     show Sx.bnd (if Sx.txt r1=[60] then _ else _) _=_
     rw [HR1.out,if_neg H60.out,if_neg HT.out]
     rfl
    have HE:=hide hE
    have b4:s1.parts≤12000:=by have:=HS.out.rd.b6;omega
    clear hE
    go_wp2_with fail
    refine (zan ⟨#[60]⟩ H60.out HS.out.rd).mono ?_
    rintro e w2 ⟨rfl,k9,rfl⟩
    go_wp2_with fail
    refine (zan ⟨#[61,61]⟩ HT.out (by exact HS.out.rd.drewN _)).mono ?_
    rintro e w2 ⟨rfl,kk,rfl⟩
    have g6:=HS.out.rd.c6
    obtain ⟨X0,X1,X2,X3,XF⟩:=HS.out.x
    obtain ⟨y0,y1,y2,y3,yf⟩:=HS.out.z
    have q1: ¬ c.rb=w1.heap.size:=by omega
    have q2: ¬ w1.heap.size=c.rb:=by omega
    have q3: ¬ w.heap.size=w1.heap.size:=by omega
    have q4: ¬ w1.heap.size=w.heap.size:=by omega
    by_cases h20:20<s1.parts - s.parts
    ·have d1:decide ((20:Int)<(s1.parts:Int) - (s.parts:Int))=true:=by simp;omega
     have H20:=hide h20
     clear h20
     go_wp2
     rw [HE.out,if_pos H20.out]
     exact ⟨rfl,rfl,(HS.out.drewN _).kp⟩
    ·have d1:decide ((20:Int)<(s1.parts:Int) - (s.parts:Int))=false:=by simp;omega
     have H20:=hide h20
     clear h20
     go_wp2
     refine bodyPost_ret (v:= .agg #[.int .i64 op1,.string bn1,.int .i64 k1,.slice a1 len1 cap1]) (by simp [results,Tryz.results173,go_sem,y0,y1,y2,y3]) rfl ?_
     rw [HE.out,if_neg H20.out]
     exact zbj HB.out (HS.out.drewN _).kp (HS.out.drewN _).rd ((HS.out.drewN _).v.base (fun b _ hb=>hb.1))
 ·rw [hm] at hp
  obtain ⟨rfl,hk1⟩:=hp
  refine ⟨rfl,?_⟩
  rw [hm]
  exact ⟨rfl,(((Kp.refl _ _).alloc _).drewN _).trans hk1⟩
theorem zfr (f:Nat):Cn f 0 173∧Cn f 1 189∧Cn f 2 198∧Cn f 3 204:=by
 induction f using Nat.strongRecOn with
 |ind f ih=>
  cases f with
  |zero=>
   refine ⟨?_,?_,?_,?_⟩
   all_goals
    intro c w n s h hf
    exact absurd ⟨_,_,rfl⟩ hf
  |succ f=>
   exact ⟨zkd f (ih f (Nat.lt_succ_self _)).2.1,zlt f (fun f' hf'=>(ih f' (by omega)).2.2.1),zfq f (fun f' hf'=>(ih f' (by omega)).2.2.2),zkc f (ih f (Nat.lt_succ_self _)).1 (ih f (Nat.lt_succ_self _)).2.2.2⟩
end Go.Proofs.YtagblibbngmbdaaGreatDoor
set_option maxRecDepth 100000
set_option maxHeartbeats 2000000
namespace Go.Proofs.YtagblibbngmbdaaGreatDoor
open Go.RowKit
theorem ty_eq (e:Nat) (acc:List UInt8) (s:Sx.St) (ts:List Tk.Tok):Sx.ty e acc s ts=
  if Sx.txt ts=Sx.wSend∨Sx.txt ts=Sx.wRecv then (if acc.length=3 then Sx.bad 7 e ts else Sx.ty e (acc++(Sx.txt ts).take 1) s ts.tail) else Sx.bnd (Sx.skp e Sx.wInt s ts) fun _ s r=> .inl (acc++[105],s,r):=by
 cases ts with
 |nil=>rfl
 |cons t r=>rfl
theorem zgy (l:List UInt8) (b:UInt8):bs l++(⟨#[b]⟩:ByteArray)=bs (l++[b]):=by
 apply ByteArray.ext
 rw [ByteArray.data_append]
 simp [bs]
theorem zke {c:Cx} {w:World} {n:Nat} {s:Sx.St} (x:ByteArray) (hx:Sx.txt (c.full.drop n)=x.data.toList) (h:RD c w n s):
  Calls Tryz.prog 111 #[.pointer (some ⟨c.rb,0,none⟩)] w fun e w'=>e= .returned (.string x)∧ ∃ k,w'=w.drewN k:=by
 have:=zbg c w n s h
 rw [hx,show bs x.data.toList=x from by simp [bs]] at this
 exact this
theorem zcu (c:Cx) (w:World) (n:Nat) (s:Sx.St) (h:RD c w n s):
  Calls Tryz.prog 109 #[.pointer (some ⟨c.rb,0,none⟩)] w (Post c [c.rb] w encT (Sx.ty c.e [] s (c.full.drop n))):=by
 have HH:=hide h
 clear h
 go_enter Tryz.func109,Tryz.ntmps109
 go_wp2
 go_loopw [3] (fun t wr=> ∃ (acc:List UInt8) (n2:Nat) (ba:ByteArray),t= .string ba∧Hid (ba=bs acc)∧acc.length≤3∧Hid (Sx.ty c.e [] s (c.full.drop n)=Sx.ty c.e acc s (c.full.drop n2))∧RD c wr n2 s∧Kp [c.rb] w wr) (fun _ wr=>c.full.length - zcj c wr)
 case atStart=>exact ⟨[],n,_,rfl,rfl,by simp,rfl,HH.out,Kp.refl _ _⟩
 case round=>
  obtain ⟨acc,n2,ba,rfl,HBA,hacc,HP,hd,hk⟩:=hrel
  have HD:=hide hd
  have HK:=hide hk
  have HE:=hide (ty_eq c.e acc s (c.full.drop n2))
  have hsz:ba.size=acc.length:=by rw [HBA.out,Lib.size_eq,zat]
  have HSZ:=hide hsz
  clear hd hk hsz
  by_cases hs:Sx.txt (c.full.drop n2)=Sx.wSend
  ·have hlt:n2<c.full.length:=zbv hs (by simp [Sx.wSend])
   have c1:=HD.out.c1
   have f1:=HD.out.fz 1
   have hm:=HD.out.hm
   by_cases h3:acc.length=3
   ·have HX:Hid (Sx.ty c.e acc s (c.full.drop n2)= .inr (7,Sx.place c.e (c.full.drop n2),c.full.drop n2)):=by
     show _=_
     rw [HE.out,if_pos (.inl hs),if_pos h3];rfl
    have hb3:ba.size=3:=by rw [HSZ.out,h3]
    have HS:=hide hs
    clear hs h3
    go_wp2_with fail
    refine (zal ⟨#[115,101,110,100]⟩ HS.out (by exact HD.out)).mono ?_
    rintro e w2 ⟨rfl,k1,rfl⟩
    go_wp2_with fail
    refine (za9 7 c _ n2 s (by exact HD.out.drewN _)).mono ?_
    rintro e w3 ⟨rfl,hb⟩
    go_wp2
    rw [HP.out,HX.out]
    exact ⟨rfl,rfl,(HK.out.drewN _).trans (Kp.of_below hb)⟩
   ·have HX:Hid (Sx.ty c.e acc s (c.full.drop n2)=Sx.ty c.e (acc++[115]) s (c.full.drop (n2+1))):=by
     show _=_
     rw [HE.out,if_pos (.inl hs),if_neg h3,hs,List.tail_drop];rfl
    have hb3:((ba.size:Int) == 3)=false:=by rw [HSZ.out];simp;omega
    have hb4:ba.size≤3:=by rw [HSZ.out];exact hacc
    have hex:(⟨#[115,101,110,100]⟩:ByteArray).extract 0 1=⟨#[115]⟩:=by rfl
    have HCC:Hid (ba++(⟨#[115]⟩:ByteArray)=bs (acc++[115])):=by
     show _=_
     rw [HBA.out]
     exact zgy _ _
    have HS:=hide hs
    clear hs
    go_wp2_with fail
    refine (zal ⟨#[115,101,110,100]⟩ HS.out (by exact HD.out)).mono ?_
    rintro e w2 ⟨rfl,k1,rfl⟩
    go_wp2_with fail
    refine (zke ⟨#[115,101,110,100]⟩ HS.out (by exact HD.out.drewN _)).mono ?_
    rintro e w2 ⟨rfl,k2,rfl⟩
    go_wp2
    have hd9:=(HD.out.drewN (k1+k2)).step hlt
    refine ⟨⟨acc++[115],n2+1,_,rfl,HCC.out,by simp;omega,HP.out.trans HX.out,hd9,Kp.rb (HK.out.drewN _) _ _⟩,?_⟩
    rw [hd9.nx,HD.out.nx]
    omega
  ·have HS0:=hide hs
   clear hs
   by_cases hs:Sx.txt (c.full.drop n2)=Sx.wRecv
   ·have hlt:n2<c.full.length:=zbv hs (by simp [Sx.wRecv])
    have c1:=HD.out.c1
    have f1:=HD.out.fz 1
    have hm:=HD.out.hm
    by_cases h3:acc.length=3
    ·have HX:Hid (Sx.ty c.e acc s (c.full.drop n2)= .inr (7,Sx.place c.e (c.full.drop n2),c.full.drop n2)):=by
      show _=_
      rw [HE.out,if_pos (.inr hs),if_pos h3];rfl
     have hb3:ba.size=3:=by rw [HSZ.out,h3]
     have HS:=hide hs
     clear hs h3
     go_wp2_with fail
     refine (zan ⟨#[115,101,110,100]⟩ HS0.out HD.out).mono ?_
     rintro e w2 ⟨rfl,k9,rfl⟩
     go_wp2_with fail
     refine (zal ⟨#[114,101,99,118]⟩ HS.out (by exact HD.out.drewN _)).mono ?_
     rintro e w2 ⟨rfl,k1,rfl⟩
     go_wp2_with fail
     refine (za9 7 c _ n2 s (by exact HD.out.drewN _)).mono ?_
     rintro e w3 ⟨rfl,hb⟩
     go_wp2
     rw [HP.out,HX.out]
     exact ⟨rfl,rfl,(HK.out.drewN _).trans (Kp.of_below hb)⟩
    ·have HX:Hid (Sx.ty c.e acc s (c.full.drop n2)=Sx.ty c.e (acc++[114]) s (c.full.drop (n2+1))):=by
      show _=_
      rw [HE.out,if_pos (.inr hs),if_neg h3,hs,List.tail_drop];rfl
     have hb3:((ba.size:Int) == 3)=false:=by rw [HSZ.out];simp;omega
     have hb4:ba.size≤3:=by rw [HSZ.out];exact hacc
     have hex:(⟨#[114,101,99,118]⟩:ByteArray).extract 0 1=⟨#[114]⟩:=by rfl
     have HCC:Hid (ba++(⟨#[114]⟩:ByteArray)=bs (acc++[114])):=by
      show _=_
      rw [HBA.out]
      exact zgy _ _
     have HS:=hide hs
     clear hs
     go_wp2_with fail
     refine (zan ⟨#[115,101,110,100]⟩ HS0.out HD.out).mono ?_
     rintro e w2 ⟨rfl,k9,rfl⟩
     go_wp2_with fail
     refine (zal ⟨#[114,101,99,118]⟩ HS.out (by exact HD.out.drewN _)).mono ?_
     rintro e w2 ⟨rfl,k1,rfl⟩
     go_wp2_with fail
     refine (zke ⟨#[114,101,99,118]⟩ HS.out (by exact HD.out.drewN _)).mono ?_
     rintro e w2 ⟨rfl,k2,rfl⟩
     go_wp2
     have hd9:=(HD.out.drewN (k9+k1+k2)).step hlt
     refine ⟨⟨acc++[114],n2+1,_,rfl,HCC.out,by simp;omega,HP.out.trans HX.out,hd9,Kp.rb (HK.out.drewN _) _ _⟩,?_⟩
     rw [hd9.nx,HD.out.nx]
     omega
   ·have HX:Hid (Sx.ty c.e acc s (c.full.drop n2)=Sx.bnd (Sx.skp c.e Sx.wInt s (c.full.drop n2)) fun _ s r=> .inl (acc++[105],s,r)):=by
     show _=_
     rw [HE.out,if_neg (fun h=>h.elim HS0.out hs)]
    have hb4:ba.size≤3:=by rw [HSZ.out];exact hacc
    have HCC:Hid (ba++(⟨#[105]⟩:ByteArray)=bs (acc++[105])):=by
     show _=_
     rw [HBA.out]
     exact zgy _ _
    have HS:=hide hs
    clear hs
    go_wp2_with fail
    refine (zan ⟨#[115,101,110,100]⟩ HS0.out HD.out).mono ?_
    rintro e w2 ⟨rfl,k9,rfl⟩
    go_wp2_with fail
    refine (zan ⟨#[114,101,99,118]⟩ HS.out (by exact HD.out.drewN _)).mono ?_
    rintro e w2 ⟨rfl,k1,rfl⟩
    go_wp2_with fail
    refine (zak ⟨#[105,110,116]⟩ (by simp) c _ n2 s (by exact HD.out.drewN _)).mono ?_
    intro e w3 hp
    rw [show (⟨#[105,110,116]⟩:ByteArray).data.toList=Sx.wInt from rfl] at hp
    rcases hm:Sx.skp c.e Sx.wInt s (c.full.drop n2) with ⟨u,s3,r3⟩|⟨code,p,rest⟩
    ·rw [hm] at hp
     obtain ⟨v3,n3,rfl,hv3,hr3,hd3,hk3⟩:=hp
     have HM:=hide hm
     have HR3:=hide hr3
     have HD3:=hide hd3
     have HK3:=hide hk3
     clear hm hr3 hd3 hk3 hv3
     go_wp2
     go_ret
     rw [HP.out,HX.out,HM.out,HR3.out]
     exact ⟨_,n3,rfl,congrArg Value.string HCC.out,rfl,HD3.out,(HK.out.drewN _).trans HK3.out⟩
    ·rw [hm] at hp
     obtain ⟨rfl,hk3⟩:=hp
     refine ⟨rfl,?_⟩
     rw [HP.out,HX.out,hm]
     exact ⟨rfl,(HK.out.drewN _).trans hk3⟩
end Go.Proofs.YtagblibbngmbdaaGreatDoor
namespace Go.Proofs.YtagblibbngmbdaaGreatDoor
open Go.RowKit
theorem zkf (x:List UInt8) (h:x ∉ Sx.dos):Sx.doOf x=0:=by
 have h1:Sx.dos.idxOf x=Sx.dos.length:=List.idxOf_eq_length h
 unfold Sx.doOf
 rw [h1]
 rfl
theorem zm0 {k:IntKind} {a b:Int} (h:a=b):Ending.returned (.int k a)= .returned (.int k b):=by rw [h]
theorem zbt (x:ByteArray) (w:World):
  Calls Tryz.prog 148 #[.string x] w fun e w'=>e= .returned (.int .i64 (Sx.doOf x.data.toList))∧w'=w:=by
 rw [←Lib.toList_data]
 go_enter Tryz.func148,Tryz.ntmps148
 go_wp2
 all_goals
  go_ret
  refine ⟨zm0 ?_,rfl⟩
  first
  |(simp_all [Sx.doOf,Sx.dos,List.idxOf_cons];done)
  |(rw [zkf _ (by simp_all [Sx.dos])];rfl)
theorem zbr (f:Nat) (c:Cx) (w:World) (n:Nat) (s:Sx.St) (h:RD c w n s) (hf: ¬ Dry (Sx.pe c.e f 0 Sx.d0 s (c.full.drop n))):
  Calls Tryz.prog 170 #[.pointer (some ⟨c.rb,0,none⟩)] w (Post c [c.rb] w (fun w' l v=> ∃ k,EL w' (fun b=>w.heap.size≤b) k l v) (Sx.bnd (Sx.pe c.e f 0 Sx.d0 s (c.full.drop n)) fun x s r=> .inl ([x],s,r))):=by
 have HC:=hide ((zfr f).1 c w n s h hf)
 clear h hf
 generalize Sx.pe c.e f 0 Sx.d0 s (c.full.drop n)=m at *
 go_enter Tryz.func170,Tryz.ntmps170
 go_wp2_with fail
 refine HC.out.mono ?_
 intro e w1 hp
 rcases m with ⟨x,s1,r1⟩|⟨code,p,rest⟩
 ·obtain ⟨v,n1,rfl,hv,hr,hd,hk⟩:=hp
  obtain ⟨f1,op1,nm1,k1,L1,a1,len1,cap1,hl1,hx1,rfl,hE1⟩:=hv.open
  have HR:=hide hr
  have HD:=hide hd
  have HK:=hide hk
  have HE1:=hide hE1
  have HX1:=hide hx1
  clear hr hd hk hE1 hx1 hl1 hv
  generalize hb:bs nm1=bn1 at *
  have HBN:=hide hb
  clear hb
  go_wp2
  go_ret
  refine ⟨_,n1,rfl,⟨f1+1,?_⟩,HR.out,HD.out.alloc _,HK.out.alloc _⟩
  rw [HX1.out]
  have X:=X4.new w1 (.int .i64 op1) (.string bn1) (.int .i64 k1) (.slice a1 len1 cap1) 49
  exact EL.one HK.out.size X.c0 (by rw [HBN.out];exact X.c1) X.c2 X.c3 (HE1.out.keep ((Kp.refl [] _).alloc _) (by simp))
 ·obtain ⟨rfl,hk⟩:=hp
  exact ⟨rfl,rfl,hk⟩
end Go.Proofs.YtagblibbngmbdaaGreatDoor
