import Derived.Test.YtagblibbngmbdaaGreatDoorMad
import Derived.Laws.EntriesVeiled
set_option maxRecDepth 100000
set_option maxHeartbeats 1000000
namespace Go.Proofs.YtagblibbngmbdaaGreatDoor
open Go.RowKit
theorem zaa {S:List Nat} {w w':World} (k:Kp S w w') {b o:Nat} {v:Value} (h:w.cell? ⟨b,o,none⟩=some v) (hn:b ∉ S):w'.cell? ⟨b,o,none⟩=some v:=k.some h hn
theorem zd5 (op:Int) (x:Sx.Tr) (vx:Value) (P:Nat→Prop) (c:Cx) (w:World) (n:Nat) (s:Sx.St) (h:RD c w n s) (hlt:n<c.full.length) (hB: ∀ b,w.heap.size≤b→P b) (hcB: ¬ P c.rb) (hx:EV w P x vx) (m:Sx.Rs Sx.Tr)
  (hK: ∀ w',RD c w' (n+1) s→Calls Tryz.prog 189 #[.pointer (some ⟨c.rb,0,none⟩)] w' (Post c [c.rb] w' (fun w''=>EV w'' (fun b=>w'.heap.size≤b)) m))
  (hm: ∀ y s1 r1,m= .inl (y,s1,r1)→s1.parts+1+r1.length≤12000):
  Calls Tryz.prog 190 #[.pointer (some ⟨c.rb,0,none⟩),.int .i64 op,vx,.func (.func 189) #[.pointer (some ⟨c.rb,0,none⟩)] #[]] w (Post c [c.rb] w (fun w'=>EV w' P) (Sx.join op x m)):=by
 have HX:=hide hx
 obtain ⟨f1,op1,nm1,k1,L1,a1,len1,cap1,hl1,hx1,rfl,hE1⟩:=hx.open
 have HH:=hide h
 have HK:=hide hK
 have HM:=hide hm
 have HE1:=hide hE1
 have HPB:=hide hB
 have HCP:=hide hcB
 have HX1:=hide hx1
 have HL1:=hide hl1
 have c1:=h.c1
 have z1:=h.fz 1
 have hmm:=h.hm
 have hr:=h.rlt
 have hr': ¬ c.rb=w.heap.size:=by omega
 have hr2: ¬ c.rb=w.heap.size+1:=by omega
 clear h hK hm hE1 hx1 hl1 hx hB hcB
 generalize hbn1:bs nm1=bn1 at *
 have HN1:=hide hbn1
 clear hbn1
 go_enter Tryz.func190,Tryz.ntmps190
 go_wp2_with fail
 refine (HK.out _ (by exact ((HH.out.step hlt).alloc _).alloc _)).mono ?_
 intro e w1 hp
 rcases m with ⟨y,s1,r1⟩|⟨code,p,rest⟩
 ·obtain ⟨v,n1,rfl,hv,hr1,hd,hk⟩:=hp
  obtain ⟨f2,op2,nm2,k2,L2,a2,len2,cap2,hl2,hx2,rfl,hE2⟩:=hv.open
  simp only [World.size_alloc,World.size_setCell] at hE2
  have HR1:=hide hr1
  have HD1:=hide hd
  have HE2:=hide hE2
  have HX2:=hide hx2
  have HL2:=hide hl2
  have hz:=hk.size
  simp at hz
  have hz0:w.heap.size<w1.heap.size:=by omega
  have hz1:w.heap.size+1<w1.heap.size:=by omega
  have hz2: ¬ w.heap.size=w1.heap.size:=by omega
  have hz3: ¬ w.heap.size+1=w1.heap.size:=by omega
  have hcn:w.heap.size ∉ [c.rb]:=by simp;omega
  have hcn2:w.heap.size+1 ∉ [c.rb]:=by simp;omega
  have p0:w1.cell? ⟨w.heap.size,0,none⟩=some (.int .i64 op1):=zaa hk (by simp [go_sem]) hcn
  have p1:w1.cell? ⟨w.heap.size,1,none⟩=some (.string bn1):=zaa hk (by simp [go_sem]) hcn
  have p2:w1.cell? ⟨w.heap.size,2,none⟩=some (.int .i64 k1):=zaa hk (by simp [go_sem]) hcn
  have p3:w1.cell? ⟨w.heap.size,3,none⟩=some (.slice a1 len1 cap1):=zaa hk (by simp [go_sem]) hcn
  have q0:w1.cell? ⟨w.heap.size+1,0,none⟩=some (.int .i64 0):=zaa hk (by simp [go_sem]) hcn2
  have q1:w1.cell? ⟨w.heap.size+1,1,none⟩=some (.string ⟨#[]⟩):=zaa hk (by simp [go_sem]) hcn2
  have q2:w1.cell? ⟨w.heap.size+1,2,none⟩=some (.int .i64 0):=zaa hk (by simp [go_sem]) hcn2
  have q3:w1.cell? ⟨w.heap.size+1,3,none⟩=some (.slice none 0 0):=zaa hk (by simp [go_sem]) hcn2
  have g: ∀ o,w1.frozen? ⟨w.heap.size+1,o,none⟩=false:=fun o=>by
   rw [hk.frozen (p:=⟨w.heap.size+1,o,none⟩) (by simp) hcn2];simp [go_sem]
  have HK1:Hid (Kp [c.rb] w w1):=((((Kp.refl _ _).rb _ _).alloc _).alloc _).trans hk
  clear hk hv hr1 hd hE2 hx2 hl2
  generalize hbn2:bs nm2=bn2 at *
  have HN2:=hide hbn2
  clear hbn2
  go_wp2_with fail
  have hlen:s1.parts+1+(c.full.length - n1)≤12000:=by
   have h1:=HM.out _ _ _ rfl
   rw [HR1.out,List.length_drop] at h1
   exact h1
  refine (zb4 op ⟨#[]⟩ 0 (some ⟨w1.heap.size+1,0,none⟩) 2 2 c _ n1 s1 (by exact (HD1.out.alloc _).alloc _) hlen).mono ?_
  rintro e w3 ⟨rfl,hd3,hk3⟩
  have hz3':=hk3.size
  simp at hz3'
  have y0:w3.cell? ⟨w.heap.size+1,0,none⟩=some (.int .i64 0):=zaa hk3 (zaa (((Kp.refl [] _).alloc _).alloc _) q0 (by simp)) hcn2
  have y1:w3.cell? ⟨w.heap.size+1,1,none⟩=some (.string ⟨#[]⟩):=zaa hk3 (zaa (((Kp.refl [] _).alloc _).alloc _) q1 (by simp)) hcn2
  have y2:w3.cell? ⟨w.heap.size+1,2,none⟩=some (.int .i64 0):=zaa hk3 (zaa (((Kp.refl [] _).alloc _).alloc _) q2 (by simp)) hcn2
  have y3:w3.cell? ⟨w.heap.size+1,3,none⟩=some (.slice none 0 0):=zaa hk3 (zaa (((Kp.refl [] _).alloc _).alloc _) q3 (by simp)) hcn2
  have gy: ∀ o,w3.frozen? ⟨w.heap.size+1,o,none⟩=false:=fun o=>by
   rw [hk3.frozen (p:=⟨w.heap.size+1,o,none⟩) (by simp;omega) hcn2,(((Kp.refl [] w1).alloc _).alloc _).frozen (p:=⟨w.heap.size+1,o,none⟩) hz1 (by simp)];exact g o
  have HD3:=hide hd3
  have HK3:=hide hk3
  clear hd3 hk3 q0 q1 q2 q3 g p0 p1 p2 p3
  go_wp2
  refine bodyPost_ret (v:= .agg #[.int .i64 op,.string ⟨#[]⟩,.int .i64 0,.slice (some ⟨w1.heap.size+1,0,none⟩) 2 2]) (by simp [results,Tryz.results190,go_sem,y0,y1,y2,y3]) rfl ?_
  have HB:=HH.out.lt
  have ke:Kp [c.rb] w ((((w3.setCell ⟨w.heap.size+1,0,none⟩ (.int .i64 op)).setCell ⟨w.heap.size+1,1,none⟩ (.string ⟨#[]⟩)).setCell ⟨w.heap.size+1,2,none⟩ (.int .i64 0)).setCell ⟨w.heap.size+1,3,none⟩ (.slice (some ⟨w1.heap.size+1,0,none⟩) 2 2)):=by
   refine Kp.nb (Kp.nb (Kp.nb (Kp.nb ?_ (Nat.le_succ _) _ _) (Nat.le_succ _) _ _) (Nat.le_succ _) _ _) (Nat.le_succ _) _ _
   exact ((HK1.out.alloc _).alloc _).trans HK3.out
  have kb:Kp [w.heap.size+1,c.rb] w1 ((((w3.setCell ⟨w.heap.size+1,0,none⟩ (.int .i64 op)).setCell ⟨w.heap.size+1,1,none⟩ (.string ⟨#[]⟩)).setCell ⟨w.heap.size+1,2,none⟩ (.int .i64 0)).setCell ⟨w.heap.size+1,3,none⟩ (.slice (some ⟨w1.heap.size+1,0,none⟩) 2 2)):=by
   refine Kp.rb (Kp.rb (Kp.rb (Kp.rb ?_ _ _) _ _) _ _) _ _
   exact (((Kp.refl _ _).alloc _).alloc _).trans (HK3.out.mono (by simp))
  have kc:Kp [w.heap.size+1,c.rb] ((w1.alloc (.cells #[.int .i64 op2,.string bn2,.int .i64 k2,.slice a2 len2 cap2] 49)).alloc (.cells #[.int .i64 op1,.string bn1,.int .i64 k1,.slice a1 len1 cap1,.int .i64 op2,.string bn2,.int .i64 k2,.slice a2 len2 cap2] 49))
    ((((w3.setCell ⟨w.heap.size+1,0,none⟩ (.int .i64 op)).setCell ⟨w.heap.size+1,1,none⟩ (.string ⟨#[]⟩)).setCell ⟨w.heap.size+1,2,none⟩ (.int .i64 0)).setCell ⟨w.heap.size+1,3,none⟩ (.slice (some ⟨w1.heap.size+1,0,none⟩) 2 2)):=by
   refine Kp.rb (Kp.rb (Kp.rb (Kp.rb ?_ _ _) _ _) _ _) _ _
   exact HK3.out.mono (by simp)
  have hn:w1.heap.size+1 ∉ [w.heap.size+1,c.rb]:=by simp;omega
  have e1:Sx.join op x (.inl (y,s1,r1))= .inl (Sx.tE op [] 0 [x,y],s1.part,c.full.drop n1):=by rw [HR1.out];rfl
  rw [e1]
  refine ⟨_,n1,rfl,?_,rfl,?_,ke⟩
  ·refine ⟨f1+f2+1,op,[],0,[x,y],_,2,rfl,rfl,?_⟩
   rw [HX1.out,HX2.out]
   refine EL.two (u1:= .slice a1 len1 cap1) (u2:= .slice a2 len2 cap2) (HPB.out _ (by omega)) (zaa kc ?_ hn) (zaa kc ?_ hn) (zaa kc ?_ hn) (zaa kc ?_ hn) (zaa kc ?_ hn) (zaa kc ?_ hn) (zaa kc ?_ hn) (zaa kc ?_ hn)
    ((HE1.out.keep ke (by simpa using HCP.out)).more f2) ?_
   ·simp [go_sem]
   ·simp [go_sem,HN1.out]
   ·simp [go_sem]
   ·simp [go_sem]
   ·simp [go_sem]
   ·simp [go_sem,HN2.out]
   ·simp [go_sem]
   ·simp [go_sem]
   ·rw [Nat.add_comm f1 f2]
    exact ((HE2.out.keep kb (by simp;omega)).base (fun b _ hb=>HPB.out b (by omega))).more f1
  ·exact (((HD3.out.set_new HB (Nat.le_succ _) _).set_new HB (Nat.le_succ _) _).set_new HB (Nat.le_succ _) _).set_new HB (Nat.le_succ _) _
 ·obtain ⟨rfl,hk⟩:=hp
  exact ⟨rfl,rfl,((((Kp.refl _ _).rb _ _).alloc _).alloc _).trans hk⟩
theorem zde (op:Int) (x:Sx.Tr) (vx:Value) (P:Nat→Prop) (c:Cx) (w:World) (n:Nat) (s:Sx.St) (h:RD c w n s) (hlt:n<c.full.length) (hB: ∀ b,w.heap.size≤b→P b) (hcB: ¬ P c.rb) (hx:EV w P x vx) (m:Sx.Rs Sx.Tr)
  (hK: ∀ w',RD c w' (n+1) s→Calls Tryz.prog 198 #[.pointer (some ⟨c.rb,0,none⟩)] w' (Post c [c.rb] w' (fun w''=>EV w'' (fun b=>w'.heap.size≤b)) m))
  (hm: ∀ y s1 r1,m= .inl (y,s1,r1)→s1.parts+1+r1.length≤12000):
  Calls Tryz.prog 190 #[.pointer (some ⟨c.rb,0,none⟩),.int .i64 op,vx,.func (.func 198) #[.pointer (some ⟨c.rb,0,none⟩)] #[]] w (Post c [c.rb] w (fun w'=>EV w' P) (Sx.join op x m)):=by
 have HX:=hide hx
 obtain ⟨f1,op1,nm1,k1,L1,a1,len1,cap1,hl1,hx1,rfl,hE1⟩:=hx.open
 have HH:=hide h
 have HK:=hide hK
 have HM:=hide hm
 have HE1:=hide hE1
 have HPB:=hide hB
 have HCP:=hide hcB
 have HX1:=hide hx1
 have HL1:=hide hl1
 have c1:=h.c1
 have z1:=h.fz 1
 have hmm:=h.hm
 have hr:=h.rlt
 have hr': ¬ c.rb=w.heap.size:=by omega
 have hr2: ¬ c.rb=w.heap.size+1:=by omega
 clear h hK hm hE1 hx1 hl1 hx hB hcB
 generalize hbn1:bs nm1=bn1 at *
 have HN1:=hide hbn1
 clear hbn1
 go_enter Tryz.func190,Tryz.ntmps190
 go_wp2_with fail
 refine (HK.out _ (by exact ((HH.out.step hlt).alloc _).alloc _)).mono ?_
 intro e w1 hp
 rcases m with ⟨y,s1,r1⟩|⟨code,p,rest⟩
 ·obtain ⟨v,n1,rfl,hv,hr1,hd,hk⟩:=hp
  obtain ⟨f2,op2,nm2,k2,L2,a2,len2,cap2,hl2,hx2,rfl,hE2⟩:=hv.open
  simp only [World.size_alloc,World.size_setCell] at hE2
  have HR1:=hide hr1
  have HD1:=hide hd
  have HE2:=hide hE2
  have HX2:=hide hx2
  have HL2:=hide hl2
  have hz:=hk.size
  simp at hz
  have hz0:w.heap.size<w1.heap.size:=by omega
  have hz1:w.heap.size+1<w1.heap.size:=by omega
  have hz2: ¬ w.heap.size=w1.heap.size:=by omega
  have hz3: ¬ w.heap.size+1=w1.heap.size:=by omega
  have hcn:w.heap.size ∉ [c.rb]:=by simp;omega
  have hcn2:w.heap.size+1 ∉ [c.rb]:=by simp;omega
  have p0:w1.cell? ⟨w.heap.size,0,none⟩=some (.int .i64 op1):=zaa hk (by simp [go_sem]) hcn
  have p1:w1.cell? ⟨w.heap.size,1,none⟩=some (.string bn1):=zaa hk (by simp [go_sem]) hcn
  have p2:w1.cell? ⟨w.heap.size,2,none⟩=some (.int .i64 k1):=zaa hk (by simp [go_sem]) hcn
  have p3:w1.cell? ⟨w.heap.size,3,none⟩=some (.slice a1 len1 cap1):=zaa hk (by simp [go_sem]) hcn
  have q0:w1.cell? ⟨w.heap.size+1,0,none⟩=some (.int .i64 0):=zaa hk (by simp [go_sem]) hcn2
  have q1:w1.cell? ⟨w.heap.size+1,1,none⟩=some (.string ⟨#[]⟩):=zaa hk (by simp [go_sem]) hcn2
  have q2:w1.cell? ⟨w.heap.size+1,2,none⟩=some (.int .i64 0):=zaa hk (by simp [go_sem]) hcn2
  have q3:w1.cell? ⟨w.heap.size+1,3,none⟩=some (.slice none 0 0):=zaa hk (by simp [go_sem]) hcn2
  have g: ∀ o,w1.frozen? ⟨w.heap.size+1,o,none⟩=false:=fun o=>by
   rw [hk.frozen (p:=⟨w.heap.size+1,o,none⟩) (by simp) hcn2];simp [go_sem]
  have HK1:Hid (Kp [c.rb] w w1):=((((Kp.refl _ _).rb _ _).alloc _).alloc _).trans hk
  clear hk hv hr1 hd hE2 hx2 hl2
  generalize hbn2:bs nm2=bn2 at *
  have HN2:=hide hbn2
  clear hbn2
  go_wp2_with fail
  have hlen:s1.parts+1+(c.full.length - n1)≤12000:=by
   have h1:=HM.out _ _ _ rfl
   rw [HR1.out,List.length_drop] at h1
   exact h1
  refine (zb4 op ⟨#[]⟩ 0 (some ⟨w1.heap.size+1,0,none⟩) 2 2 c _ n1 s1 (by exact (HD1.out.alloc _).alloc _) hlen).mono ?_
  rintro e w3 ⟨rfl,hd3,hk3⟩
  have hz3':=hk3.size
  simp at hz3'
  have y0:w3.cell? ⟨w.heap.size+1,0,none⟩=some (.int .i64 0):=zaa hk3 (zaa (((Kp.refl [] _).alloc _).alloc _) q0 (by simp)) hcn2
  have y1:w3.cell? ⟨w.heap.size+1,1,none⟩=some (.string ⟨#[]⟩):=zaa hk3 (zaa (((Kp.refl [] _).alloc _).alloc _) q1 (by simp)) hcn2
  have y2:w3.cell? ⟨w.heap.size+1,2,none⟩=some (.int .i64 0):=zaa hk3 (zaa (((Kp.refl [] _).alloc _).alloc _) q2 (by simp)) hcn2
  have y3:w3.cell? ⟨w.heap.size+1,3,none⟩=some (.slice none 0 0):=zaa hk3 (zaa (((Kp.refl [] _).alloc _).alloc _) q3 (by simp)) hcn2
  have gy: ∀ o,w3.frozen? ⟨w.heap.size+1,o,none⟩=false:=fun o=>by
   rw [hk3.frozen (p:=⟨w.heap.size+1,o,none⟩) (by simp;omega) hcn2,(((Kp.refl [] w1).alloc _).alloc _).frozen (p:=⟨w.heap.size+1,o,none⟩) hz1 (by simp)];exact g o
  have HD3:=hide hd3
  have HK3:=hide hk3
  clear hd3 hk3 q0 q1 q2 q3 g p0 p1 p2 p3
  go_wp2
  refine bodyPost_ret (v:= .agg #[.int .i64 op,.string ⟨#[]⟩,.int .i64 0,.slice (some ⟨w1.heap.size+1,0,none⟩) 2 2]) (by simp [results,Tryz.results190,go_sem,y0,y1,y2,y3]) rfl ?_
  have HB:=HH.out.lt
  have ke:Kp [c.rb] w ((((w3.setCell ⟨w.heap.size+1,0,none⟩ (.int .i64 op)).setCell ⟨w.heap.size+1,1,none⟩ (.string ⟨#[]⟩)).setCell ⟨w.heap.size+1,2,none⟩ (.int .i64 0)).setCell ⟨w.heap.size+1,3,none⟩ (.slice (some ⟨w1.heap.size+1,0,none⟩) 2 2)):=by
   refine Kp.nb (Kp.nb (Kp.nb (Kp.nb ?_ (Nat.le_succ _) _ _) (Nat.le_succ _) _ _) (Nat.le_succ _) _ _) (Nat.le_succ _) _ _
   exact ((HK1.out.alloc _).alloc _).trans HK3.out
  have kb:Kp [w.heap.size+1,c.rb] w1 ((((w3.setCell ⟨w.heap.size+1,0,none⟩ (.int .i64 op)).setCell ⟨w.heap.size+1,1,none⟩ (.string ⟨#[]⟩)).setCell ⟨w.heap.size+1,2,none⟩ (.int .i64 0)).setCell ⟨w.heap.size+1,3,none⟩ (.slice (some ⟨w1.heap.size+1,0,none⟩) 2 2)):=by
   refine Kp.rb (Kp.rb (Kp.rb (Kp.rb ?_ _ _) _ _) _ _) _ _
   exact (((Kp.refl _ _).alloc _).alloc _).trans (HK3.out.mono (by simp))
  have kc:Kp [w.heap.size+1,c.rb] ((w1.alloc (.cells #[.int .i64 op2,.string bn2,.int .i64 k2,.slice a2 len2 cap2] 49)).alloc (.cells #[.int .i64 op1,.string bn1,.int .i64 k1,.slice a1 len1 cap1,.int .i64 op2,.string bn2,.int .i64 k2,.slice a2 len2 cap2] 49))
    ((((w3.setCell ⟨w.heap.size+1,0,none⟩ (.int .i64 op)).setCell ⟨w.heap.size+1,1,none⟩ (.string ⟨#[]⟩)).setCell ⟨w.heap.size+1,2,none⟩ (.int .i64 0)).setCell ⟨w.heap.size+1,3,none⟩ (.slice (some ⟨w1.heap.size+1,0,none⟩) 2 2)):=by
   refine Kp.rb (Kp.rb (Kp.rb (Kp.rb ?_ _ _) _ _) _ _) _ _
   exact HK3.out.mono (by simp)
  have hn:w1.heap.size+1 ∉ [w.heap.size+1,c.rb]:=by simp;omega
  have e1:Sx.join op x (.inl (y,s1,r1))= .inl (Sx.tE op [] 0 [x,y],s1.part,c.full.drop n1):=by rw [HR1.out];rfl
  rw [e1]
  refine ⟨_,n1,rfl,?_,rfl,?_,ke⟩
  ·refine ⟨f1+f2+1,op,[],0,[x,y],_,2,rfl,rfl,?_⟩
   rw [HX1.out,HX2.out]
   refine EL.two (u1:= .slice a1 len1 cap1) (u2:= .slice a2 len2 cap2) (HPB.out _ (by omega)) (zaa kc ?_ hn) (zaa kc ?_ hn) (zaa kc ?_ hn) (zaa kc ?_ hn) (zaa kc ?_ hn) (zaa kc ?_ hn) (zaa kc ?_ hn) (zaa kc ?_ hn)
    ((HE1.out.keep ke (by simpa using HCP.out)).more f2) ?_
   ·simp [go_sem]
   ·simp [go_sem,HN1.out]
   ·simp [go_sem]
   ·simp [go_sem]
   ·simp [go_sem]
   ·simp [go_sem,HN2.out]
   ·simp [go_sem]
   ·simp [go_sem]
   ·rw [Nat.add_comm f1 f2]
    exact ((HE2.out.keep kb (by simp;omega)).base (fun b _ hb=>HPB.out b (by omega))).more f1
  ·exact (((HD3.out.set_new HB (Nat.le_succ _) _).set_new HB (Nat.le_succ _) _).set_new HB (Nat.le_succ _) _).set_new HB (Nat.le_succ _) _
 ·obtain ⟨rfl,hk⟩:=hp
  exact ⟨rfl,rfl,((((Kp.refl _ _).rb _ _).alloc _).alloc _).trans hk⟩
theorem zgw (op:Int) (x:Sx.Tr) (vx:Value) (P:Nat→Prop) (c:Cx) (w:World) (n:Nat) (s:Sx.St) (h:RD c w n s) (hlt:n<c.full.length) (hB: ∀ b,w.heap.size≤b→P b) (hcB: ¬ P c.rb) (hx:EV w P x vx) (m:Sx.Rs Sx.Tr)
  (hK: ∀ w',RD c w' (n+1) s→Calls Tryz.prog 204 #[.pointer (some ⟨c.rb,0,none⟩)] w' (Post c [c.rb] w' (fun w''=>EV w'' (fun b=>w'.heap.size≤b)) m))
  (hm: ∀ y s1 r1,m= .inl (y,s1,r1)→s1.parts+1+r1.length≤12000):
  Calls Tryz.prog 190 #[.pointer (some ⟨c.rb,0,none⟩),.int .i64 op,vx,.func (.func 204) #[.pointer (some ⟨c.rb,0,none⟩)] #[]] w (Post c [c.rb] w (fun w'=>EV w' P) (Sx.join op x m)):=by
 have HX:=hide hx
 obtain ⟨f1,op1,nm1,k1,L1,a1,len1,cap1,hl1,hx1,rfl,hE1⟩:=hx.open
 have HH:=hide h
 have HK:=hide hK
 have HM:=hide hm
 have HE1:=hide hE1
 have HPB:=hide hB
 have HCP:=hide hcB
 have HX1:=hide hx1
 have HL1:=hide hl1
 have c1:=h.c1
 have z1:=h.fz 1
 have hmm:=h.hm
 have hr:=h.rlt
 have hr': ¬ c.rb=w.heap.size:=by omega
 have hr2: ¬ c.rb=w.heap.size+1:=by omega
 clear h hK hm hE1 hx1 hl1 hx hB hcB
 generalize hbn1:bs nm1=bn1 at *
 have HN1:=hide hbn1
 clear hbn1
 go_enter Tryz.func190,Tryz.ntmps190
 go_wp2_with fail
 refine (HK.out _ (by exact ((HH.out.step hlt).alloc _).alloc _)).mono ?_
 intro e w1 hp
 rcases m with ⟨y,s1,r1⟩|⟨code,p,rest⟩
 ·obtain ⟨v,n1,rfl,hv,hr1,hd,hk⟩:=hp
  obtain ⟨f2,op2,nm2,k2,L2,a2,len2,cap2,hl2,hx2,rfl,hE2⟩:=hv.open
  simp only [World.size_alloc,World.size_setCell] at hE2
  have HR1:=hide hr1
  have HD1:=hide hd
  have HE2:=hide hE2
  have HX2:=hide hx2
  have HL2:=hide hl2
  have hz:=hk.size
  simp at hz
  have hz0:w.heap.size<w1.heap.size:=by omega
  have hz1:w.heap.size+1<w1.heap.size:=by omega
  have hz2: ¬ w.heap.size=w1.heap.size:=by omega
  have hz3: ¬ w.heap.size+1=w1.heap.size:=by omega
  have hcn:w.heap.size ∉ [c.rb]:=by simp;omega
  have hcn2:w.heap.size+1 ∉ [c.rb]:=by simp;omega
  have p0:w1.cell? ⟨w.heap.size,0,none⟩=some (.int .i64 op1):=zaa hk (by simp [go_sem]) hcn
  have p1:w1.cell? ⟨w.heap.size,1,none⟩=some (.string bn1):=zaa hk (by simp [go_sem]) hcn
  have p2:w1.cell? ⟨w.heap.size,2,none⟩=some (.int .i64 k1):=zaa hk (by simp [go_sem]) hcn
  have p3:w1.cell? ⟨w.heap.size,3,none⟩=some (.slice a1 len1 cap1):=zaa hk (by simp [go_sem]) hcn
  have q0:w1.cell? ⟨w.heap.size+1,0,none⟩=some (.int .i64 0):=zaa hk (by simp [go_sem]) hcn2
  have q1:w1.cell? ⟨w.heap.size+1,1,none⟩=some (.string ⟨#[]⟩):=zaa hk (by simp [go_sem]) hcn2
  have q2:w1.cell? ⟨w.heap.size+1,2,none⟩=some (.int .i64 0):=zaa hk (by simp [go_sem]) hcn2
  have q3:w1.cell? ⟨w.heap.size+1,3,none⟩=some (.slice none 0 0):=zaa hk (by simp [go_sem]) hcn2
  have g: ∀ o,w1.frozen? ⟨w.heap.size+1,o,none⟩=false:=fun o=>by
   rw [hk.frozen (p:=⟨w.heap.size+1,o,none⟩) (by simp) hcn2];simp [go_sem]
  have HK1:Hid (Kp [c.rb] w w1):=((((Kp.refl _ _).rb _ _).alloc _).alloc _).trans hk
  clear hk hv hr1 hd hE2 hx2 hl2
  generalize hbn2:bs nm2=bn2 at *
  have HN2:=hide hbn2
  clear hbn2
  go_wp2_with fail
  have hlen:s1.parts+1+(c.full.length - n1)≤12000:=by
   have h1:=HM.out _ _ _ rfl
   rw [HR1.out,List.length_drop] at h1
   exact h1
  refine (zb4 op ⟨#[]⟩ 0 (some ⟨w1.heap.size+1,0,none⟩) 2 2 c _ n1 s1 (by exact (HD1.out.alloc _).alloc _) hlen).mono ?_
  rintro e w3 ⟨rfl,hd3,hk3⟩
  have hz3':=hk3.size
  simp at hz3'
  have y0:w3.cell? ⟨w.heap.size+1,0,none⟩=some (.int .i64 0):=zaa hk3 (zaa (((Kp.refl [] _).alloc _).alloc _) q0 (by simp)) hcn2
  have y1:w3.cell? ⟨w.heap.size+1,1,none⟩=some (.string ⟨#[]⟩):=zaa hk3 (zaa (((Kp.refl [] _).alloc _).alloc _) q1 (by simp)) hcn2
  have y2:w3.cell? ⟨w.heap.size+1,2,none⟩=some (.int .i64 0):=zaa hk3 (zaa (((Kp.refl [] _).alloc _).alloc _) q2 (by simp)) hcn2
  have y3:w3.cell? ⟨w.heap.size+1,3,none⟩=some (.slice none 0 0):=zaa hk3 (zaa (((Kp.refl [] _).alloc _).alloc _) q3 (by simp)) hcn2
  have gy: ∀ o,w3.frozen? ⟨w.heap.size+1,o,none⟩=false:=fun o=>by
   rw [hk3.frozen (p:=⟨w.heap.size+1,o,none⟩) (by simp;omega) hcn2,(((Kp.refl [] w1).alloc _).alloc _).frozen (p:=⟨w.heap.size+1,o,none⟩) hz1 (by simp)];exact g o
  have HD3:=hide hd3
  have HK3:=hide hk3
  clear hd3 hk3 q0 q1 q2 q3 g p0 p1 p2 p3
  go_wp2
  refine bodyPost_ret (v:= .agg #[.int .i64 op,.string ⟨#[]⟩,.int .i64 0,.slice (some ⟨w1.heap.size+1,0,none⟩) 2 2]) (by simp [results,Tryz.results190,go_sem,y0,y1,y2,y3]) rfl ?_
  have HB:=HH.out.lt
  have ke:Kp [c.rb] w ((((w3.setCell ⟨w.heap.size+1,0,none⟩ (.int .i64 op)).setCell ⟨w.heap.size+1,1,none⟩ (.string ⟨#[]⟩)).setCell ⟨w.heap.size+1,2,none⟩ (.int .i64 0)).setCell ⟨w.heap.size+1,3,none⟩ (.slice (some ⟨w1.heap.size+1,0,none⟩) 2 2)):=by
   refine Kp.nb (Kp.nb (Kp.nb (Kp.nb ?_ (Nat.le_succ _) _ _) (Nat.le_succ _) _ _) (Nat.le_succ _) _ _) (Nat.le_succ _) _ _
   exact ((HK1.out.alloc _).alloc _).trans HK3.out
  have kb:Kp [w.heap.size+1,c.rb] w1 ((((w3.setCell ⟨w.heap.size+1,0,none⟩ (.int .i64 op)).setCell ⟨w.heap.size+1,1,none⟩ (.string ⟨#[]⟩)).setCell ⟨w.heap.size+1,2,none⟩ (.int .i64 0)).setCell ⟨w.heap.size+1,3,none⟩ (.slice (some ⟨w1.heap.size+1,0,none⟩) 2 2)):=by
   refine Kp.rb (Kp.rb (Kp.rb (Kp.rb ?_ _ _) _ _) _ _) _ _
   exact (((Kp.refl _ _).alloc _).alloc _).trans (HK3.out.mono (by simp))
  have kc:Kp [w.heap.size+1,c.rb] ((w1.alloc (.cells #[.int .i64 op2,.string bn2,.int .i64 k2,.slice a2 len2 cap2] 49)).alloc (.cells #[.int .i64 op1,.string bn1,.int .i64 k1,.slice a1 len1 cap1,.int .i64 op2,.string bn2,.int .i64 k2,.slice a2 len2 cap2] 49))
    ((((w3.setCell ⟨w.heap.size+1,0,none⟩ (.int .i64 op)).setCell ⟨w.heap.size+1,1,none⟩ (.string ⟨#[]⟩)).setCell ⟨w.heap.size+1,2,none⟩ (.int .i64 0)).setCell ⟨w.heap.size+1,3,none⟩ (.slice (some ⟨w1.heap.size+1,0,none⟩) 2 2)):=by
   refine Kp.rb (Kp.rb (Kp.rb (Kp.rb ?_ _ _) _ _) _ _) _ _
   exact HK3.out.mono (by simp)
  have hn:w1.heap.size+1 ∉ [w.heap.size+1,c.rb]:=by simp;omega
  have e1:Sx.join op x (.inl (y,s1,r1))= .inl (Sx.tE op [] 0 [x,y],s1.part,c.full.drop n1):=by rw [HR1.out];rfl
  rw [e1]
  refine ⟨_,n1,rfl,?_,rfl,?_,ke⟩
  ·refine ⟨f1+f2+1,op,[],0,[x,y],_,2,rfl,rfl,?_⟩
   rw [HX1.out,HX2.out]
   refine EL.two (u1:= .slice a1 len1 cap1) (u2:= .slice a2 len2 cap2) (HPB.out _ (by omega)) (zaa kc ?_ hn) (zaa kc ?_ hn) (zaa kc ?_ hn) (zaa kc ?_ hn) (zaa kc ?_ hn) (zaa kc ?_ hn) (zaa kc ?_ hn) (zaa kc ?_ hn)
    ((HE1.out.keep ke (by simpa using HCP.out)).more f2) ?_
   ·simp [go_sem]
   ·simp [go_sem,HN1.out]
   ·simp [go_sem]
   ·simp [go_sem]
   ·simp [go_sem]
   ·simp [go_sem,HN2.out]
   ·simp [go_sem]
   ·simp [go_sem]
   ·rw [Nat.add_comm f1 f2]
    exact ((HE2.out.keep kb (by simp;omega)).base (fun b _ hb=>HPB.out b (by omega))).more f1
  ·exact (((HD3.out.set_new HB (Nat.le_succ _) _).set_new HB (Nat.le_succ _) _).set_new HB (Nat.le_succ _) _).set_new HB (Nat.le_succ _) _
 ·obtain ⟨rfl,hk⟩:=hp
  exact ⟨rfl,rfl,((((Kp.refl _ _).rb _ _).alloc _).alloc _).trans hk⟩
theorem zal {c:Cx} {w:World} {n:Nat} {s:Sx.St} (x:ByteArray) (hx:Sx.txt (c.full.drop n)=x.data.toList) (h:RD c w n s):
  Calls Tryz.prog 79 #[.pointer (some ⟨c.rb,0,none⟩),.string x] w fun e w'=>e= .returned (.bool true)∧ ∃ k,w'=w.drewN k:=by
 have:=zek x c w n s h
 rwa [decide_eq_true hx] at this
theorem zan {c:Cx} {w:World} {n:Nat} {s:Sx.St} (x:ByteArray) (hx: ¬ Sx.txt (c.full.drop n)=x.data.toList) (h:RD c w n s):
  Calls Tryz.prog 79 #[.pointer (some ⟨c.rb,0,none⟩),.string x] w fun e w'=>e= .returned (.bool false)∧ ∃ k,w'=w.drewN k:=by
 have:=zek x c w n s h
 rwa [decide_eq_false hx] at this
def Dry {α:Type} (r:Sx.Rs α):Prop:= ∃ p q,r= .inr (99,p,q)
theorem Dry.bnd {α β:Type} {m:Sx.Rs α} {k:α→Sx.St→List Tk.Tok→Sx.Rs β} (h: ¬ Dry (Sx.bnd m k)): ¬ Dry m:=by
 rintro ⟨p,q,rfl⟩
 exact h ⟨p,q,rfl⟩
theorem Dry.next {α β:Type} {m:Sx.Rs α} {k:α→Sx.St→List Tk.Tok→Sx.Rs β} {x:α} {s:Sx.St} {r:List Tk.Tok} (h: ¬ Dry (Sx.bnd m k)) (hm:m= .inl (x,s,r)): ¬ Dry (k x s r):=by
 rw [hm] at h
 exact h
def Cn (f g K:Nat):Prop:= ∀ (c:Cx) (w:World) (n:Nat) (s:Sx.St),RD c w n s→ ¬ Dry (Sx.pe c.e f g Sx.d0 s (c.full.drop n))→
 Calls Tryz.prog K #[.pointer (some ⟨c.rb,0,none⟩)] w (Post c [c.rb] w (fun w'=>EV w' (fun b=>w.heap.size≤b)) (Sx.pe c.e f g Sx.d0 s (c.full.drop n)))
structure X4 (w:World) (b:Nat) (v0 v1 v2 v3:Value):Prop where
 c0:w.cell? ⟨b,0,none⟩=some v0
 c1:w.cell? ⟨b,1,none⟩=some v1
 c2:w.cell? ⟨b,2,none⟩=some v2
 c3:w.cell? ⟨b,3,none⟩=some v3
 fz: ∀ o,w.frozen? ⟨b,o,none⟩=false
theorem X4.keep {w w':World} {S:List Nat} {b:Nat} {v0 v1 v2 v3:Value} (h:X4 w b v0 v1 v2 v3) (k:Kp S w w') (hn:b ∉ S):X4 w' b v0 v1 v2 v3:=
 ⟨k.some h.c0 hn,k.some h.c1 hn,k.some h.c2 hn,k.some h.c3 hn,fun o=>(k.frozen (p:=⟨b,o,none⟩) (World.block_lt_of_cell? w ⟨b,0,none⟩ h.c0) hn).trans (h.fz o)⟩
theorem X4.new (w:World) (v0 v1 v2 v3:Value) (t:TypeId):X4 (w.alloc (.cells #[v0,v1,v2,v3] t)) w.heap.size v0 v1 v2 v3:=
 ⟨by simp [go_sem],by simp [go_sem],by simp [go_sem],by simp [go_sem],fun o=>by simp [go_sem]⟩
theorem X4.lt {w:World} {b:Nat} {v0 v1 v2 v3:Value} (h:X4 w b v0 v1 v2 v3):b<w.heap.size:=World.block_lt_of_cell? w ⟨b,0,none⟩ h.c0
theorem zbj {c:Cx} {w wl:World} {n':Nat} {s':Sx.St} {d:Sx.Tr} {op k:Int} {nm:ByteArray} {a:Option Addr} {len cap:Nat} (HB:c.below w.heap.size) (hk:Kp [c.rb] w wl) (hd:RD c wl n' s')
  (hv:EV wl (fun b=>w.heap.size+1≤b) d (.agg #[.int .i64 op,.string nm,.int .i64 k,.slice a len cap])):
  Post c [c.rb] w (fun w'=>EV w' (fun b=>w.heap.size≤b)) (.inl (d,s',c.full.drop n')) (.returned (.agg #[.int .i64 op,.string nm,.int .i64 k,.slice a len cap]))
   ((((wl.setCell ⟨w.heap.size,0,none⟩ (.int .i64 op)).setCell ⟨w.heap.size,1,none⟩ (.string nm)).setCell ⟨w.heap.size,2,none⟩ (.int .i64 k)).setCell ⟨w.heap.size,3,none⟩ (.slice a len cap)):=by
 refine ⟨_,n',rfl,?_,rfl,(((hd.set_new HB (Nat.le_refl _) _).set_new HB (Nat.le_refl _) _).set_new HB (Nat.le_refl _) _).set_new HB (Nat.le_refl _) _,Kp.nb (Kp.nb (Kp.nb (Kp.nb hk (Nat.le_refl _) _ _) (Nat.le_refl _) _ _) (Nat.le_refl _) _ _) (Nat.le_refl _) _ _⟩
 exact (hv.keep (S:=[w.heap.size]) (Kp.rb (Kp.rb (Kp.rb (Kp.rb (Kp.refl _ _) _ _) _ _) _ _) _ _) (by simp)).base (fun b _ hb=>Nat.le_of_succ_le hb)
end Go.Proofs.YtagblibbngmbdaaGreatDoor
namespace Go.Proofs.YtagblibbngmbdaaGreatDoor
open Go.RowKit
theorem zlq (f:Nat) (h0:Cn f 0 173) (c:Cx) (w:World) (n:Nat) (s:Sx.St) (h:RD c w n s) (ht:Sx.txt (c.full.drop n)=[40]) (hf: ¬ Dry (Sx.pe c.e (f+1) 3 Sx.d0 s (c.full.drop n))):
  Calls Tryz.prog 204 #[.pointer (some ⟨c.rb,0,none⟩)] w (Post c [c.rb] w (fun w'=>EV w' (fun b=>w.heap.size≤b)) (Sx.pe c.e (f+1) 3 Sx.d0 s (c.full.drop n))):=by
 rw [Sx.pe_u _ _ _ _ _ _ (.inl rfl),if_pos ht] at hf ⊢
 have HF:=hide hf
 have HT:=hide ht
 have HH:=hide h
 have HB:=hide h.lt
 have hlt:n<c.full.length:=zbv ht (by simp)
 have H0:=hide h0
 have hr:=h.rlt
 clear h h0 hf ht
 go_enter Tryz.func204,Tryz.ntmps204
 go_wp2_with fail
 refine (zal ⟨#[40]⟩ HT.out (by exact HH.out.alloc _)).mono ?_
 rintro e w1 ⟨rfl,k,rfl⟩
 go_wp2_with fail
 refine (zfh c _ n s (by exact (HH.out.alloc _).drewN k) hlt).mono ?_
 intro e w2 hp
 rcases hm:Sx.ent c.e s (c.full.drop n) with ⟨u,s2,r2⟩|⟨code,p,rest⟩
 ·rw [hm] at hp
  obtain ⟨v,n2,rfl,hv,hr2,hd2,hk2⟩:=hp
  obtain ⟨ho,hs2,_⟩:=Sx.ent_ok hm
  have HM:=hide hm
  have HR2:=hide hr2
  have HD2:=hide hd2
  have HK2:=hide hk2
  have HS2:=hide hs2
  have HF2:Hid (¬ Dry (Sx.pe c.e f 0 Sx.d0 s2 (c.full.drop n2))):=by
   have:=Dry.bnd (Dry.next HF.out hm)
   rwa [hr2] at this
  clear hm hr2 hd2 hk2 hs2 hv
  go_wp2_with fail
  refine (H0.out c _ n2 s2 HD2.out HF2.out).mono ?_
  intro e w3 hp
  rcases hm3:Sx.pe c.e f 0 Sx.d0 s2 (c.full.drop n2) with ⟨x,s3,r3⟩|⟨code,p,rest⟩
  ·rw [hm3] at hp
   obtain ⟨v3,n3,rfl,hv3,hr3,hd3,hk3⟩:=hp
   have hkp:=Sx.pe_keeps _ _ _ _ _ _ _ _ _ hm3
   obtain ⟨f3,op3,nm3,k3,L3,a3,len3,cap3,hl3,hx3,rfl,hE3⟩:=hv3.open
   have HE3:=hide hE3
   have HX3:=hide hx3
   have HL3:=hide hl3
   have HM3:=hide hm3
   have HR3:=hide hr3
   have HD3:=hide hd3
   have HK3:=hide hk3
   have HKP:=hide hkp
   have HV3:=hide hv3
   clear hm3 hr3 hd3 hk3 hkp hE3 hx3 hl3 hv3
   generalize hbn3:bs nm3=bn3 at *
   have HN3:=hide hbn3
   clear hbn3
   go_wp2_with fail
   refine (zak ⟨#[41]⟩ (by simp) c _ n3 s3 (by exact HD3.out.alloc _)).mono ?_
   intro e w4 hp
   have HK3':Hid (Kp [c.rb] w w3):=((((Kp.refl _ _).alloc _).drewN k).trans HK2.out).trans HK3.out
   have hz3:w.heap.size<w3.heap.size:=by
    have h1:=HK2.out.size
    have h2:=HK3.out.size
    simp at h1
    omega
   rcases hm4:Sx.skp c.e [41] s3 (c.full.drop n3) with ⟨u4,s4,r4⟩|⟨code,p,rest⟩
   ·rw [show (⟨#[41]⟩:ByteArray).data.toList=[41] from rfl,hm4] at hp
    obtain ⟨v4,n4,rfl,hv4,hr4,hd4,hk4⟩:=hp
    obtain ⟨_,hs4,_⟩:=Sx.skp_ok hm4
    have hop:0<s4.opn:=by
     have h1:=HKP.out.opn
     rw [HS2.out] at h1
     simp only at h1
     rw [hs4]
     omega
    have hz4:=hk4.size
    simp at hz4
    have hz5:w.heap.size<w4.heap.size:=by omega
    have hn1:w3.heap.size ∉ [c.rb]:=by have:=HK3'.out.size;simp;omega
    have hn0:w.heap.size ∉ [c.rb]:=by simp;omega
    have X:X4 w4 w3.heap.size (.int .i64 op3) (.string bn3) (.int .i64 k3) (.slice a3 len3 cap3):=(X4.new _ _ _ _ _ _).keep hk4 hn1
    have Z:X4 w4 w.heap.size (.int .i64 0) (.string ⟨#[]⟩) (.int .i64 0) (.slice none 0 0):=((((((X4.new _ _ _ _ _ 49).keep ((Kp.refl [] _).drewN k) (by simp)).keep HK2.out hn0).keep HK3.out hn0).keep ((Kp.refl [] _).alloc _) (by simp)).keep hk4 hn0)
    obtain ⟨x0,x1,x2,x3,_⟩:=X
    obtain ⟨y0,y1,y2,y3,gy⟩:=Z
    have c5:=hd4.c5
    have g5:=hd4.fz 5
    have b5:=hd4.b5
    have m1: ¬ c.rb=w3.heap.size:=by have:=HK3'.out.size;omega
    have m2: ¬ c.rb=w.heap.size:=by omega
    have m3: ¬ w3.heap.size=w.heap.size:=by omega
    have m1': ¬ w3.heap.size=c.rb:=by omega
    have m2': ¬ w.heap.size=c.rb:=by omega
    have m3': ¬ w.heap.size=w3.heap.size:=by omega
    have HM4:=hide hm4
    have HR4:=hide hr4
    have HD4:=hide hd4
    have HK4:=hide hk4
    clear hm4 hr4 hd4 hk4 hv4 hs4
    go_wp2
    refine bodyPost_ret (v:= .agg #[.int .i64 op3,.string bn3,.int .i64 k3,.slice a3 len3 cap3]) (by simp [results,Tryz.results204,go_sem,y0,y1,y2,y3]) rfl ?_
    rw [HM.out]
    show Post c [c.rb] w _ (Sx.bnd (Sx.pe c.e f 0 Sx.d0 s2 r2) _) _ _
    rw [HR2.out,HM3.out]
    show Post c [c.rb] w _ (Sx.bnd (Sx.skp c.e [41] s3 r3) _) _ _
    rw [HR3.out,HM4.out]
    show Post c [c.rb] w _ (.inl (x,s4.shut,r4)) _ _
    rw [HR4.out]
    refine zbj HB.out ?_ (HD4.out.shut hop) ?_
    ·exact ((HK3'.out.alloc _).trans HK4.out).rb _ _
    ·have hq:c.rb<w2.heap.size:=by have:=HK2.out.size;simp at this;omega
     refine (HV3.out.base (P':=fun b=>w.heap.size+1≤b) (fun b _ hb=>by have:=HK2.out.size;simp at this;omega)).keep (S:=[c.rb]) ?_ (by simp;omega)
     exact (((Kp.refl _ _).alloc _).trans HK4.out).rb _ _
   ·rw [show (⟨#[41]⟩:ByteArray).data.toList=[41] from rfl,hm4] at hp
    obtain ⟨rfl,hk4⟩:=hp
    refine ⟨rfl,?_⟩
    rw [HM.out]
    show Post c [c.rb] w _ (Sx.bnd (Sx.pe c.e f 0 Sx.d0 s2 r2) _) _ _
    rw [HR2.out,HM3.out]
    show Post c [c.rb] w _ (Sx.bnd (Sx.skp c.e [41] s3 r3) _) _ _
    rw [HR3.out,hm4]
    exact ⟨rfl,(HK3'.out.alloc _).trans hk4⟩
  ·rw [hm3] at hp
   obtain ⟨rfl,hk3⟩:=hp
   refine ⟨rfl,?_⟩
   rw [HM.out]
   show Post c [c.rb] w _ (Sx.bnd (Sx.pe c.e f 0 Sx.d0 s2 r2) _) _ _
   rw [HR2.out,hm3]
   exact ⟨rfl,((((Kp.refl _ _).alloc _).drewN k).trans HK2.out).trans hk3⟩
 ·rw [hm] at hp
  obtain ⟨rfl,hk2⟩:=hp
  refine ⟨rfl,?_⟩
  rw [hm]
  exact ⟨rfl,(((Kp.refl _ _).alloc _).drewN k).trans hk2⟩
theorem zlr (f:Nat) (h0:Cn f 3 204) (c:Cx) (w:World) (n:Nat) (s:Sx.St) (h:RD c w n s) (h40: ¬ Sx.txt (c.full.drop n)=[40]) (ht:Sx.txt (c.full.drop n)=[45]) (hf: ¬ Dry (Sx.pe c.e (f+1) 3 Sx.d0 s (c.full.drop n))):
  Calls Tryz.prog 204 #[.pointer (some ⟨c.rb,0,none⟩)] w (Post c [c.rb] w (fun w'=>EV w' (fun b=>w.heap.size≤b)) (Sx.pe c.e (f+1) 3 Sx.d0 s (c.full.drop n))):=by
 rw [Sx.pe_u _ _ _ _ _ _ (.inl rfl),if_neg h40,if_pos ht] at hf ⊢
 have HF:=hide hf
 have HT:=hide ht
 have H40:=hide h40
 have HH:=hide h
 have HB:=hide h.lt
 have hlt:n<c.full.length:=zbv ht (by simp)
 have H0:=hide h0
 have hr:=h.rlt
 clear h h0 hf ht h40
 go_enter Tryz.func204,Tryz.ntmps204
 go_wp2_with fail
 refine (zan ⟨#[40]⟩ H40.out (by exact HH.out.alloc _)).mono ?_
 rintro e w1 ⟨rfl,k0,rfl⟩
 go_wp2_with fail
 refine (zal ⟨#[45]⟩ HT.out (by exact (HH.out.alloc _).drewN k0)).mono ?_
 rintro e w1 ⟨rfl,k,rfl⟩
 go_wp2_with fail
 refine (zfh c _ n s (by exact (HH.out.alloc _).drewN _) hlt).mono ?_
 intro e w2 hp
 rcases hm:Sx.ent c.e s (c.full.drop n) with ⟨u,s2,r2⟩|⟨code,p,rest⟩
 ·rw [hm] at hp
  obtain ⟨v,n2,rfl,hv,hr2,hd2,hk2⟩:=hp
  obtain ⟨ho,hs2,hrt⟩:=Sx.ent_ok hm
  have HM:=hide hm
  have HR2:=hide hr2
  have HD2:=hide hd2
  have HK2:=hide hk2
  have HS2:=hide hs2
  have HF2:Hid (¬ Dry (Sx.pe c.e f 3 Sx.d0 s2 (c.full.drop n2))):=by
   have:=Dry.bnd (Dry.next HF.out hm)
   rwa [hr2] at this
  have HLen:Hid ((c.full.drop n2).length+1=(c.full.drop n).length):=by
   rw [←hr2,hrt]
   exact Sx.txt_len HT.out
  clear hm hr2 hd2 hk2 hs2 hv hrt
  go_wp2_with fail
  refine (H0.out c _ n2 s2 HD2.out HF2.out).mono ?_
  intro e w3 hp
  rcases hm3:Sx.pe c.e f 3 Sx.d0 s2 (c.full.drop n2) with ⟨x,s3,r3⟩|⟨code,p,rest⟩
  ·rw [hm3] at hp
   obtain ⟨v3,n3,rfl,hv3,hr3,hd3,hk3⟩:=hp
   have hkp:=Sx.pe_keeps _ _ _ _ _ _ _ _ _ hm3
   obtain ⟨f3,op3,nm3,k3,L3,a3,len3,cap3,hl3,hx3,rfl,hE3⟩:=hv3.open
   have HK3':Hid (Kp [c.rb] w w3):=((((Kp.refl _ _).alloc _).drewN _).trans HK2.out).trans hk3
   have hz3:w.heap.size<w3.heap.size:=by
    have h1:=HK2.out.size
    have h2:=hk3.size
    simp at h1
    omega
   have hop:0<s3.opn:=by
    have h1:=hkp.opn
    rw [HS2.out] at h1
    simp only at h1
    omega
   have hpt:s3.parts+1+(c.full.length - n3)≤12000:=by
    have h1:=hkp.parts
    have h2:=HH.out.b6
    have h3:=HLen.out
    have h4:s2.parts=s.parts:=by rw [HS2.out]
    rw [hr3] at h1
    simp only [List.length_drop] at h1 h3
    omega
   have hn0:w.heap.size ∉ [c.rb]:=by simp;omega
   have Z:X4 w3 w.heap.size (.int .i64 0) (.string ⟨#[]⟩) (.int .i64 0) (.slice none 0 0):=((((X4.new _ _ _ _ _ 49).keep ((Kp.refl [] _).drewN _) (by simp)).keep HK2.out hn0).keep hk3 hn0)
   have HZ:=hide Z
   have c5:=hd3.c5
   have g5:=hd3.fz 5
   have b5:=hd3.b5
   have m1: ¬ c.rb=w3.heap.size:=by have:=HK3'.out.size;omega
   have m2:c.rb<w3.heap.size:=by have:=HK3'.out.size;omega
   have HE3:=hide hE3
   have HX3:=hide hx3
   have HL3:=hide hl3
   have HM3:=hide hm3
   have HR3:=hide hr3
   have HD3:=hide hd3
   have HK3:=hide hk3
   have HV3:=hide hv3
   clear hm3 hr3 hd3 hk3 hkp hE3 hx3 hl3 hv3 Z
   generalize hbn3:bs nm3=bn3 at *
   have HN3:=hide hbn3
   clear hbn3
   go_wp2_with fail
   refine (zb4 3 ⟨#[]⟩ 0 (some ⟨w3.heap.size+1,0,none⟩) 1 1 c _ n3 s3.shut (by exact ((HD3.out.shut hop).alloc _).alloc _) hpt).mono ?_
   rintro e w4 ⟨rfl,hd4,hk4⟩
   have hz4:=hk4.size
   simp at hz4
   have hz5:w.heap.size<w4.heap.size:=by omega
   have kA:Kp [c.rb] w3 w4:=Kp.trans (((Kp.rb (Kp.refl _ _) _ _).alloc _).alloc _) hk4
   obtain ⟨y0,y1,y2,y3,gy⟩:=HZ.out.keep kA hn0
   have X:X4 w4 (w3.heap.size+1) (.int .i64 op3) (.string bn3) (.int .i64 k3) (.slice a3 len3 cap3):=by
    have:=(X4.new ((w3.setCell ⟨c.rb,5,none⟩ (.int .i64 ((s3.opn:Int) - 1))).alloc (.cells #[.int .i64 op3,.string bn3,.int .i64 k3,.slice a3 len3 cap3] 49)) (.int .i64 op3) (.string bn3) (.int .i64 k3) (.slice a3 len3 cap3) 49).keep hk4
    simp only [World.size_alloc,World.size_setCell] at this
    exact this (by simp;have:=HK3'.out.size;omega)
   have HX:=hide X
   have HD4:=hide hd4
   have HKA:=hide kA
   clear hd4 hk4 kA X
   go_wp2
   refine bodyPost_ret (v:= .agg #[.int .i64 3,.string ⟨#[]⟩,.int .i64 0,.slice (some ⟨w3.heap.size+1,0,none⟩) 1 1]) (by simp [results,Tryz.results204,go_sem,y0,y1,y2,y3]) rfl ?_
   rw [HM.out]
   show Post c [c.rb] w _ (Sx.bnd (Sx.pe c.e f 3 Sx.d0 s2 r2) _) _ _
   rw [HR2.out,HM3.out]
   show Post c [c.rb] w _ (.inl (Sx.tE 3 [] 0 [x],s3.shut.part,r3)) _ _
   rw [HR3.out]
   refine zbj HB.out (HK3'.out.trans HKA.out) HD4.out ?_
   have hq:c.rb<w2.heap.size∧w.heap.size+1≤w2.heap.size:=by have:=HK2.out.size;simp at this;omega
   have hq2:w2.heap.size≤w3.heap.size:=HK3.out.size
   refine ⟨f3+1,3,[],0,[x],_,1,rfl,rfl,?_⟩
   rw [HX3.out]
   refine EL.one (by omega) HX.out.c0 ?_ HX.out.c2 HX.out.c3 ((HE3.out.keep HKA.out (by simp;omega)).base (fun b _ hb=>by omega))
   rw [HN3.out]
   exact HX.out.c1
  ·rw [hm3] at hp
   obtain ⟨rfl,hk3⟩:=hp
   refine ⟨rfl,?_⟩
   rw [HM.out]
   show Post c [c.rb] w _ (Sx.bnd (Sx.pe c.e f 3 Sx.d0 s2 r2) _) _ _
   rw [HR2.out,hm3]
   exact ⟨rfl,((((Kp.refl _ _).alloc _).drewN _).trans HK2.out).trans hk3⟩
 ·rw [hm] at hp
  obtain ⟨rfl,hk2⟩:=hp
  refine ⟨rfl,?_⟩
  rw [hm]
  exact ⟨rfl,(((Kp.refl _ _).alloc _).drewN _).trans hk2⟩
end Go.Proofs.YtagblibbngmbdaaGreatDoor
