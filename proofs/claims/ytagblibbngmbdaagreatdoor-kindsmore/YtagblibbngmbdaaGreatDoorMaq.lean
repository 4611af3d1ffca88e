import Derived.Test.YtagblibbngmbdaaGreatDoorMap
set_option maxRecDepth 100000
set_option maxHeartbeats 2000000
namespace Go.Proofs.YtagblibbngmbdaaGreatDoor
open Go.RowKit
theorem zgz (f:Nat) (D:Nat) (hy:CN D f) (c:Cx) (w:World) (n:Nat) (s:Sx.St) (h:RD c w n s) (hD:Sx.doOf (Sx.txt (c.full.drop n))=D) (h11:D=11) (h300:s.stmts ≠ 300) (hf: ¬ Dry (Sx.ps c.e (f+1) 1 [] s (c.full.drop n))):
  Calls Tryz.prog 130 #[.pointer (some ⟨c.rb,0,none⟩)] w (Post c [c.rb] w (encSt w) (Sx.ps c.e (f+1) 1 [] s (c.full.drop n))):=by
 have hP:=Sx.ps_1 c.e f [] s (c.full.drop n)
 rw [hD] at hP
 have hd1:=zbt (bs (Sx.txt (c.full.drop n)))
 rw [zat,hD] at hd1
 have HDO:=hide hd1
 have HF:=hide hf
 have HH:=hide h
 have HB:=hide h.lt
 have HHYP:=hide hy
 have hr:=h.rlt
 have q3: ¬ c.rb=w.heap.size:=by omega
 have q4: ¬ c.rb=w.heap.size+1:=by omega
 clear h hf hd1 hy
 generalize hpl:Sx.place c.e (c.full.drop n)=pl at *
 have HPL:=hide hpl
 clear hpl
 have h0:D ≠ 0:=by omega
 have hP':Sx.ps c.e (f+1) 1 [] s (c.full.drop n)=Sx.bnd (Sx.nest c.e f D s.stmt (c.full.drop (n+1))) fun y s r=> .inl ([Sx.tS D pl y.1.A y.1.B [] 0 y.1.E y.2.1 y.2.2],s,r):=by
  rw [hP,if_neg h0,if_neg h300,if_neg (by omega),List.tail_drop]
  unfold Sx.nest
  simp only [Sx.bnd_bnd]
  rfl
 have HP:=hide hP'
 clear hP
 have hP:=hP'
 clear hP'
 have d0:((D:Int) == 0)=false:=by simp;omega
 have d3:((s.stmts:Int) == 300)=false:=by simp;omega
 have d11:((D:Int) == 11)=true:=by simp;omega
 have hlt:n<c.full.length:=by
  rcases Nat.lt_or_ge n c.full.length with h1|h1
  ·exact h1
  ·rw [List.drop_eq_nil_of_le h1] at hD
   exact absurd hD.symm h0
 have c3:=HH.out.c3
 have c1:=HH.out.c1
 have f1:=HH.out.fz 1
 have f3:=HH.out.fz 3
 have hm:=HH.out.hm
 have b3:=HH.out.b3
 have hl3:s.stmts<300:=by omega
 have HF2:Hid (¬ Dry (Sx.nest c.e f D s.stmt (c.full.drop (n+1)))):=by
  have h1:=HF.out
  rw [hP] at h1
  exact Dry.bnd h1
 have HAP:Hid (c.apart (w.heap.size+1)):=⟨by omega,fun hne=>by have:=HB.out.2 hne;omega⟩
 clear hP h300 h11 h0 hD
 go_enter Tryz.func130,Tryz.ntmps130
 go_wp2_with fail
 refine (zbg c _ n s (by exact HH.out.alloc _)).mono ?_
 rintro e w1 ⟨rfl,k1,rfl⟩
 go_wp2_with fail
 refine (HDO.out _).mono ?_
 rintro e w1 ⟨rfl,hw1⟩
 rw [hw1]
 clear hw1 w1
 go_wp2_with fail
 refine (at_any c _ n s (by exact (HH.out.alloc _).drewN _)).mono ?_
 rintro e w1 ⟨rfl,k2,rfl⟩
 rw [HPL.out]
 go_wp2_with fail
 have S1:Hid (S9 ((((( (w.alloc (.cells #[.int .i64 0,.int .i64 0,.string ⟨#[]⟩,.string ⟨#[]⟩,.string ⟨#[]⟩,.int .i64 0,.slice none 0 0,.slice none 0 0,.slice none 0 0] 51)).drewN (k1+k2)).setCell ⟨c.rb,3,none⟩ (.int .i64 ((s.stmts:Int)+1))).setCell ⟨c.rb,1,none⟩ (.int .i64 ((n:Int)+1))).alloc (.cells #[.int .i64 D,.int .i64 pl,.string ⟨#[]⟩,.string ⟨#[]⟩,.string ⟨#[]⟩,.int .i64 0,.slice none 0 0,.slice none 0 0,.slice none 0 0] 51)))
   (w.heap.size+1) D pl ⟨#[]⟩ ⟨#[]⟩ ⟨#[]⟩ 0 (.slice none 0 0) (.slice none 0 0) (.slice none 0 0)):=by
  have:=S9.new (((w.alloc (.cells #[.int .i64 0,.int .i64 0,.string ⟨#[]⟩,.string ⟨#[]⟩,.string ⟨#[]⟩,.int .i64 0,.slice none 0 0,.slice none 0 0,.slice none 0 0] 51)).drewN (k1+k2)).setCell ⟨c.rb,3,none⟩ (.int .i64 ((s.stmts:Int)+1)) |>.setCell ⟨c.rb,1,none⟩ (.int .i64 ((n:Int)+1))) D pl ⟨#[]⟩ ⟨#[]⟩ ⟨#[]⟩ 0 (.slice none 0 0) (.slice none 0 0) (.slice none 0 0) 51
  have e:(((w.alloc (.cells #[.int .i64 0,.int .i64 0,.string ⟨#[]⟩,.string ⟨#[]⟩,.string ⟨#[]⟩,.int .i64 0,.slice none 0 0,.slice none 0 0,.slice none 0 0] 51)).drewN (k1+k2)).setCell ⟨c.rb,3,none⟩ (.int .i64 ((s.stmts:Int)+1)) |>.setCell ⟨c.rb,1,none⟩ (.int .i64 ((n:Int)+1))).heap.size=w.heap.size+1:=by simp [World.setCell,World.drewN]
  rw [e] at this
  exact this
 have Z1:Hid (S9 ((((( (w.alloc (.cells #[.int .i64 0,.int .i64 0,.string ⟨#[]⟩,.string ⟨#[]⟩,.string ⟨#[]⟩,.int .i64 0,.slice none 0 0,.slice none 0 0,.slice none 0 0] 51)).drewN (k1+k2)).setCell ⟨c.rb,3,none⟩ (.int .i64 ((s.stmts:Int)+1))).setCell ⟨c.rb,1,none⟩ (.int .i64 ((n:Int)+1))).alloc (.cells #[.int .i64 D,.int .i64 pl,.string ⟨#[]⟩,.string ⟨#[]⟩,.string ⟨#[]⟩,.int .i64 0,.slice none 0 0,.slice none 0 0,.slice none 0 0] 51)))
   w.heap.size 0 0 ⟨#[]⟩ ⟨#[]⟩ ⟨#[]⟩ 0 (.slice none 0 0) (.slice none 0 0) (.slice none 0 0)):=
  (S9.new w 0 0 ⟨#[]⟩ ⟨#[]⟩ ⟨#[]⟩ 0 (.slice none 0 0) (.slice none 0 0) (.slice none 0 0) 51).keep (S:=[c.rb]) (Kp.alloc (Kp.rb (Kp.rb ((Kp.refl _ _).drewN _) _ _) _ _) _) (by simp;omega)
 have D1:Hid (RD c ((((( (w.alloc (.cells #[.int .i64 0,.int .i64 0,.string ⟨#[]⟩,.string ⟨#[]⟩,.string ⟨#[]⟩,.int .i64 0,.slice none 0 0,.slice none 0 0,.slice none 0 0] 51)).drewN (k1+k2)).setCell ⟨c.rb,3,none⟩ (.int .i64 ((s.stmts:Int)+1))).setCell ⟨c.rb,1,none⟩ (.int .i64 ((n:Int)+1))).alloc (.cells #[.int .i64 D,.int .i64 pl,.string ⟨#[]⟩,.string ⟨#[]⟩,.string ⟨#[]⟩,.int .i64 0,.slice none 0 0,.slice none 0 0,.slice none 0 0] 51))) (n+1) s.stmt):=
  ((((HH.out.alloc _).drewN _).stmt hl3).step hlt).alloc _
 have K1:Hid (Kp [c.rb] w ((((( (w.alloc (.cells #[.int .i64 0,.int .i64 0,.string ⟨#[]⟩,.string ⟨#[]⟩,.string ⟨#[]⟩,.int .i64 0,.slice none 0 0,.slice none 0 0,.slice none 0 0] 51)).drewN (k1+k2)).setCell ⟨c.rb,3,none⟩ (.int .i64 ((s.stmts:Int)+1))).setCell ⟨c.rb,1,none⟩ (.int .i64 ((n:Int)+1))).alloc (.cells #[.int .i64 D,.int .i64 pl,.string ⟨#[]⟩,.string ⟨#[]⟩,.string ⟨#[]⟩,.int .i64 0,.slice none 0 0,.slice none 0 0,.slice none 0 0] 51)))):=
  Kp.alloc (Kp.rb (Kp.rb (((Kp.refl _ _).alloc _).drewN _) _ _) _ _) _
 generalize hW1:((((( (w.alloc (.cells #[.int .i64 0,.int .i64 0,.string ⟨#[]⟩,.string ⟨#[]⟩,.string ⟨#[]⟩,.int .i64 0,.slice none 0 0,.slice none 0 0,.slice none 0 0] 51)).drewN (k1+k2)).setCell ⟨c.rb,3,none⟩ (.int .i64 ((s.stmts:Int)+1))).setCell ⟨c.rb,1,none⟩ (.int .i64 ((n:Int)+1))).alloc (.cells #[.int .i64 D,.int .i64 pl,.string ⟨#[]⟩,.string ⟨#[]⟩,.string ⟨#[]⟩,.int .i64 0,.slice none 0 0,.slice none 0 0,.slice none 0 0] 51)))=W1 at *
 have hW:w.heap.size+1<W1.heap.size:=S1.out.lt
 clear hW1 c3 c1 f1 f3
 refine (HHYP.out c _ (n+1) s.stmt (w.heap.size+1) pl D1.out HAP.out S1.out HF2.out).mono ?_
 intro e w2 hp
 rcases hm2:Sx.nest c.e f D s.stmt (c.full.drop (n+1)) with ⟨x,s2,r2⟩|⟨code,p,rest⟩
 rotate_left
 ·rw [hm2] at hp
  obtain ⟨rfl,hk⟩:=hp
  refine ⟨rfl,?_⟩
  rw [HP.out,hm2]
  exact ⟨rfl,Kp.new ((K1.out.mono (by simp)).trans hk) (Nat.le_succ _)⟩
 rw [hm2] at hp
 obtain ⟨v3,n3,rfl,⟨hv2,m,aE,cE,aB,cB,aL,cL,hS2,hE2,hB2,hL2⟩,hr2,hd2,hk2⟩:=hp
 have HP3:Hid (Sx.ps c.e (f+1) 1 [] s (c.full.drop n)= .inl ([Sx.tS D pl x.1.A x.1.B [] 0 x.1.E x.2.1 x.2.2],s2,c.full.drop n3)):=by
  show _=_
  rw [HP.out,hm2,hr2]
  rfl
 have HD3:=hide hd2
 have HK2:=hide hk2
 obtain ⟨x0,x1,x2,x3,x4,x5,x6,x7,x8,xf⟩:=hS2
 obtain ⟨z0,z1,z2,z3,z4,z5,z6,z7,z8,zf⟩:=Z1.out.keep hk2 (by simp;omega)
 have KE:Hid (Kp [c.rb] w w2):=Kp.new ((K1.out.mono (by simp)).trans HK2.out) (Nat.le_succ _)
 have HRS:Hid (RS w2 (fun b=>w.heap.size+1≤b) m (Sx.tS D pl x.1.A x.1.B [] 0 x.1.E x.2.1 x.2.2) [.int .i64 D,.int .i64 pl,.string (bs x.1.A),.string (bs x.1.B),.string ⟨#[]⟩,.int .i64 0,.slice aE x.1.E.length cE,.slice aB x.2.1.length cB,.slice aL x.2.2.length cL]):=by
  have hb: ∀ b,b<w2.heap.size→W1.heap.size≤b→w.heap.size+1≤b:=fun b _ h=>by omega
  exact ⟨D,pl,x.1.A,x.1.B,[],0,x.1.E,x.2.1,x.2.2,_,_,_,rfl,rfl,hE2.base hb,hB2.base hb,hL2.base hb⟩
 clear hm2 hr2 hd2 hk2 hv2 hE2 hB2 hL2
 generalize bs x.1.A=bA at *
 generalize bs x.1.B=bB at *
 go_wp2
 refine bodyPost_ret (v:= .agg #[.int .i64 D,.int .i64 pl,.string bA,.string bB,.string ⟨#[]⟩,.int .i64 0,.slice aE x.1.E.length cE,.slice aB x.2.1.length cB,.slice aL x.2.2.length cL]) (by simp [results,Tryz.results130,go_sem,z0,z1,z2,z3,z4,z5,z6,z7,z8]) rfl ?_
 rw [HP3.out]
 exact zck HB.out KE.out HD3.out ⟨_,_,_,rfl⟩ ⟨_,_,_,rfl⟩ ⟨_,_,_,rfl⟩ HRS.out
theorem zg0 (f:Nat) (D:Nat) (hy:CN D f) (c:Cx) (w:World) (n:Nat) (s:Sx.St) (h:RD c w n s) (hD:Sx.doOf (Sx.txt (c.full.drop n))=D) (h11:D=12) (h300:s.stmts ≠ 300) (hf: ¬ Dry (Sx.ps c.e (f+1) 1 [] s (c.full.drop n))):
  Calls Tryz.prog 130 #[.pointer (some ⟨c.rb,0,none⟩)] w (Post c [c.rb] w (encSt w) (Sx.ps c.e (f+1) 1 [] s (c.full.drop n))):=by
 have hP:=Sx.ps_1 c.e f [] s (c.full.drop n)
 rw [hD] at hP
 have hd1:=zbt (bs (Sx.txt (c.full.drop n)))
 rw [zat,hD] at hd1
 have HDO:=hide hd1
 have HF:=hide hf
 have HH:=hide h
 have HB:=hide h.lt
 have HHYP:=hide hy
 have hr:=h.rlt
 have q3: ¬ c.rb=w.heap.size:=by omega
 have q4: ¬ c.rb=w.heap.size+1:=by omega
 clear h hf hd1 hy
 generalize hpl:Sx.place c.e (c.full.drop n)=pl at *
 have HPL:=hide hpl
 clear hpl
 have h0:D ≠ 0:=by omega
 have hP':Sx.ps c.e (f+1) 1 [] s (c.full.drop n)=Sx.bnd (Sx.nest c.e f D s.stmt (c.full.drop (n+1))) fun y s r=> .inl ([Sx.tS D pl y.1.A y.1.B [] 0 y.1.E y.2.1 y.2.2],s,r):=by
  rw [hP,if_neg h0,if_neg h300,if_neg (by omega),List.tail_drop]
  unfold Sx.nest
  simp only [Sx.bnd_bnd]
  rfl
 have HP:=hide hP'
 clear hP
 have hP:=hP'
 clear hP'
 have d0:((D:Int) == 0)=false:=by simp;omega
 have d3:((s.stmts:Int) == 300)=false:=by simp;omega
 have d11:((D:Int) == 11)=false:=by simp;omega
 have d12:((D:Int) == 12)=true:=by simp;omega
 have hlt:n<c.full.length:=by
  rcases Nat.lt_or_ge n c.full.length with h1|h1
  ·exact h1
  ·rw [List.drop_eq_nil_of_le h1] at hD
   exact absurd hD.symm h0
 have c3:=HH.out.c3
 have c1:=HH.out.c1
 have f1:=HH.out.fz 1
 have f3:=HH.out.fz 3
 have hm:=HH.out.hm
 have b3:=HH.out.b3
 have hl3:s.stmts<300:=by omega
 have HF2:Hid (¬ Dry (Sx.nest c.e f D s.stmt (c.full.drop (n+1)))):=by
  have h1:=HF.out
  rw [hP] at h1
  exact Dry.bnd h1
 have HAP:Hid (c.apart (w.heap.size+1)):=⟨by omega,fun hne=>by have:=HB.out.2 hne;omega⟩
 clear hP h300 h11 h0 hD
 go_enter Tryz.func130,Tryz.ntmps130
 go_wp2_with fail
 refine (zbg c _ n s (by exact HH.out.alloc _)).mono ?_
 rintro e w1 ⟨rfl,k1,rfl⟩
 go_wp2_with fail
 refine (HDO.out _).mono ?_
 rintro e w1 ⟨rfl,hw1⟩
 rw [hw1]
 clear hw1 w1
 go_wp2_with fail
 refine (at_any c _ n s (by exact (HH.out.alloc _).drewN _)).mono ?_
 rintro e w1 ⟨rfl,k2,rfl⟩
 rw [HPL.out]
 go_wp2_with fail
 have S1:Hid (S9 ((((( (w.alloc (.cells #[.int .i64 0,.int .i64 0,.string ⟨#[]⟩,.string ⟨#[]⟩,.string ⟨#[]⟩,.int .i64 0,.slice none 0 0,.slice none 0 0,.slice none 0 0] 51)).drewN (k1+k2)).setCell ⟨c.rb,3,none⟩ (.int .i64 ((s.stmts:Int)+1))).setCell ⟨c.rb,1,none⟩ (.int .i64 ((n:Int)+1))).alloc (.cells #[.int .i64 D,.int .i64 pl,.string ⟨#[]⟩,.string ⟨#[]⟩,.string ⟨#[]⟩,.int .i64 0,.slice none 0 0,.slice none 0 0,.slice none 0 0] 51)))
   (w.heap.size+1) D pl ⟨#[]⟩ ⟨#[]⟩ ⟨#[]⟩ 0 (.slice none 0 0) (.slice none 0 0) (.slice none 0 0)):=by
  have:=S9.new (((w.alloc (.cells #[.int .i64 0,.int .i64 0,.string ⟨#[]⟩,.string ⟨#[]⟩,.string ⟨#[]⟩,.int .i64 0,.slice none 0 0,.slice none 0 0,.slice none 0 0] 51)).drewN (k1+k2)).setCell ⟨c.rb,3,none⟩ (.int .i64 ((s.stmts:Int)+1)) |>.setCell ⟨c.rb,1,none⟩ (.int .i64 ((n:Int)+1))) D pl ⟨#[]⟩ ⟨#[]⟩ ⟨#[]⟩ 0 (.slice none 0 0) (.slice none 0 0) (.slice none 0 0) 51
  have e:(((w.alloc (.cells #[.int .i64 0,.int .i64 0,.string ⟨#[]⟩,.string ⟨#[]⟩,.string ⟨#[]⟩,.int .i64 0,.slice none 0 0,.slice none 0 0,.slice none 0 0] 51)).drewN (k1+k2)).setCell ⟨c.rb,3,none⟩ (.int .i64 ((s.stmts:Int)+1)) |>.setCell ⟨c.rb,1,none⟩ (.int .i64 ((n:Int)+1))).heap.size=w.heap.size+1:=by simp [World.setCell,World.drewN]
  rw [e] at this
  exact this
 have Z1:Hid (S9 ((((( (w.alloc (.cells #[.int .i64 0,.int .i64 0,.string ⟨#[]⟩,.string ⟨#[]⟩,.string ⟨#[]⟩,.int .i64 0,.slice none 0 0,.slice none 0 0,.slice none 0 0] 51)).drewN (k1+k2)).setCell ⟨c.rb,3,none⟩ (.int .i64 ((s.stmts:Int)+1))).setCell ⟨c.rb,1,none⟩ (.int .i64 ((n:Int)+1))).alloc (.cells #[.int .i64 D,.int .i64 pl,.string ⟨#[]⟩,.string ⟨#[]⟩,.string ⟨#[]⟩,.int .i64 0,.slice none 0 0,.slice none 0 0,.slice none 0 0] 51)))
   w.heap.size 0 0 ⟨#[]⟩ ⟨#[]⟩ ⟨#[]⟩ 0 (.slice none 0 0) (.slice none 0 0) (.slice none 0 0)):=
  (S9.new w 0 0 ⟨#[]⟩ ⟨#[]⟩ ⟨#[]⟩ 0 (.slice none 0 0) (.slice none 0 0) (.slice none 0 0) 51).keep (S:=[c.rb]) (Kp.alloc (Kp.rb (Kp.rb ((Kp.refl _ _).drewN _) _ _) _ _) _) (by simp;omega)
 have D1:Hid (RD c ((((( (w.alloc (.cells #[.int .i64 0,.int .i64 0,.string ⟨#[]⟩,.string ⟨#[]⟩,.string ⟨#[]⟩,.int .i64 0,.slice none 0 0,.slice none 0 0,.slice none 0 0] 51)).drewN (k1+k2)).setCell ⟨c.rb,3,none⟩ (.int .i64 ((s.stmts:Int)+1))).setCell ⟨c.rb,1,none⟩ (.int .i64 ((n:Int)+1))).alloc (.cells #[.int .i64 D,.int .i64 pl,.string ⟨#[]⟩,.string ⟨#[]⟩,.string ⟨#[]⟩,.int .i64 0,.slice none 0 0,.slice none 0 0,.slice none 0 0] 51))) (n+1) s.stmt):=
  ((((HH.out.alloc _).drewN _).stmt hl3).step hlt).alloc _
 have K1:Hid (Kp [c.rb] w ((((( (w.alloc (.cells #[.int .i64 0,.int .i64 0,.string ⟨#[]⟩,.string ⟨#[]⟩,.string ⟨#[]⟩,.int .i64 0,.slice none 0 0,.slice none 0 0,.slice none 0 0] 51)).drewN (k1+k2)).setCell ⟨c.rb,3,none⟩ (.int .i64 ((s.stmts:Int)+1))).setCell ⟨c.rb,1,none⟩ (.int .i64 ((n:Int)+1))).alloc (.cells #[.int .i64 D,.int .i64 pl,.string ⟨#[]⟩,.string ⟨#[]⟩,.string ⟨#[]⟩,.int .i64 0,.slice none 0 0,.slice none 0 0,.slice none 0 0] 51)))):=
  Kp.alloc (Kp.rb (Kp.rb (((Kp.refl _ _).alloc _).drewN _) _ _) _ _) _
 generalize hW1:((((( (w.alloc (.cells #[.int .i64 0,.int .i64 0,.string ⟨#[]⟩,.string ⟨#[]⟩,.string ⟨#[]⟩,.int .i64 0,.slice none 0 0,.slice none 0 0,.slice none 0 0] 51)).drewN (k1+k2)).setCell ⟨c.rb,3,none⟩ (.int .i64 ((s.stmts:Int)+1))).setCell ⟨c.rb,1,none⟩ (.int .i64 ((n:Int)+1))).alloc (.cells #[.int .i64 D,.int .i64 pl,.string ⟨#[]⟩,.string ⟨#[]⟩,.string ⟨#[]⟩,.int .i64 0,.slice none 0 0,.slice none 0 0,.slice none 0 0] 51)))=W1 at *
 have hW:w.heap.size+1<W1.heap.size:=S1.out.lt
 clear hW1 c3 c1 f1 f3
 refine (HHYP.out c _ (n+1) s.stmt (w.heap.size+1) pl D1.out HAP.out S1.out HF2.out).mono ?_
 intro e w2 hp
 rcases hm2:Sx.nest c.e f D s.stmt (c.full.drop (n+1)) with ⟨x,s2,r2⟩|⟨code,p,rest⟩
 rotate_left
 ·rw [hm2] at hp
  obtain ⟨rfl,hk⟩:=hp
  refine ⟨rfl,?_⟩
  rw [HP.out,hm2]
  exact ⟨rfl,Kp.new ((K1.out.mono (by simp)).trans hk) (Nat.le_succ _)⟩
 rw [hm2] at hp
 obtain ⟨v3,n3,rfl,⟨hv2,m,aE,cE,aB,cB,aL,cL,hS2,hE2,hB2,hL2⟩,hr2,hd2,hk2⟩:=hp
 have HP3:Hid (Sx.ps c.e (f+1) 1 [] s (c.full.drop n)= .inl ([Sx.tS D pl x.1.A x.1.B [] 0 x.1.E x.2.1 x.2.2],s2,c.full.drop n3)):=by
  show _=_
  rw [HP.out,hm2,hr2]
  rfl
 have HD3:=hide hd2
 have HK2:=hide hk2
 obtain ⟨x0,x1,x2,x3,x4,x5,x6,x7,x8,xf⟩:=hS2
 obtain ⟨z0,z1,z2,z3,z4,z5,z6,z7,z8,zf⟩:=Z1.out.keep hk2 (by simp;omega)
 have KE:Hid (Kp [c.rb] w w2):=Kp.new ((K1.out.mono (by simp)).trans HK2.out) (Nat.le_succ _)
 have HRS:Hid (RS w2 (fun b=>w.heap.size+1≤b) m (Sx.tS D pl x.1.A x.1.B [] 0 x.1.E x.2.1 x.2.2) [.int .i64 D,.int .i64 pl,.string (bs x.1.A),.string (bs x.1.B),.string ⟨#[]⟩,.int .i64 0,.slice aE x.1.E.length cE,.slice aB x.2.1.length cB,.slice aL x.2.2.length cL]):=by
  have hb: ∀ b,b<w2.heap.size→W1.heap.size≤b→w.heap.size+1≤b:=fun b _ h=>by omega
  exact ⟨D,pl,x.1.A,x.1.B,[],0,x.1.E,x.2.1,x.2.2,_,_,_,rfl,rfl,hE2.base hb,hB2.base hb,hL2.base hb⟩
 clear hm2 hr2 hd2 hk2 hv2 hE2 hB2 hL2
 generalize bs x.1.A=bA at *
 generalize bs x.1.B=bB at *
 go_wp2
 refine bodyPost_ret (v:= .agg #[.int .i64 D,.int .i64 pl,.string bA,.string bB,.string ⟨#[]⟩,.int .i64 0,.slice aE x.1.E.length cE,.slice aB x.2.1.length cB,.slice aL x.2.2.length cL]) (by simp [results,Tryz.results130,go_sem,z0,z1,z2,z3,z4,z5,z6,z7,z8]) rfl ?_
 rw [HP3.out]
 exact zck HB.out KE.out HD3.out ⟨_,_,_,rfl⟩ ⟨_,_,_,rfl⟩ ⟨_,_,_,rfl⟩ HRS.out
theorem zg1 (f:Nat) (D:Nat) (hy:CN D f) (c:Cx) (w:World) (n:Nat) (s:Sx.St) (h:RD c w n s) (hD:Sx.doOf (Sx.txt (c.full.drop n))=D) (h11:D=13) (h300:s.stmts ≠ 300) (hf: ¬ Dry (Sx.ps c.e (f+1) 1 [] s (c.full.drop n))):
  Calls Tryz.prog 130 #[.pointer (some ⟨c.rb,0,none⟩)] w (Post c [c.rb] w (encSt w) (Sx.ps c.e (f+1) 1 [] s (c.full.drop n))):=by
 have hP:=Sx.ps_1 c.e f [] s (c.full.drop n)
 rw [hD] at hP
 have hd1:=zbt (bs (Sx.txt (c.full.drop n)))
 rw [zat,hD] at hd1
 have HDO:=hide hd1
 have HF:=hide hf
 have HH:=hide h
 have HB:=hide h.lt
 have HHYP:=hide hy
 have hr:=h.rlt
 have q3: ¬ c.rb=w.heap.size:=by omega
 have q4: ¬ c.rb=w.heap.size+1:=by omega
 clear h hf hd1 hy
 generalize hpl:Sx.place c.e (c.full.drop n)=pl at *
 have HPL:=hide hpl
 clear hpl
 have h0:D ≠ 0:=by omega
 have hP':Sx.ps c.e (f+1) 1 [] s (c.full.drop n)=Sx.bnd (Sx.nest c.e f D s.stmt (c.full.drop (n+1))) fun y s r=> .inl ([Sx.tS D pl y.1.A y.1.B [] 0 y.1.E y.2.1 y.2.2],s,r):=by
  rw [hP,if_neg h0,if_neg h300,if_neg (by omega),List.tail_drop]
  unfold Sx.nest
  simp only [Sx.bnd_bnd]
  rfl
 have HP:=hide hP'
 clear hP
 have hP:=hP'
 clear hP'
 have d0:((D:Int) == 0)=false:=by simp;omega
 have d3:((s.stmts:Int) == 300)=false:=by simp;omega
 have d11:((D:Int) == 11)=false:=by simp;omega
 have d12:((D:Int) == 12)=false:=by simp;omega
 have d13:((D:Int) == 13)=true:=by simp;omega
 have hlt:n<c.full.length:=by
  rcases Nat.lt_or_ge n c.full.length with h1|h1
  ·exact h1
  ·rw [List.drop_eq_nil_of_le h1] at hD
   exact absurd hD.symm h0
 have c3:=HH.out.c3
 have c1:=HH.out.c1
 have f1:=HH.out.fz 1
 have f3:=HH.out.fz 3
 have hm:=HH.out.hm
 have b3:=HH.out.b3
 have hl3:s.stmts<300:=by omega
 have HF2:Hid (¬ Dry (Sx.nest c.e f D s.stmt (c.full.drop (n+1)))):=by
  have h1:=HF.out
  rw [hP] at h1
  exact Dry.bnd h1
 have HAP:Hid (c.apart (w.heap.size+1)):=⟨by omega,fun hne=>by have:=HB.out.2 hne;omega⟩
 clear hP h300 h11 h0 hD
 go_enter Tryz.func130,Tryz.ntmps130
 go_wp2_with fail
 refine (zbg c _ n s (by exact HH.out.alloc _)).mono ?_
 rintro e w1 ⟨rfl,k1,rfl⟩
 go_wp2_with fail
 refine (HDO.out _).mono ?_
 rintro e w1 ⟨rfl,hw1⟩
 rw [hw1]
 clear hw1 w1
 go_wp2_with fail
 refine (at_any c _ n s (by exact (HH.out.alloc _).drewN _)).mono ?_
 rintro e w1 ⟨rfl,k2,rfl⟩
 rw [HPL.out]
 go_wp2_with fail
 have S1:Hid (S9 ((((( (w.alloc (.cells #[.int .i64 0,.int .i64 0,.string ⟨#[]⟩,.string ⟨#[]⟩,.string ⟨#[]⟩,.int .i64 0,.slice none 0 0,.slice none 0 0,.slice none 0 0] 51)).drewN (k1+k2)).setCell ⟨c.rb,3,none⟩ (.int .i64 ((s.stmts:Int)+1))).setCell ⟨c.rb,1,none⟩ (.int .i64 ((n:Int)+1))).alloc (.cells #[.int .i64 D,.int .i64 pl,.string ⟨#[]⟩,.string ⟨#[]⟩,.string ⟨#[]⟩,.int .i64 0,.slice none 0 0,.slice none 0 0,.slice none 0 0] 51)))
   (w.heap.size+1) D pl ⟨#[]⟩ ⟨#[]⟩ ⟨#[]⟩ 0 (.slice none 0 0) (.slice none 0 0) (.slice none 0 0)):=by
  have:=S9.new (((w.alloc (.cells #[.int .i64 0,.int .i64 0,.string ⟨#[]⟩,.string ⟨#[]⟩,.string ⟨#[]⟩,.int .i64 0,.slice none 0 0,.slice none 0 0,.slice none 0 0] 51)).drewN (k1+k2)).setCell ⟨c.rb,3,none⟩ (.int .i64 ((s.stmts:Int)+1)) |>.setCell ⟨c.rb,1,none⟩ (.int .i64 ((n:Int)+1))) D pl ⟨#[]⟩ ⟨#[]⟩ ⟨#[]⟩ 0 (.slice none 0 0) (.slice none 0 0) (.slice none 0 0) 51
  have e:(((w.alloc (.cells #[.int .i64 0,.int .i64 0,.string ⟨#[]⟩,.string ⟨#[]⟩,.string ⟨#[]⟩,.int .i64 0,.slice none 0 0,.slice none 0 0,.slice none 0 0] 51)).drewN (k1+k2)).setCell ⟨c.rb,3,none⟩ (.int .i64 ((s.stmts:Int)+1)) |>.setCell ⟨c.rb,1,none⟩ (.int .i64 ((n:Int)+1))).heap.size=w.heap.size+1:=by simp [World.setCell,World.drewN]
  rw [e] at this
  exact this
 have Z1:Hid (S9 ((((( (w.alloc (.cells #[.int .i64 0,.int .i64 0,.string ⟨#[]⟩,.string ⟨#[]⟩,.string ⟨#[]⟩,.int .i64 0,.slice none 0 0,.slice none 0 0,.slice none 0 0] 51)).drewN (k1+k2)).setCell ⟨c.rb,3,none⟩ (.int .i64 ((s.stmts:Int)+1))).setCell ⟨c.rb,1,none⟩ (.int .i64 ((n:Int)+1))).alloc (.cells #[.int .i64 D,.int .i64 pl,.string ⟨#[]⟩,.string ⟨#[]⟩,.string ⟨#[]⟩,.int .i64 0,.slice none 0 0,.slice none 0 0,.slice none 0 0] 51)))
   w.heap.size 0 0 ⟨#[]⟩ ⟨#[]⟩ ⟨#[]⟩ 0 (.slice none 0 0) (.slice none 0 0) (.slice none 0 0)):=
  (S9.new w 0 0 ⟨#[]⟩ ⟨#[]⟩ ⟨#[]⟩ 0 (.slice none 0 0) (.slice none 0 0) (.slice none 0 0) 51).keep (S:=[c.rb]) (Kp.alloc (Kp.rb (Kp.rb ((Kp.refl _ _).drewN _) _ _) _ _) _) (by simp;omega)
 have D1:Hid (RD c ((((( (w.alloc (.cells #[.int .i64 0,.int .i64 0,.string ⟨#[]⟩,.string ⟨#[]⟩,.string ⟨#[]⟩,.int .i64 0,.slice none 0 0,.slice none 0 0,.slice none 0 0] 51)).drewN (k1+k2)).setCell ⟨c.rb,3,none⟩ (.int .i64 ((s.stmts:Int)+1))).setCell ⟨c.rb,1,none⟩ (.int .i64 ((n:Int)+1))).alloc (.cells #[.int .i64 D,.int .i64 pl,.string ⟨#[]⟩,.string ⟨#[]⟩,.string ⟨#[]⟩,.int .i64 0,.slice none 0 0,.slice none 0 0,.slice none 0 0] 51))) (n+1) s.stmt):=
  ((((HH.out.alloc _).drewN _).stmt hl3).step hlt).alloc _
 have K1:Hid (Kp [c.rb] w ((((( (w.alloc (.cells #[.int .i64 0,.int .i64 0,.string ⟨#[]⟩,.string ⟨#[]⟩,.string ⟨#[]⟩,.int .i64 0,.slice none 0 0,.slice none 0 0,.slice none 0 0] 51)).drewN (k1+k2)).setCell ⟨c.rb,3,none⟩ (.int .i64 ((s.stmts:Int)+1))).setCell ⟨c.rb,1,none⟩ (.int .i64 ((n:Int)+1))).alloc (.cells #[.int .i64 D,.int .i64 pl,.string ⟨#[]⟩,.string ⟨#[]⟩,.string ⟨#[]⟩,.int .i64 0,.slice none 0 0,.slice none 0 0,.slice none 0 0] 51)))):=
  Kp.alloc (Kp.rb (Kp.rb (((Kp.refl _ _).alloc _).drewN _) _ _) _ _) _
 generalize hW1:((((( (w.alloc (.cells #[.int .i64 0,.int .i64 0,.string ⟨#[]⟩,.string ⟨#[]⟩,.string ⟨#[]⟩,.int .i64 0,.slice none 0 0,.slice none 0 0,.slice none 0 0] 51)).drewN (k1+k2)).setCell ⟨c.rb,3,none⟩ (.int .i64 ((s.stmts:Int)+1))).setCell ⟨c.rb,1,none⟩ (.int .i64 ((n:Int)+1))).alloc (.cells #[.int .i64 D,.int .i64 pl,.string ⟨#[]⟩,.string ⟨#[]⟩,.string ⟨#[]⟩,.int .i64 0,.slice none 0 0,.slice none 0 0,.slice none 0 0] 51)))=W1 at *
 have hW:w.heap.size+1<W1.heap.size:=S1.out.lt
 clear hW1 c3 c1 f1 f3
 refine (HHYP.out c _ (n+1) s.stmt (w.heap.size+1) pl D1.out HAP.out S1.out HF2.out).mono ?_
 intro e w2 hp
 rcases hm2:Sx.nest c.e f D s.stmt (c.full.drop (n+1)) with ⟨x,s2,r2⟩|⟨code,p,rest⟩
 rotate_left
 ·rw [hm2] at hp
  obtain ⟨rfl,hk⟩:=hp
  refine ⟨rfl,?_⟩
  rw [HP.out,hm2]
  exact ⟨rfl,Kp.new ((K1.out.mono (by simp)).trans hk) (Nat.le_succ _)⟩
 rw [hm2] at hp
 obtain ⟨v3,n3,rfl,⟨hv2,m,aE,cE,aB,cB,aL,cL,hS2,hE2,hB2,hL2⟩,hr2,hd2,hk2⟩:=hp
 have HP3:Hid (Sx.ps c.e (f+1) 1 [] s (c.full.drop n)= .inl ([Sx.tS D pl x.1.A x.1.B [] 0 x.1.E x.2.1 x.2.2],s2,c.full.drop n3)):=by
  show _=_
  rw [HP.out,hm2,hr2]
  rfl
 have HD3:=hide hd2
 have HK2:=hide hk2
 obtain ⟨x0,x1,x2,x3,x4,x5,x6,x7,x8,xf⟩:=hS2
 obtain ⟨z0,z1,z2,z3,z4,z5,z6,z7,z8,zf⟩:=Z1.out.keep hk2 (by simp;omega)
 have KE:Hid (Kp [c.rb] w w2):=Kp.new ((K1.out.mono (by simp)).trans HK2.out) (Nat.le_succ _)
 have HRS:Hid (RS w2 (fun b=>w.heap.size+1≤b) m (Sx.tS D pl x.1.A x.1.B [] 0 x.1.E x.2.1 x.2.2) [.int .i64 D,.int .i64 pl,.string (bs x.1.A),.string (bs x.1.B),.string ⟨#[]⟩,.int .i64 0,.slice aE x.1.E.length cE,.slice aB x.2.1.length cB,.slice aL x.2.2.length cL]):=by
  have hb: ∀ b,b<w2.heap.size→W1.heap.size≤b→w.heap.size+1≤b:=fun b _ h=>by omega
  exact ⟨D,pl,x.1.A,x.1.B,[],0,x.1.E,x.2.1,x.2.2,_,_,_,rfl,rfl,hE2.base hb,hB2.base hb,hL2.base hb⟩
 clear hm2 hr2 hd2 hk2 hv2 hE2 hB2 hL2
 generalize bs x.1.A=bA at *
 generalize bs x.1.B=bB at *
 go_wp2
 refine bodyPost_ret (v:= .agg #[.int .i64 D,.int .i64 pl,.string bA,.string bB,.string ⟨#[]⟩,.int .i64 0,.slice aE x.1.E.length cE,.slice aB x.2.1.length cB,.slice aL x.2.2.length cL]) (by simp [results,Tryz.results130,go_sem,z0,z1,z2,z3,z4,z5,z6,z7,z8]) rfl ?_
 rw [HP3.out]
 exact zck HB.out KE.out HD3.out ⟨_,_,_,rfl⟩ ⟨_,_,_,rfl⟩ ⟨_,_,_,rfl⟩ HRS.out
theorem zg2 (f:Nat) (D:Nat) (hy:CN D f) (c:Cx) (w:World) (n:Nat) (s:Sx.St) (h:RD c w n s) (hD:Sx.doOf (Sx.txt (c.full.drop n))=D) (h11:D=14) (h300:s.stmts ≠ 300) (hf: ¬ Dry (Sx.ps c.e (f+1) 1 [] s (c.full.drop n))):
  Calls Tryz.prog 130 #[.pointer (some ⟨c.rb,0,none⟩)] w (Post c [c.rb] w (encSt w) (Sx.ps c.e (f+1) 1 [] s (c.full.drop n))):=by
 have hP:=Sx.ps_1 c.e f [] s (c.full.drop n)
 rw [hD] at hP
 have hd1:=zbt (bs (Sx.txt (c.full.drop n)))
 rw [zat,hD] at hd1
 have HDO:=hide hd1
 have HF:=hide hf
 have HH:=hide h
 have HB:=hide h.lt
 have HHYP:=hide hy
 have hr:=h.rlt
 have q3: ¬ c.rb=w.heap.size:=by omega
 have q4: ¬ c.rb=w.heap.size+1:=by omega
 clear h hf hd1 hy
 generalize hpl:Sx.place c.e (c.full.drop n)=pl at *
 have HPL:=hide hpl
 clear hpl
 have h0:D ≠ 0:=by omega
 have hP':Sx.ps c.e (f+1) 1 [] s (c.full.drop n)=Sx.bnd (Sx.nest c.e f D s.stmt (c.full.drop (n+1))) fun y s r=> .inl ([Sx.tS D pl y.1.A y.1.B [] 0 y.1.E y.2.1 y.2.2],s,r):=by
  rw [hP,if_neg h0,if_neg h300,if_neg (by omega),List.tail_drop]
  unfold Sx.nest
  simp only [Sx.bnd_bnd]
  rfl
 have HP:=hide hP'
 clear hP
 have hP:=hP'
 clear hP'
 have d0:((D:Int) == 0)=false:=by simp;omega
 have d3:((s.stmts:Int) == 300)=false:=by simp;omega
 have d11:((D:Int) == 11)=false:=by simp;omega
 have d12:((D:Int) == 12)=false:=by simp;omega
 have d13:((D:Int) == 13)=false:=by simp;omega
 have d14:((D:Int) == 14)=true:=by simp;omega
 have hlt:n<c.full.length:=by
  rcases Nat.lt_or_ge n c.full.length with h1|h1
  ·exact h1
  ·rw [List.drop_eq_nil_of_le h1] at hD
   exact absurd hD.symm h0
 have c3:=HH.out.c3
 have c1:=HH.out.c1
 have f1:=HH.out.fz 1
 have f3:=HH.out.fz 3
 have hm:=HH.out.hm
 have b3:=HH.out.b3
 have hl3:s.stmts<300:=by omega
 have HF2:Hid (¬ Dry (Sx.nest c.e f D s.stmt (c.full.drop (n+1)))):=by
  have h1:=HF.out
  rw [hP] at h1
  exact Dry.bnd h1
 have HAP:Hid (c.apart (w.heap.size+1)):=⟨by omega,fun hne=>by have:=HB.out.2 hne;omega⟩
 clear hP h300 h11 h0 hD
 go_enter Tryz.func130,Tryz.ntmps130
 go_wp2_with fail
 refine (zbg c _ n s (by exact HH.out.alloc _)).mono ?_
 rintro e w1 ⟨rfl,k1,rfl⟩
 go_wp2_with fail
 refine (HDO.out _).mono ?_
 rintro e w1 ⟨rfl,hw1⟩
 rw [hw1]
 clear hw1 w1
 go_wp2_with fail
 refine (at_any c _ n s (by exact (HH.out.alloc _).drewN _)).mono ?_
 rintro e w1 ⟨rfl,k2,rfl⟩
 rw [HPL.out]
 go_wp2_with fail
 have S1:Hid (S9 ((((( (w.alloc (.cells #[.int .i64 0,.int .i64 0,.string ⟨#[]⟩,.string ⟨#[]⟩,.string ⟨#[]⟩,.int .i64 0,.slice none 0 0,.slice none 0 0,.slice none 0 0] 51)).drewN (k1+k2)).setCell ⟨c.rb,3,none⟩ (.int .i64 ((s.stmts:Int)+1))).setCell ⟨c.rb,1,none⟩ (.int .i64 ((n:Int)+1))).alloc (.cells #[.int .i64 D,.int .i64 pl,.string ⟨#[]⟩,.string ⟨#[]⟩,.string ⟨#[]⟩,.int .i64 0,.slice none 0 0,.slice none 0 0,.slice none 0 0] 51)))
   (w.heap.size+1) D pl ⟨#[]⟩ ⟨#[]⟩ ⟨#[]⟩ 0 (.slice none 0 0) (.slice none 0 0) (.slice none 0 0)):=by
  have:=S9.new (((w.alloc (.cells #[.int .i64 0,.int .i64 0,.string ⟨#[]⟩,.string ⟨#[]⟩,.string ⟨#[]⟩,.int .i64 0,.slice none 0 0,.slice none 0 0,.slice none 0 0] 51)).drewN (k1+k2)).setCell ⟨c.rb,3,none⟩ (.int .i64 ((s.stmts:Int)+1)) |>.setCell ⟨c.rb,1,none⟩ (.int .i64 ((n:Int)+1))) D pl ⟨#[]⟩ ⟨#[]⟩ ⟨#[]⟩ 0 (.slice none 0 0) (.slice none 0 0) (.slice none 0 0) 51
  have e:(((w.alloc (.cells #[.int .i64 0,.int .i64 0,.string ⟨#[]⟩,.string ⟨#[]⟩,.string ⟨#[]⟩,.int .i64 0,.slice none 0 0,.slice none 0 0,.slice none 0 0] 51)).drewN (k1+k2)).setCell ⟨c.rb,3,none⟩ (.int .i64 ((s.stmts:Int)+1)) |>.setCell ⟨c.rb,1,none⟩ (.int .i64 ((n:Int)+1))).heap.size=w.heap.size+1:=by simp [World.setCell,World.drewN]
  rw [e] at this
  exact this
 have Z1:Hid (S9 ((((( (w.alloc (.cells #[.int .i64 0,.int .i64 0,.string ⟨#[]⟩,.string ⟨#[]⟩,.string ⟨#[]⟩,.int .i64 0,.slice none 0 0,.slice none 0 0,.slice none 0 0] 51)).drewN (k1+k2)).setCell ⟨c.rb,3,none⟩ (.int .i64 ((s.stmts:Int)+1))).setCell ⟨c.rb,1,none⟩ (.int .i64 ((n:Int)+1))).alloc (.cells #[.int .i64 D,.int .i64 pl,.string ⟨#[]⟩,.string ⟨#[]⟩,.string ⟨#[]⟩,.int .i64 0,.slice none 0 0,.slice none 0 0,.slice none 0 0] 51)))
   w.heap.size 0 0 ⟨#[]⟩ ⟨#[]⟩ ⟨#[]⟩ 0 (.slice none 0 0) (.slice none 0 0) (.slice none 0 0)):=
  (S9.new w 0 0 ⟨#[]⟩ ⟨#[]⟩ ⟨#[]⟩ 0 (.slice none 0 0) (.slice none 0 0) (.slice none 0 0) 51).keep (S:=[c.rb]) (Kp.alloc (Kp.rb (Kp.rb ((Kp.refl _ _).drewN _) _ _) _ _) _) (by simp;omega)
 have D1:Hid (RD c ((((( (w.alloc (.cells #[.int .i64 0,.int .i64 0,.string ⟨#[]⟩,.string ⟨#[]⟩,.string ⟨#[]⟩,.int .i64 0,.slice none 0 0,.slice none 0 0,.slice none 0 0] 51)).drewN (k1+k2)).setCell ⟨c.rb,3,none⟩ (.int .i64 ((s.stmts:Int)+1))).setCell ⟨c.rb,1,none⟩ (.int .i64 ((n:Int)+1))).alloc (.cells #[.int .i64 D,.int .i64 pl,.string ⟨#[]⟩,.string ⟨#[]⟩,.string ⟨#[]⟩,.int .i64 0,.slice none 0 0,.slice none 0 0,.slice none 0 0] 51))) (n+1) s.stmt):=
  ((((HH.out.alloc _).drewN _).stmt hl3).step hlt).alloc _
 have K1:Hid (Kp [c.rb] w ((((( (w.alloc (.cells #[.int .i64 0,.int .i64 0,.string ⟨#[]⟩,.string ⟨#[]⟩,.string ⟨#[]⟩,.int .i64 0,.slice none 0 0,.slice none 0 0,.slice none 0 0] 51)).drewN (k1+k2)).setCell ⟨c.rb,3,none⟩ (.int .i64 ((s.stmts:Int)+1))).setCell ⟨c.rb,1,none⟩ (.int .i64 ((n:Int)+1))).alloc (.cells #[.int .i64 D,.int .i64 pl,.string ⟨#[]⟩,.string ⟨#[]⟩,.string ⟨#[]⟩,.int .i64 0,.slice none 0 0,.slice none 0 0,.slice none 0 0] 51)))):=
  Kp.alloc (Kp.rb (Kp.rb (((Kp.refl _ _).alloc _).drewN _) _ _) _ _) _
 generalize hW1:((((( (w.alloc (.cells #[.int .i64 0,.int .i64 0,.string ⟨#[]⟩,.string ⟨#[]⟩,.string ⟨#[]⟩,.int .i64 0,.slice none 0 0,.slice none 0 0,.slice none 0 0] 51)).drewN (k1+k2)).setCell ⟨c.rb,3,none⟩ (.int .i64 ((s.stmts:Int)+1))).setCell ⟨c.rb,1,none⟩ (.int .i64 ((n:Int)+1))).alloc (.cells #[.int .i64 D,.int .i64 pl,.string ⟨#[]⟩,.string ⟨#[]⟩,.string ⟨#[]⟩,.int .i64 0,.slice none 0 0,.slice none 0 0,.slice none 0 0] 51)))=W1 at *
 have hW:w.heap.size+1<W1.heap.size:=S1.out.lt
 clear hW1 c3 c1 f1 f3
 refine (HHYP.out c _ (n+1) s.stmt (w.heap.size+1) pl D1.out HAP.out S1.out HF2.out).mono ?_
 intro e w2 hp
 rcases hm2:Sx.nest c.e f D s.stmt (c.full.drop (n+1)) with ⟨x,s2,r2⟩|⟨code,p,rest⟩
 rotate_left
 ·rw [hm2] at hp
  obtain ⟨rfl,hk⟩:=hp
  refine ⟨rfl,?_⟩
  rw [HP.out,hm2]
  exact ⟨rfl,Kp.new ((K1.out.mono (by simp)).trans hk) (Nat.le_succ _)⟩
 rw [hm2] at hp
 obtain ⟨v3,n3,rfl,⟨hv2,m,aE,cE,aB,cB,aL,cL,hS2,hE2,hB2,hL2⟩,hr2,hd2,hk2⟩:=hp
 have HP3:Hid (Sx.ps c.e (f+1) 1 [] s (c.full.drop n)= .inl ([Sx.tS D pl x.1.A x.1.B [] 0 x.1.E x.2.1 x.2.2],s2,c.full.drop n3)):=by
  show _=_
  rw [HP.out,hm2,hr2]
  rfl
 have HD3:=hide hd2
 have HK2:=hide hk2
 obtain ⟨x0,x1,x2,x3,x4,x5,x6,x7,x8,xf⟩:=hS2
 obtain ⟨z0,z1,z2,z3,z4,z5,z6,z7,z8,zf⟩:=Z1.out.keep hk2 (by simp;omega)
 have KE:Hid (Kp [c.rb] w w2):=Kp.new ((K1.out.mono (by simp)).trans HK2.out) (Nat.le_succ _)
 have HRS:Hid (RS w2 (fun b=>w.heap.size+1≤b) m (Sx.tS D pl x.1.A x.1.B [] 0 x.1.E x.2.1 x.2.2) [.int .i64 D,.int .i64 pl,.string (bs x.1.A),.string (bs x.1.B),.string ⟨#[]⟩,.int .i64 0,.slice aE x.1.E.length cE,.slice aB x.2.1.length cB,.slice aL x.2.2.length cL]):=by
  have hb: ∀ b,b<w2.heap.size→W1.heap.size≤b→w.heap.size+1≤b:=fun b _ h=>by omega
  exact ⟨D,pl,x.1.A,x.1.B,[],0,x.1.E,x.2.1,x.2.2,_,_,_,rfl,rfl,hE2.base hb,hB2.base hb,hL2.base hb⟩
 clear hm2 hr2 hd2 hk2 hv2 hE2 hB2 hL2
 generalize bs x.1.A=bA at *
 generalize bs x.1.B=bB at *
 go_wp2
 refine bodyPost_ret (v:= .agg #[.int .i64 D,.int .i64 pl,.string bA,.string bB,.string ⟨#[]⟩,.int .i64 0,.slice aE x.1.E.length cE,.slice aB x.2.1.length cB,.slice aL x.2.2.length cL]) (by simp [results,Tryz.results130,go_sem,z0,z1,z2,z3,z4,z5,z6,z7,z8]) rfl ?_
 rw [HP3.out]
 exact zck HB.out KE.out HD3.out ⟨_,_,_,rfl⟩ ⟨_,_,_,rfl⟩ ⟨_,_,_,rfl⟩ HRS.out
theorem zki (f:Nat) (h10:CP 10 f) (hB:CB f):CS (f+1):=by
 intro c w n s h hf
 have hlt:=znb (Sx.txt (c.full.drop n))
 rcases Nat.eq_zero_or_pos (Sx.doOf (Sx.txt (c.full.drop n))) with h0|h0
 ·exact zkg f _ trivial c w n s h rfl h0 hf
 ·by_cases h300:s.stmts=300
  ·exact zkh f _ trivial c w n s h rfl (by omega) h300 hf
  ·have hn: ∀ D,D=11∨D=12∨D=13∨D=14→CN D f:=by
    intro D hD
    rcases hD with rfl|rfl|rfl|rfl
    ·exact fun c w n s sb at' h1 h2 h3 h4=>zia f hB c w n s sb at' h1 h2 h3 h4
    ·exact fun c w n s sb at' h1 h2 h3 h4=>zib f hB c w n s sb at' h1 h2 h3 h4
    ·exact fun c w n s sb at' h1 h2 h3 h4=>zic f hB c w n s sb at' h1 h2 h3 h4
    ·exact fun c w n s sb at' h1 h2 h3 h4=>zid f hB c w n s sb at' h1 h2 h3 h4
   have hp: ∀ D,0<D→D<11→CP D f:=by
    intro D h1 h2
    have hD:D=1∨D=2∨D=3∨D=4∨D=5∨D=6∨D=7∨D=8∨D=9∨D=10:=by omega
    rcases hD with rfl|rfl|rfl|rfl|rfl|rfl|rfl|rfl|rfl|rfl
    ·exact fun c w n s sb at' h1 h2 h3 h4=>zm1 f c w n s sb at' h1 h2 h3 h4
    ·exact fun c w n s sb at' h1 h2 h3 h4=>zm2 f c w n s sb at' h1 h2 h3 h4
    ·exact fun c w n s sb at' h1 h2 h3 h4=>zm3 f c w n s sb at' h1 h2 h3 h4
    ·exact fun c w n s sb at' h1 h2 h3 h4=>zm4 f c w n s sb at' h1 h2 h3 h4
    ·exact fun c w n s sb at' h1 h2 h3 h4=>zm5 f c w n s sb at' h1 h2 h3 h4
    ·exact fun c w n s sb at' h1 h2 h3 h4=>zm6 f c w n s sb at' h1 h2 h3 h4
    ·exact fun c w n s sb at' h1 h2 h3 h4=>zm7 f c w n s sb at' h1 h2 h3 h4
    ·exact fun c w n s sb at' h1 h2 h3 h4=>zm8 f c w n s sb at' h1 h2 h3 h4
    ·exact fun c w n s sb at' h1 h2 h3 h4=>zm9 f c w n s sb at' h1 h2 h3 h4
    ·exact h10
   rcases Nat.lt_or_ge (Sx.doOf (Sx.txt (c.full.drop n))) 11 with hl|hl
   ·exact zie f _ (hp _ h0 hl) c w n s h rfl (by omega) hl h300 hf
   ·have hD:Sx.doOf (Sx.txt (c.full.drop n))=11∨Sx.doOf (Sx.txt (c.full.drop n))=12∨Sx.doOf (Sx.txt (c.full.drop n))=13∨Sx.doOf (Sx.txt (c.full.drop n))=14:=by omega
    have hN:=hn _ hD
    rcases hD with hD|hD|hD|hD
    ·exact zgz f _ hN c w n s h rfl hD h300 hf
    ·exact zg0 f _ hN c w n s h rfl hD h300 hf
    ·exact zg1 f _ hN c w n s h rfl hD h300 hf
    ·exact zg2 f _ hN c w n s h rfl hD h300 hf
end Go.Proofs.YtagblibbngmbdaaGreatDoor
