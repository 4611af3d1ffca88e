import Derived.Test.YtagblibbngmbdaaGreatDoorMar
import Derived.Test.YtagblibbngmbdaaGreatDoorMbr
set_option maxRecDepth 100000
set_option maxHeartbeats 16000000
namespace Go.Proofs.YtagblibbngmbdaaGreatDoor
open Go.RowKit
def ArgC (f:Nat):Prop:= ∀ (c:Cx) (w0:World) (bx sb:Nat) (D at':Int) (A:ByteArray),c.apart sb→ ∀ (acc:List Sx.Tr) (w:World) (n:Nat) (s:Sx.St),acc.length≤6→
  (∃ uE cs,AB c w0 w bx sb D at' A uE acc cs)→RD c w n s→Kp [sb,c.rb] w0 w→ ¬ Dry (Sx.argOne c.e f acc s (c.full.drop n))→
  Calls Tryz.prog 172 #[.pointer (some ⟨bx+1,0,none⟩),.pointer (some ⟨bx,0,none⟩)] w (Post c [sb,c.rb] w0 (fun w' acc' v=>v= .tuple #[]∧ ∃ uE cs,AB c w0 w' bx sb D at' A uE acc' cs) (Sx.argOne c.e f acc s (c.full.drop n)))
theorem zmb (f:Nat) (hArg:ArgC f) (c:Cx) (w:World) (n:Nat) (s:Sx.St) (sb:Nat) (at':Int) (h:RD c w n s) (hA:c.apart sb) (hS:S9 w sb 10 at' ⟨#[]⟩ ⟨#[]⟩ ⟨#[]⟩ 0 (.slice none 0 0) (.slice none 0 0) (.slice none 0 0)) (hf: ¬ Dry (Sx.plain c.e f 10 s (c.full.drop n))):
  Calls Tryz.prog 150 #[.pointer (some ⟨c.rb,0,none⟩),.pointer (some ⟨sb,0,none⟩)] w (Post c [sb,c.rb] w (encF w sb 10 at') (Sx.plain c.e f 10 s (c.full.drop n))):=by
 have HP0:=hide (PB.start h hA hS 106 184)
 have HF:=hide hf
 have HSub:Hid (∀ a b,Kp [c.rb] a b→Kp [sb,c.rb] a b):=fun a b h=>h.mono (by simp)
 have hr:=h.rlt
 have hsl:=hS.lt
 have HSl:Hid (sb<w.heap.size):=hsl
 have HRb:Hid (c.rb<w.heap.size):=hr
 have hne:=hA.1
 have hne':sb ≠ c.rb:=fun e=>hne e.symm
 obtain ⟨c0,c1,c2,c3,c4,c5,c6,c7,c8,cf⟩:=hS
 have q1: ¬ sb=w.heap.size:=by omega
 have q2: ¬ sb=w.heap.size+1:=by omega
 have q3: ¬ c.rb=w.heap.size:=by omega
 have q4: ¬ c.rb=w.heap.size+1:=by omega
 clear h hA hf
 have HARG:=hide hArg
 clear hArg
 have HE0:Hid (Sx.plain c.e f 10 s (c.full.drop n)=Sx.bnd (Sx.nameOf c.e s (c.full.drop n)) fun A s r=>Sx.bnd (Sx.brk c.e (Sx.argOne c.e f) [] s r) fun l s r=> .inl ({ Sx.F0 with A:=A,E:=l },s,r)):=by
  show _=_
  unfold Sx.plain Sx.plainB
  rfl
 go_enter Tryz.func150,Tryz.ntmps150
 go_wp2
 go_region_held_law (fun w'=>w'.cell? ⟨w.heap.size,0,none⟩=some (.pointer (some ⟨c.rb,0,none⟩))∧w'.cell? ⟨w.heap.size+1,0,none⟩=some (.pointer (some ⟨sb,0,none⟩))) ((first|exact ⟨by assumption,by assumption⟩|go_keep))
  ((refine zae rfl 106 #[.pointer (some ⟨c.rb,0,none⟩)] (by go_simp) (zay c _ n s (by exact HP0.out.drew.rd)) (fun code p rest w' hr hk=>⟨rfl,by rw [HE0.out,hr];exact ⟨rfl,HP0.out.drew.kp.trans (HSub.out _ _ hk)⟩⟩) ?_;intro v1 w1 A s1 n1 hm1 hv1 hd1 hk1;unfold encT at hv1;subst hv1;have hP1:=HP0.out.drew.go hd1 hk1;have HM1:=hide hm1;have e01:=hP1.b0;have e11:=hP1.b1;obtain ⟨c01,c11,c21,c31,c41,c51,c61,c71,c81,cf1⟩:=hP1.s9;have HQ1:=hide hP1;clear hm1 hd1 hk1 hP1))
 have HE1:Hid (Sx.plain c.e f 10 s (c.full.drop n)=Sx.bnd (Sx.brk c.e (Sx.argOne c.e f) [] s1 (c.full.drop n1)) fun l s r=> .inl ({ Sx.F0 with A:=A,E:=l },s,r)):=by
  show _=_
  rw [HE0.out,HM1.out]
  rfl
 have HP1:=hide (HQ1.out.setA (bs A))
 have HF1:Hid (¬ Dry (Sx.brk c.e (Sx.argOne c.e f) [] s1 (c.full.drop n1))):=by
  have h1:=HF.out
  rw [HE1.out] at h1
  exact Dry.bnd h1
 generalize hbA:bs A=bA at *
 have HBA:=hide hbA
 clear hbA
 have hq:=HP1.out
 go_wp2_with fail
 generalize hwb:w1.setCell ⟨sb,2,none⟩ (.string bA)=wb at *
 have KB:=hide hq.kp
 have hblt:w.heap.size+1<wb.heap.size:=World.block_lt_of_cell? wb ⟨w.heap.size+1,0,none⟩ hq.b1
 have hslt:=hq.s9.lt
 have hrlt:=hq.rd.rlt
 have hC:=HARG.out c wb w.heap.size sb 10 at' bA hq.ap
 have hI0: ∃ uE cs,AB c wb wb w.heap.size sb 10 at' bA uE [] cs:=
  ⟨.slice none 0 0,[],hq.s9,hq.b0,hq.b1,World.ownsRow_nil _ _ _ _,⟨0,rfl⟩,⟨_,_,_,rfl⟩,⟨by omega,by omega⟩,⟨by omega,by omega⟩,hq.ap.1.symm,hblt,hslt,hq.rd.lt⟩
 have HB0:Hid (w.heap.size≤wb.heap.size):=KB.out.size
 refine (zdt c [sb,c.rb] (by simp) _ _ (fun w' acc=> ∃ uE cs,AB c wb w' w.heap.size sb 10 at' bA uE acc cs) (fun a b acc h hk=>by obtain ⟨uE,cs,h⟩:=h;exact ⟨uE,cs,h.go hk⟩) (Sx.argOne c.e f)
  (fun acc s ts acc' s' r h=>⟨(Sx.argOne_keeps _ _ _ _ _ _ _ _ h).len,by
   obtain ⟨_,_,_,_,h2⟩:=Sx.bnd_ok h
   rw [←(Sx.inl_ok h2).1];simp⟩) wb (fun acc w1 n s hl hi hd hk hf=>hC acc w1 n s hl hi hd hk hf) [] rfl n1 s1 hI0 hq.rd HF1.out).mono ?_
 intro e w2 hp
 rcases hm2:Sx.brk c.e (Sx.argOne c.e f) [] s1 (c.full.drop n1) with ⟨l,s2,r2⟩|⟨code,p,rest⟩
 rotate_left
 ·rw [hm2] at hp
  obtain ⟨rfl,hk⟩:=hp
  refine ⟨rfl,?_⟩
  rw [HE1.out,hm2]
  exact ⟨rfl,KB.out.trans hk⟩
 rw [hm2] at hp
 obtain ⟨v2,n2,rfl,⟨hv2,uE,cs,hAB⟩,hr2,hd2,hk2⟩:=hp
 have HE2:Hid (Sx.plain c.e f 10 s (c.full.drop n)= .inl ({ Sx.F0 with A:=A,E:=l },s2,c.full.drop n2)):=by
  show _=_
  rw [HE1.out,hm2,hr2]
  rfl
 have HAB:=hide hAB
 have HD2:=hide hd2
 have HK2:=hide hk2
 clear hm2 hr2 hd2 hk2 hv2 hAB hq hI0 hC
 go_wp2
 go_end0
 rw [HE2.out]
 obtain ⟨a,nn,cap,hu⟩:=HAB.out.sl
 have hln:nn=l.length:=by
  have h1:=HAB.out.own.2
  rw [hu] at h1
  rcases h1 with ⟨hv,hn⟩|⟨g,cap,cur,hv,_⟩
  ·simp only [Value.slice.injEq] at hv
   omega
  ·simp only [Value.slice.injEq] at hv
   exact hv.2.1
 subst hu
 subst hln
 obtain ⟨m,hm⟩:=HAB.out.rw
 refine ⟨_,n2,rfl,⟨rfl,m+1,a,cap,?_,?_⟩,rfl,HD2.out,KB.out.trans HK2.out⟩
 ·show S9 _ _ _ _ (bs A) (bs []) (bs []) 0 _ _ _
  rw [HBA.out,zhq]
  exact HAB.out.s9
 ·have hb0:=HB0.out
  refine EL.of_sl (Sl.of_own (B:=wb.heap.size) HAB.out.own rfl (fun b hb=>by omega) ?_)
  exact hm.mono (fun d cc hd=>hd.base (fun b _ hb=>by omega))
end Go.Proofs.YtagblibbngmbdaaGreatDoor
namespace Go.Proofs.YtagblibbngmbdaaGreatDoor
open Go.RowKit
theorem zhy {w:World} {b:Nat} {v0 v1 v2 v3:Value} (h:X4 w b v0 v1 v2 v3): ∀ (j:Nat) (v:Value),[v0,v1,v2,v3][j]? =some v→w.cell? ((⟨b,0,none⟩:Addr).add j)=some v:=by
 intro j v hj
 rw [Addr.add_mid,Nat.zero_add]
 match j,hj with
 |0,hj=>simp at hj;subst hj;exact h.c0
 |1,hj=>simp at hj;subst hj;exact h.c1
 |2,hj=>simp at hj;subst hj;exact h.c2
 |3,hj=>simp at hj;subst hj;exact h.c3
theorem zn0 (f:Nat) (c:Cx) (w0:World) (bx sb:Nat) (D at':Int) (A:ByteArray) (hap:c.apart sb) (acc:List Sx.Tr) (w:World) (n:Nat) (s:Sx.St) (hl:acc.length≤6)
  (hi: ∃ uE cs,AB c w0 w bx sb D at' A uE acc cs) (h:RD c w n s) (hk0:Kp [sb,c.rb] w0 w) (hf: ¬ Dry (Sx.argOne c.e f acc s (c.full.drop n))):
  Calls Tryz.prog 172 #[.pointer (some ⟨bx+1,0,none⟩),.pointer (some ⟨bx,0,none⟩)] w (Post c [sb,c.rb] w0 (fun w' acc' v=>v= .tuple #[]∧ ∃ uE cs,AB c w0 w' bx sb D at' A uE acc' cs) (Sx.argOne c.e f acc s (c.full.drop n))):=by
 obtain ⟨i0,hi0,hz0,hz1,hz2⟩:=info_parts Tryz.infoExpr
 obtain ⟨uE,cs,hG⟩:=hi
 obtain ⟨aP,nP,cP,rfl⟩:=hG.sl
 have hnP:nP=acc.length:=by
  rcases hG.own.2 with ⟨hv,hn⟩|⟨g,cap,cur,hv,_⟩
  ·simp only [Value.slice.injEq] at hv
   omega
  ·simp only [Value.slice.injEq] at hv
   exact hv.2.1
 subst hnP
 have HG:=hide hG
 have HH:=hide h
 have HK0:=hide hk0
 have HAP:=hide hap
 have HSub:Hid (∀ a b,Kp [c.rb] a b→Kp [sb,c.rb] a b):=fun a b h=>h.mono (by simp)
 have b0:=hG.b0
 have b1:=hG.b1
 have HF:Hid (¬ Dry (Sx.pe c.e f 0 Sx.d0 s (c.full.drop n))):=Dry.bnd hf
 clear h hk0 hG hap hf
 go_enter Tryz.func172,Tryz.ntmps172
 go_wp2
 go_region
 all_goals go_wp2
 ·have HG1:=hide (HG.out.go (((Kp.refl _ _).alloc (.cells #[.bool false] 4)).drew))
  have HK1:=hide ((HK0.out.alloc (.cells #[.bool false] 4)).drew)
  have HD1:=hide ((HH.out.alloc (.cells #[.bool false] 4)).drew)
  generalize hw1:(w.alloc (.cells #[.bool false] 4)).drew=w1 at *
  clear hw1 b0 b1
  have e0:=HG1.out.b0
  have e1:=HG1.out.b1
  obtain ⟨s0,s1,s2,s3,s4,s5,s6,s7,s8,sf⟩:=HG1.out.s9
  have HE1:Hid (Sx.argOne c.e f acc s (c.full.drop n)=Sx.bnd (Sx.pe c.e f 0 Sx.d0 s (c.full.drop n)) fun x s r=> .inl (acc++[x],s,r)):=rfl
  go_region_law ((first
   |(refine step_append_lies _ rfl _ _ 47 rfl w0.heap.size 49 i0 (.agg #[.int .i64 0,.string ⟨#[]⟩,.int .i64 0,.slice none 0 0]) 4 56 Tryz.underlying47 hi0 hz0 hz1 hz2 rfl (by decide) (.slice aP acc.length cP) acc.length cs (by rfl) (by exact HG2.out.own.alloc _) ⟨w2.heap.size,0,none⟩ 1 1 [.int .i64 op,.string nm,.int .i64 k,.slice aL nL cL] (by rfl) rfl (zap _ _ rfl _ _ _ _ _) (by intro u hu;simp at hu;rcases hu with rfl|rfl|rfl|rfl<;> rfl) (by decide) (by unfold maxLen;omega) (by omega) (by have:=HK2.out.size;simp;omega) _ rfl ?_;intro g cap w3 hown hgrow hat hlt;have HOW:=hide hown;have HGR:=hide hgrow;have HAT:=hide hat;obtain ⟨z0,z1,z2,z3,z4,z5,z6,z7,z8,zf⟩:=(HG2.out.s9.keep (S:=[]) ((Kp.refl _ _).alloc _) (by simp)).keep (Kp.of_grown hgrow) (fun hm=>by have h1:=zau HG2.out.own _ hm;have h2:=HG2.out.slt;omega);have y0:=zaa (Kp.of_grown hgrow) (zaa ((Kp.refl [] _).alloc _) HG2.out.b0 (by simp)) (fun hm=>by have h1:=zau HG2.out.own _ hm;have h2:=HG2.out.blt;omega);have y1:=zaa (Kp.of_grown hgrow) (zaa ((Kp.refl [] _).alloc _) HG2.out.b1 (by simp)) (fun hm=>by have h1:=zau HG2.out.own _ hm;have h2:=HG2.out.blt;omega);clear hown hgrow hat)
   |(refine zae rfl 173 #[.pointer (some ⟨c.rb,0,none⟩)] (by go_simp) ((zfr f).1 c _ n s (by exact HD1.out.drew) HF.out) (fun code p rest w' hr hk=>⟨rfl,by rw [HE1.out,hr];exact ⟨rfl,HK1.out.drew.trans (HSub.out _ _ hk)⟩⟩) ?_;intro v2 w2 x s2 n2 hm2 hv2 hd2 hk2;have HV2:=hide hv2;obtain ⟨f1,op,nmm,k,L,aL,nL,cL,hlL,hxL,hvv,hEL⟩:=hv2.open;subst hvv;have HEL:=hide hEL;have HXL:=hide hxL;generalize hnm:bs nmm=nm at *;have HNM:=hide hnm;have hg2:=(HG1.out.go (Kp.refl _ _).drew).go hk2;have HM2:=hide hm2;have HD2:=hide hd2;have HK2:=hide (HK1.out.drew.trans (HSub.out _ _ hk2));have HKC:=hide hk2;have e02:=hg2.b0;have e12:=hg2.b1;obtain ⟨x02,x12,x22,x32,x42,x52,x62,x72,x82,xf2⟩:=hg2.s9;have glt2:sb<w2.heap.size:=Nat.lt_of_lt_of_le hg2.slt HK2.out.size;have blt2:bx+1<w2.heap.size:=Nat.lt_of_lt_of_le hg2.blt HK2.out.size;have blt3:bx<w2.heap.size:=Nat.lt_of_succ_lt blt2;have HG2:=hide hg2;clear hm2 hd2 hk2 hg2 hv2 hEL hxL hlL hnm)))
  all_goals
   go_wp2
   go_end0
   rw [HE1.out,HM2.out]
   have hrow:=zau HG2.out.own
   have hbl:=HG2.out.blw
   refine ⟨_,n2,rfl,⟨rfl,_,_,AB.add (m:=f1) (w:=w2.alloc (.cells #[.int .i64 op,.string nm,.int .i64 k,.slice aL nL cL] 49)) (HG2.out.go ((Kp.refl _ _).alloc _)) HGR.out (by simpa using HAT.out) ?_ HOW.out⟩,rfl,?_,?_⟩
   ·refine ⟨op,nmm,k,L,_,HXL.out,by rw [HNM.out],(HEL.out.base (fun b _ hb=> ?_)).keep (S:=[]) ((Kp.refl _ _).alloc _) (by simp)⟩
    have h1:=HK1.out.size
    simp at hb
    exact ⟨by omega,fun e=>by have:=zb8 HG1.out.own b e;omega⟩
   ·exact ((HD2.out.alloc _).grown HGR.out hrow hbl).set_apart HAP.out _ _
   ·exact Kp.rb ((HK2.out.alloc _).grown HGR.out (fun k hk=> .inl (hrow k (by rw [hk];simp)))) _ _
 ·have HG1:=hide (HG.out.go (((Kp.refl _ _).alloc (.cells #[.bool true] 4)).drew))
  have HK1:=hide ((HK0.out.alloc (.cells #[.bool true] 4)).drew)
  have HD1:=hide ((HH.out.alloc (.cells #[.bool true] 4)).drew)
  generalize hw1:(w.alloc (.cells #[.bool true] 4)).drew=w1 at *
  clear hw1 b0 b1
  have e0:=HG1.out.b0
  have e1:=HG1.out.b1
  obtain ⟨s0,s1,s2,s3,s4,s5,s6,s7,s8,sf⟩:=HG1.out.s9
  have HE1:Hid (Sx.argOne c.e f acc s (c.full.drop n)=Sx.bnd (Sx.pe c.e f 0 Sx.d0 s (c.full.drop n)) fun x s r=> .inl (acc++[x],s,r)):=rfl
  have l1:sb<w1.heap.size:=Nat.lt_of_lt_of_le HG1.out.slt HK1.out.size
  have l2:bx+1<w1.heap.size:=Nat.lt_of_lt_of_le HG1.out.blt HK1.out.size
  have l3:bx<w1.heap.size:=Nat.lt_of_succ_lt l2
  go_region_law ((first
   |(refine step_append_lies _ rfl _ _ 47 rfl w0.heap.size 49 i0 (.agg #[.int .i64 0,.string ⟨#[]⟩,.int .i64 0,.slice none 0 0]) 4 56 Tryz.underlying47 hi0 hz0 hz1 hz2 rfl (by decide) (.slice aP acc.length cP) acc.length cs (by rfl) (by exact HG2.out.own.alloc _) ⟨w2.heap.size,0,none⟩ 1 1 [.int .i64 0,.string ⟨#[]⟩,.int .i64 0,.slice none 0 0] (by rfl) rfl (by exact zap _ _ rfl _ _ _ _ _) (by intro u hu;simp at hu;rcases hu with rfl|rfl|rfl|rfl<;> rfl) (by decide) (by unfold maxLen;omega) (by omega) (by have:=HK2.out.size;simp;omega) _ rfl ?_;intro g cap w3 hown hgrow hat hlt;have HOW:=hide hown;have HGR:=hide hgrow;have HAT:=hide hat;have hrow:=zau HG1.out.own;have hs3:=(HG2.out.s9.keep (S:=[]) ((Kp.refl _ _).alloc _) (by simp)).keep (Kp.of_grown hgrow) (fun hm=>by have h1:=hrow _ hm;have h2:=HG1.out.slt;omega);have HS3:=hide hs3;obtain ⟨z0,z1,z2,z3,z4,z5,z6,z7,z8,zf⟩:=hs3;have y0:=zaa (Kp.of_grown hgrow) (zaa ((Kp.refl [] _).alloc _) HG2.out.b0 (by simp)) (fun hm=>by have h1:=hrow _ hm;have h2:=HG1.out.blt;omega);have y1:=zaa (Kp.of_grown hgrow) (zaa ((Kp.refl [] _).alloc _) HG2.out.b1 (by simp)) (fun hm=>by have h1:=hrow _ hm;have h2:=HG1.out.blt;omega);have HY0:=hide y0;have HY1:=hide y1;have HD3:=hide ((HD2.out.alloc _).grown hgrow hrow HG1.out.blw);have HK3:=hide ((HK2.out.alloc _).grown hgrow (fun k hk=> .inl (hrow k (by rw [hk];simp))));have HA1:Hid True:=trivial;clear hown hgrow hat hrow)
   |(refine step_append_lies _ rfl _ _ 47 rfl w0.heap.size 49 i0 (.agg #[.int .i64 0,.string ⟨#[]⟩,.int .i64 0,.slice none 0 0]) 4 56 Tryz.underlying47 hi0 hz0 hz1 hz2 rfl (by decide) (.slice aP acc.length cP) acc.length cs (by rfl) (by exact HG2.out.own) ⟨w1.heap.size,0,none⟩ 1 1 [.int .i64 0,.string ⟨#[]⟩,.int .i64 0,.slice none 0 0] (by rfl) rfl (by exact zhy HZ2.out) (by intro u hu;simp at hu;rcases hu with rfl|rfl|rfl|rfl<;> rfl) (by decide) (by unfold maxLen;omega) (by omega) (by have:=HK2.out.size;omega) _ rfl ?_;intro g cap w3 hown hgrow hat hlt;have HOW:=hide hown;have HGR:=hide hgrow;have HAT:=hide hat;have hrow:=zau HG1.out.own;have hs3:=HG2.out.s9.keep (Kp.of_grown hgrow) (fun hm=>by have h1:=hrow _ hm;have h2:=HG1.out.slt;omega);have HS3:=hide hs3;obtain ⟨z0,z1,z2,z3,z4,z5,z6,z7,z8,zf⟩:=hs3;have y0:=zaa (Kp.of_grown hgrow) HG2.out.b0 (fun hm=>by have h1:=hrow _ hm;have h2:=HG1.out.blt;omega);have y1:=zaa (Kp.of_grown hgrow) HG2.out.b1 (fun hm=>by have h1:=hrow _ hm;have h2:=HG1.out.blt;omega);have HY0:=hide y0;have HY1:=hide y1;have HD3:=hide (HD2.out.grown hgrow hrow HG1.out.blw);have HK3:=hide (HK2.out.grown hgrow (fun k hk=> .inl (hrow k (by rw [hk];simp))));have HA2:Hid True:=trivial;clear hown hgrow hat hrow)
   |(refine step_append_lies _ rfl _ _ 47 rfl w0.heap.size 49 i0 (.agg #[.int .i64 0,.string ⟨#[]⟩,.int .i64 0,.slice none 0 0]) 4 56 Tryz.underlying47 hi0 hz0 hz1 hz2 rfl (by decide) (.slice aP acc.length cP) acc.length cs (by rfl) (by exact zam HG1.out.own (((Kp.refl [] _).alloc _).drew) (by simp)) ⟨w1.heap.size,0,none⟩ 1 1 [.int .i64 0,.string ⟨#[]⟩,.int .i64 0,.slice none 0 0] (by rfl) rfl (by exact zhy (X4.keep (X4.new w1 (.int .i64 0) (.string ⟨#[]⟩) (.int .i64 0) (.slice none 0 0) 49) (Kp.refl [] _).drew (by simp))) (by intro u hu;simp at hu;rcases hu with rfl|rfl|rfl|rfl<;> rfl) (by decide) (by unfold maxLen;omega) (by omega) (by have:=HK1.out.size;simp;omega) _ rfl ?_;intro g cap w3 hown hgrow hat hlt;have HOW:=hide hown;have HGR:=hide hgrow;have HAT:=hide hat;have hrow:=zau HG1.out.own;have hs3:=(HG1.out.s9.keep (S:=[]) (((Kp.refl _ _).alloc _).drew) (by simp)).keep (Kp.of_grown hgrow) (fun hm=>by have h1:=hrow _ hm;have h2:=HG1.out.slt;omega);have HS3:=hide hs3;obtain ⟨z0,z1,z2,z3,z4,z5,z6,z7,z8,zf⟩:=hs3;have y0:=zaa (Kp.of_grown hgrow) (zaa (((Kp.refl [] _).alloc _).drew) HG1.out.b0 (by simp)) (fun hm=>by have h1:=hrow _ hm;have h2:=HG1.out.blt;omega);have y1:=zaa (Kp.of_grown hgrow) (zaa (((Kp.refl [] _).alloc _).drew) HG1.out.b1 (by simp)) (fun hm=>by have h1:=hrow _ hm;have h2:=HG1.out.blt;omega);have HY0:=hide y0;have HY1:=hide y1;have HD3:=hide (((HD1.out.alloc _).drew).grown hgrow hrow HG1.out.blw);have HK3:=hide (((HK1.out.alloc _).drew).grown hgrow (fun k hk=> .inl (hrow k (by rw [hk];simp))));have HA3:Hid True:=trivial;clear hown hgrow hat hrow)
   |(refine zae rfl 173 #[.pointer (some ⟨c.rb,0,none⟩)] (by go_simp) ((zfr f).1 c _ n s (by exact HD1.out.drew) HF.out) (fun code p rest w' hr hk=>⟨rfl,by rw [HE1.out,hr];exact ⟨rfl,HK1.out.drew.trans (HSub.out _ _ hk)⟩⟩) ?_;intro v2 w2 x s2 n2 hm2 hv2 hd2 hk2;obtain ⟨f1,op,nmm,k,L,aL,nL,cL,hlL,hxL,hvv,hEL⟩:=hv2.open;subst hvv;have HEL:=hide hEL;have HXL:=hide hxL;generalize hnm:bs nmm=nm at *;have HNM:=hide hnm;have HM2:=hide hm2;have HD2:=hide hd2;have HK2:=hide (HK1.out.drew.trans (HSub.out _ _ hk2));have hg2:=(HG1.out.go (Kp.refl _ _).drew).go hk2;have e02:=hg2.b0;have e12:=hg2.b1;obtain ⟨x02,x12,x22,x32,x42,x52,x62,x72,x82,xf2⟩:=hg2.s9;have glt2:sb<w2.heap.size:=Nat.lt_of_lt_of_le hg2.slt HK2.out.size;have blt2:bx+1<w2.heap.size:=Nat.lt_of_lt_of_le hg2.blt HK2.out.size;have blt3:bx<w2.heap.size:=Nat.lt_of_succ_lt blt2;have HG2:=hide hg2;have HSZ2:=hide hk2.size;have HC1:Hid True:=trivial;clear hg2;clear hm2 hd2 hk2 hv2 hEL hxL hlL hnm)
   |(refine zae rfl 173 #[.pointer (some ⟨c.rb,0,none⟩)] (by go_simp) ((zfr f).1 c _ n s (by exact (HD1.out.alloc _).drew) HF.out) (fun code p rest w' hr hk=>⟨rfl,by rw [HE1.out,hr];exact ⟨rfl,(HK1.out.alloc _).drew.trans (HSub.out _ _ hk)⟩⟩) ?_;intro v2 w2 x s2 n2 hm2 hv2 hd2 hk2;obtain ⟨f1,op,nmm,k,L,aL,nL,cL,hlL,hxL,hvv,hEL⟩:=hv2.open;subst hvv;have HEL:=hide hEL;have HXL:=hide hxL;generalize hnm:bs nmm=nm at *;have HNM:=hide hnm;have HM2:=hide hm2;have HD2:=hide hd2;have HK2:=hide ((HK1.out.alloc _).drew.trans (HSub.out _ _ hk2));have hg2:=(HG1.out.go ((Kp.refl _ _).alloc _).drew).go hk2;have e02:=hg2.b0;have e12:=hg2.b1;obtain ⟨x02,x12,x22,x32,x42,x52,x62,x72,x82,xf2⟩:=hg2.s9;have glt2:sb<w2.heap.size:=Nat.lt_of_lt_of_le hg2.slt HK2.out.size;have blt2:bx+1<w2.heap.size:=Nat.lt_of_lt_of_le hg2.blt HK2.out.size;have blt3:bx<w2.heap.size:=Nat.lt_of_succ_lt blt2;have HG2:=hide hg2;have HSZ2:=hide hk2.size;have HZ2:=hide (X4.keep (X4.keep (X4.new w1 (.int .i64 0) (.string ⟨#[]⟩) (.int .i64 0) (.slice none 0 0) 49) (Kp.refl [] _).drew (by simp)) hk2 (by have h1:=HK1.out.size;have h2:=HG1.out.blw.1;simp;omega));clear hg2;clear hm2 hd2 hk2 hv2 hEL hxL hlL hnm)
   |(refine zae rfl 173 #[.pointer (some ⟨c.rb,0,none⟩)] (by go_simp) ((zfr f).1 c _ n s (by exact HD3.out) HF.out) (fun code p rest w' hr hk=>⟨rfl,by rw [HE1.out,hr];exact ⟨rfl,HK3.out.trans (HSub.out _ _ hk)⟩⟩) ?_;intro v2 w2 x s2 n2 hm2 hv2 hd2 hk2;obtain ⟨f1,op,nmm,k,L,aL,nL,cL,hlL,hxL,hvv,hEL⟩:=hv2.open;subst hvv;have HEL:=hide hEL;have HXL:=hide hxL;generalize hnm:bs nmm=nm at *;have HNM:=hide hnm;have HM2:=hide hm2;have HD2:=hide hd2;have HK2:=hide (HK3.out.trans (HSub.out _ _ hk2));have HK32:=hide hk2;have HSZ2:=hide hk2.size;have HOW2:=hide (zam HOW.out hk2 (by have h2:=HG1.out.blw.1;simpa using h2));have HS32:=hide (HS3.out.keep hk2 (by have h2:=HG1.out.sbr;simpa using h2));obtain ⟨x02,x12,x22,x32,x42,x52,x62,x72,x82,xf2⟩:=HS32.out;have e02:=zaa hk2 HY0.out (by have h2:=HG1.out.bxr.1;simpa using h2);have e12:=zaa hk2 HY1.out (by have h2:=HG1.out.bxr.2;simpa using h2);have HY02:=hide e02;have HY12:=hide e12;clear hm2 hd2 hk2 hv2 hEL hxL hlL hnm)))
  all_goals
   first
   |(
    have hcls:=HK32
    clear hcls
    obtain ⟨m0,hm0⟩:=(HG1.out.go ((Kp.refl _ _).alloc (.cells #[.int .i64 0,.string ⟨#[]⟩,.int .i64 0,.slice none 0 0] 49)).drew).rw
    have HM0:=hide hm0
    clear hm0
    have hcs:=HG1.out.own.1
    obtain ⟨t0,t1,t2,t3⟩:=zg3 cs (.int .i64 0) (.string ⟨#[]⟩) (.int .i64 0) (.slice none 0 0) acc.length hcs
    obtain ⟨oc,of,og⟩:=zc2 HOW2.out
    have k0:=oc _ _ t0
    have k1:=oc _ _ t1
    have k2:=oc _ _ t2
    have k3:=oc _ _ t3
    have hgB:w0.heap.size≤g:=zau HOW2.out g (by simp [Value.ownBlock])
    have HGB:=hide hgB
    have hgs: ¬ g=sb:=by have h1:=HG1.out.slt;omega
    have hgs': ¬ sb=g:=fun h=>hgs h.symm
    clear oc t0 t1 t2 t3 hgB
    go_wp2
    go_end0
    rw [HE1.out,HM2.out]
    refine ⟨_,n2,rfl,⟨rfl,_,_,AB.put (m:=m0+f1) HG1.out HS32.out HY02.out HY12.out HOW2.out hcs ?_⟩,rfl,?_,?_⟩
    rotate_left
    ·exact ((((HD2.out.set_apart HAP.out _ _).set_new HG1.out.blw HGB.out _).set_new HG1.out.blw HGB.out _).set_new HG1.out.blw HGB.out _).set_new HG1.out.blw HGB.out _
    ·exact Kp.nb (Kp.nb (Kp.nb (Kp.nb (Kp.rb HK2.out _ _) HGB.out _ _) HGB.out _ _) HGB.out _ _) HGB.out _ _
    ·have hr3:=za1 (R:=fun w P d c=>RE w P m0 d c) (fun w w' S P d c h hk hS=>h.keep hk hS) (fun w P P' d c h hP=>h.base hP) HM0.out HGR.out (by simpa using HAT.out)
     refine Rw.snoc (hr3.mono (fun dd cc hd=>(hd.keep HK32.out (fun k hk hP=>by simp at hk;have h1:=HG1.out.blw.1;omega)).more f1)) ?_
     rw [Nat.add_comm m0 f1]
     refine RE.more m0 ⟨op,nmm,k,L,_,HXL.out,by rw [HNM.out],HEL.out.base (fun b _ hb=> ?_)⟩
     have h1:=HK3.out.size
     exact ⟨by omega,fun e=>by simp at e;have h2:=zb8 HOW.out g rfl;omega⟩)
   |(
    have hcls:=HA1
    clear hcls
    obtain ⟨m0,hm0⟩:=(HG2.out.go ((Kp.refl _ _).alloc (.cells #[.int .i64 0,.string ⟨#[]⟩,.int .i64 0,.slice none 0 0] 49))).rw
    have HM0:=hide hm0
    clear hm0
    have hcs:=HG1.out.own.1
    obtain ⟨t0,t1,t2,t3⟩:=zg3 cs (.int .i64 0) (.string ⟨#[]⟩) (.int .i64 0) (.slice none 0 0) acc.length hcs
    obtain ⟨oc,of,og⟩:=zc2 HOW.out
    have k0:=oc _ _ t0
    have k1:=oc _ _ t1
    have k2:=oc _ _ t2
    have k3:=oc _ _ t3
    have hgB:w0.heap.size≤g:=zau HOW.out g (by simp [Value.ownBlock])
    have HGB:=hide hgB
    have hgs: ¬ g=sb:=by have h1:=HG1.out.slt;omega
    have hgs': ¬ sb=g:=fun h=>hgs h.symm
    clear oc t0 t1 t2 t3 hgB
    go_wp2
    go_end0
    rw [HE1.out,HM2.out]
    refine ⟨_,n2,rfl,⟨rfl,_,_,AB.put (m:=m0+f1) HG1.out HS3.out HY0.out HY1.out HOW.out hcs ?_⟩,rfl,?_,?_⟩
    rotate_left
    ·exact ((((HD3.out.set_apart HAP.out _ _).set_new HG1.out.blw HGB.out _).set_new HG1.out.blw HGB.out _).set_new HG1.out.blw HGB.out _).set_new HG1.out.blw HGB.out _
    ·exact Kp.nb (Kp.nb (Kp.nb (Kp.nb (Kp.rb HK3.out _ _) HGB.out _ _) HGB.out _ _) HGB.out _ _) HGB.out _ _
    ·refine za1 (R:=fun w P d c=>RE w P (m0+f1) d c) (W:=(w2.alloc (.cells #[.int .i64 0,.string ⟨#[]⟩,.int .i64 0,.slice none 0 0] 49))) (v:= .slice aP acc.length cP) (fun w w' S P d c h hk hS=>h.keep hk hS) (fun w P P' d c h hP=>h.base hP) ?_ HGR.out (by simpa using HAT.out)
     refine Rw.snoc (HM0.out.mono (fun dd cc hd=>hd.more f1)) ?_
     rw [Nat.add_comm m0 f1]
     refine RE.more m0 ⟨op,nmm,k,L,_,HXL.out,by rw [HNM.out],(HEL.out.base (fun b _ hb=> ?_)).keep (S:=[]) ((Kp.refl _ _).alloc _) (by simp)⟩
     have h1:=HK1.out.size
     simp at hb
     exact ⟨by omega,fun e=>by have h2:=zb8 HG1.out.own b e;omega⟩)
   |(
    have hcls:=HA2
    clear hcls
    obtain ⟨m0,hm0⟩:=HG2.out.rw
    have HM0:=hide hm0
    clear hm0
    have hcs:=HG1.out.own.1
    obtain ⟨t0,t1,t2,t3⟩:=zg3 cs (.int .i64 0) (.string ⟨#[]⟩) (.int .i64 0) (.slice none 0 0) acc.length hcs
    obtain ⟨oc,of,og⟩:=zc2 HOW.out
    have k0:=oc _ _ t0
    have k1:=oc _ _ t1
    have k2:=oc _ _ t2
    have k3:=oc _ _ t3
    have hgB:w0.heap.size≤g:=zau HOW.out g (by simp [Value.ownBlock])
    have HGB:=hide hgB
    have hgs: ¬ g=sb:=by have h1:=HG1.out.slt;omega
    have hgs': ¬ sb=g:=fun h=>hgs h.symm
    clear oc t0 t1 t2 t3 hgB
    go_wp2
    go_end0
    rw [HE1.out,HM2.out]
    refine ⟨_,n2,rfl,⟨rfl,_,_,AB.put (m:=m0+f1) HG1.out HS3.out HY0.out HY1.out HOW.out hcs ?_⟩,rfl,?_,?_⟩
    rotate_left
    ·exact ((((HD3.out.set_apart HAP.out _ _).set_new HG1.out.blw HGB.out _).set_new HG1.out.blw HGB.out _).set_new HG1.out.blw HGB.out _).set_new HG1.out.blw HGB.out _
    ·exact Kp.nb (Kp.nb (Kp.nb (Kp.nb (Kp.rb HK3.out _ _) HGB.out _ _) HGB.out _ _) HGB.out _ _) HGB.out _ _
    ·refine za1 (R:=fun w P d c=>RE w P (m0+f1) d c) (W:=w2) (v:= .slice aP acc.length cP) (fun w w' S P d c h hk hS=>h.keep hk hS) (fun w P P' d c h hP=>h.base hP) ?_ HGR.out (by simpa using HAT.out)
     refine Rw.snoc (HM0.out.mono (fun dd cc hd=>hd.more f1)) ?_
     rw [Nat.add_comm m0 f1]
     refine RE.more m0 ⟨op,nmm,k,L,_,HXL.out,by rw [HNM.out],HEL.out.base (fun b _ hb=> ?_)⟩
     have h1:=HK1.out.size
     simp at hb
     exact ⟨by omega,fun e=>by have h2:=zb8 HG1.out.own b e;omega⟩)
theorem zjd (s:ByteArray) (w:World) (hw:WTab w) (hs:s.size≤12000):Calls Tryz.prog 16 #[.string s] w (Told w [] (Sx.parsed s.data.toList)):=
 zk6 (fun f c w n s sb at' h1 h2 h3 h4=>zmb f (fun c w0 bx sb D at' A hap acc w n s hl hi h hk hf=>zn0 f c w0 bx sb D at' A hap acc w n s hl hi h hk hf) c w n s sb at' h1 h2 h3 h4) s w hw hs
end Go.Proofs.YtagblibbngmbdaaGreatDoor
