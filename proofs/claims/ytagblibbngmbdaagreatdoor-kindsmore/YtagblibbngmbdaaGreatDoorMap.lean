import Derived.Test.YtagblibbngmbdaaGreatDoorMao
import Derived.Test.YtagblibbngmbdaaGreatDoorMan
set_option maxRecDepth 100000
set_option maxHeartbeats 4000000
namespace Go.Proofs.YtagblibbngmbdaaGreatDoor
open Go.RowKit
theorem Tryz.infoParam:(Tryz.prog.info? 44).map (fun i=>(i.zero,i.size,i.bytes))=some (some (.agg #[.string ⟨#[]⟩,.string ⟨#[]⟩]),2,32):=by kernel_rfl
theorem Tryz.infoExpr:(Tryz.prog.info? 49).map (fun i=>(i.zero,i.size,i.bytes))=some (some (.agg #[.int .i64 0,.string ⟨#[]⟩,.int .i64 0,.slice none 0 0]),4,56):=by kernel_rfl
theorem Tryz.infoStmt:(Tryz.prog.info? 51).map (fun i=>(i.zero,i.size,i.bytes))=some (some (.agg #[.int .i64 0,.int .i64 0,.string ⟨#[]⟩,.string ⟨#[]⟩,.string ⟨#[]⟩,.int .i64 0,.slice none 0 0,.slice none 0 0,.slice none 0 0]),9,144):=by kernel_rfl
theorem Tryz.infoStage:(Tryz.prog.info? 43).map (fun i=>(i.zero,i.size,i.bytes))=some (some (.agg #[.string ⟨#[]⟩,.int .i64 0,.slice none 0 0,.slice none 0 0]),4,72):=by kernel_rfl
theorem zam {w w':World} {S:List Nat} {B t z n:Nat} {v:Value} {xs:List Value} (h:w.ownsRow B t z v n xs) (hk:Kp S w w') (hS: ∀ k,k ∈ S→k<B):w'.ownsRow B t z v n xs:=by
 refine ⟨h.1,h.2.imp id (fun ⟨g,cap,cur,hv,hB,hg,r⟩=>⟨g,cap,cur,hv,hB,?_,r⟩)⟩
 rw [hk.block g (by
  rcases Nat.lt_or_ge g w.heap.size with h'|h'
  ·exact h'
  ·rw [Array.getElem?_eq_none h'] at hg;cases hg) (fun hm=>by have:=hS g hm;omega)]
 exact hg
structure GB (c:Cx) (w0 w:World) (bx gb:Nat) (nm:ByteArray) (at':Int) (uP:Value) (acc:List Sx.Tr) (cs:List Value):Prop where
 x:X4 w gb (.string nm) (.int .i64 at') uP (.slice none 0 0)
 b0:w.cell? ⟨bx,0,none⟩=some (.pointer (some ⟨c.rb,0,none⟩))
 own:w.ownsRow w0.heap.size 44 2 uP acc.length cs
 rw:Rw RP acc cs
 sl: ∃ a n cap,uP= .slice a n cap
 bxg:bx ≠ gb
 bxr:bx ≠ c.rb
 gbr:gb ≠ c.rb
 blt:bx<w0.heap.size
 glt:gb<w0.heap.size
 rlt:c.rb<w0.heap.size
 blw:c.below w0.heap.size
theorem GB.go {c:Cx} {w0 w w1:World} {bx gb:Nat} {nm:ByteArray} {at':Int} {uP:Value} {acc:List Sx.Tr} {cs:List Value} (h:GB c w0 w bx gb nm at' uP acc cs) (hk:Kp [c.rb] w w1):GB c w0 w1 bx gb nm at' uP acc cs:=
 { h with
  x:=h.x.keep hk (by simpa using h.gbr)
  b0:=zaa hk h.b0 (by simpa using h.bxr)
  own:=zam h.own hk (by simpa using h.rlt) }
theorem Kp.of_grown {w w':World} {row:Option Nat} (h:w.grownBy w' row):Kp row.toList w w':=
 ⟨h.os,h.tape,h.output,h.size,fun k hk hn=>h.block k hk (fun e=>hn (by rw [←e];simp))⟩
theorem zau {w:World} {B t z n:Nat} {v:Value} {xs:List Value} (h:w.ownsRow B t z v n xs): ∀ k,k ∈ v.ownBlock.toList→B≤k:=by
 intro k hk
 rcases h.2 with ⟨rfl,_⟩|⟨g,cap,cur,rfl,hB,_⟩
 ·simp [Value.ownBlock] at hk
 ·simp [Value.ownBlock] at hk
  omega
theorem X4.set2 {w:World} {b:Nat} {v0 v1 v2 v3:Value} (h:X4 w b v0 v1 v2 v3) (u:Value):X4 (w.setCell ⟨b,2,none⟩ u) b v0 v1 u v3:=
 ⟨(zab _ _ _ _ _ (by decide)).trans h.c0,(zab _ _ _ _ _ (by decide)).trans h.c1,by rw [World.cell?_setCell_same (h:=h.c2)],(zab _ _ _ _ _ (by decide)).trans h.c3,fun o=>by simpa using h.fz o⟩
theorem GB.add {c:Cx} {w0 w w1:World} {bx gb:Nat} {nm:ByteArray} {at':Int} {uP:Value} {acc:List Sx.Tr} {cs:List Value} (h:GB c w0 w bx gb nm at' uP acc cs) {row:Option Nat} (hrow: ∀ k,k ∈ row.toList→w0.heap.size≤k) (hg:w.grownBy w1 row) {g cap:Nat} (A T:List UInt8)
  (hown:w1.ownsRow w0.heap.size 44 2 (.slice (some ⟨g,0,none⟩) (acc.length+1) cap) (acc.length+1) (cs++[.string (bs A),.string (bs T)])):
  GB c w0 (w1.setCell ⟨gb,2,none⟩ (.slice (some ⟨g,0,none⟩) (acc.length+1) cap)) bx gb nm at' (.slice (some ⟨g,0,none⟩) (acc.length+1) cap) (acc++[Sx.tP A T]) (cs++[.string (bs A),.string (bs T)]):=
 { h with
  x:=(h.x.keep (Kp.of_grown hg) (fun hm=>by have:=hrow _ hm;have:=h.glt;omega)).set2 _
  b0:=(World.cell?_setCell_far _ _ _ _ h.bxg.symm).trans (zaa (Kp.of_grown hg) h.b0 (fun hm=>by have:=hrow _ hm;have:=h.blt;omega))
  own:=by
   rw [List.length_append]
   exact zam hown (S:=[gb]) (Kp.rb (Kp.refl _ _) _ _) (by simpa using h.glt)
  rw:=h.rw.snoc ⟨A,T,rfl,rfl⟩
  sl:=⟨_,_,_,rfl⟩ }
theorem RD.grown {c:Cx} {w w':World} {n:Nat} {s:Sx.St} {B:Nat} (h:RD c w n s) {row:Option Nat} (hg:w.grownBy w' row) (hrow: ∀ k,k ∈ row.toList→B≤k) (hb:c.below B):RD c w' n s:=
 h.keep (Kp.of_grown hg) (fun hm=>by have:=hrow _ hm;have:=hb.1;omega) (fun hne hm=>by have:=hrow _ hm;have:=hb.2 hne;omega)
theorem zeq (w:World) (n:Nat) (hn:n=w.heap.size) (x y:Value) (t:TypeId): ∀ (j:Nat) (v:Value),[x,y][j]? =some v→(w.alloc (.cells #[x,y] t)).cell? ((⟨n,0,none⟩:Addr).add j)=some v:=by
 intro j v hj
 subst hn
 rw [Addr.add_mid]
 match j,hj with
 |0,hj=>simp at hj;subst hj;simp [go_sem]
 |1,hj=>simp at hj;subst hj;simp [go_sem]
theorem zna (c:Cx) (w0:World) (bx gb:Nat) (nm:ByteArray) (at':Int) (hap:c.apart gb) (acc:List Sx.Tr) (w:World) (n:Nat) (s:Sx.St) (hl:acc.length≤6)
  (hi: ∃ uP cs,GB c w0 w bx gb nm at' uP acc cs) (h:RD c w n s) (hk0:Kp [gb,c.rb] w0 w):
  Calls Tryz.prog 108 #[.pointer (some ⟨bx,0,none⟩),.pointer (some ⟨gb,0,none⟩)] w (Post c [gb,c.rb] w0 (fun w' acc' v=>v= .tuple #[]∧ ∃ uP cs,GB c w0 w' bx gb nm at' uP acc' cs) (Sx.parOne c.e acc s (c.full.drop n))):=by
 obtain ⟨i0,hi0,hz0,hz1,hz2⟩:=info_parts Tryz.infoParam
 obtain ⟨uP,cs,hG⟩:=hi
 obtain ⟨aP,nP,cP,rfl⟩:=hG.sl
 have HG:=hide hG
 have HH:=hide h
 have HK0:=hide hk0
 have HAP:=hide hap
 have HSub:Hid (∀ a b,Kp [c.rb] a b→Kp [gb,c.rb] a b):=fun a b h=>h.mono (by simp)
 have b0:=hG.b0
 have g1:=hG.bxg
 have g2:=hG.bxr
 have g3:=hG.gbr
 clear h hk0 hG hap
 go_enter Tryz.func108,Tryz.ntmps108
 go_wp2_with fail
 refine (zay c _ n s HH.out).mono ?_
 intro e w1 hp
 rcases hm1:Sx.nameOf c.e s (c.full.drop n) with ⟨A,s1,r1⟩|⟨code,p,rest⟩
 rotate_left
 ·rw [hm1] at hp
  obtain ⟨rfl,hk⟩:=hp
  refine ⟨rfl,?_⟩
  unfold Sx.parOne
  rw [hm1]
  exact ⟨rfl,HK0.out.trans (HSub.out _ _ hk)⟩
 rw [hm1] at hp
 obtain ⟨v1,n1,rfl,hv1,hr1,hd1,hk1⟩:=hp
 unfold encT at hv1
 rw [hv1]
 have HE1:Hid (Sx.parOne c.e acc s (c.full.drop n)=Sx.bnd (Sx.ty c.e [] s1 (c.full.drop n1)) fun T s r=> .inl (acc++[Sx.tP A T],s,r)):=by
  show _=_
  unfold Sx.parOne
  rw [hm1,hr1]
  rfl
 have HG1:=hide (HG.out.go hk1)
 have HK1:=hide (HK0.out.trans (HSub.out _ _ hk1))
 have HD1:=hide hd1
 have e0:=HG1.out.b0
 obtain ⟨x0,x1,x2,x3,xf⟩:=HG1.out.x
 clear hm1 hr1 hd1 hk1 hv1 b0
 generalize hbA:bs A=bA at *
 have HBA:=hide hbA
 clear hbA
 go_wp2
 go_region_law ((first
  |(refine step_append_lies _ rfl _ _ 40 rfl w0.heap.size 44 i0 (.agg #[.string ⟨#[]⟩,.string ⟨#[]⟩]) 2 32 Tryz.underlying40 hi0 hz0 hz1 hz2 rfl (by decide) (.slice aP nP cP) acc.length cs (by rfl) (by exact HG2.out.own.alloc _) ⟨w2.heap.size,0,none⟩ 1 1 [.string bA,.string (bs T)] (by rfl) rfl (zeq _ _ rfl _ _ _) (by intro u hu;simp at hu;rcases hu with rfl|rfl<;> rfl) (by decide) (by unfold maxLen;omega) (by omega) (by have:=HK2.out.size;simp;omega) _ rfl ?_;intro g cap w3 hown hgrow hat hlt;have HOW:=hide hown;have HGR:=hide hgrow;obtain ⟨z0,z1,z2,z3,zf⟩:=(HG2.out.x.keep (S:=[]) ((Kp.refl _ _).alloc _) (by simp)).keep (Kp.of_grown hgrow) (fun hm=>by have h1:=zau HG2.out.own _ hm;have h2:=HG2.out.glt;omega);clear hown hgrow hat)
  |(refine zae rfl 109 #[.pointer (some ⟨c.rb,0,none⟩)] (by go_simp) (zcu c _ n1 s1 (by exact HD1.out.drew)) (fun code p rest w' hr hk=>⟨rfl,by rw [HE1.out,hr];exact ⟨rfl,HK1.out.drew.trans (HSub.out _ _ hk)⟩⟩) ?_;intro v2 w2 T s2 n2 hm2 hv2 hd2 hk2;unfold encT at hv2;subst hv2;have hg2:=(HG1.out.go (Kp.refl _ _).drew).go hk2;have HM2:=hide hm2;have HD2:=hide hd2;have HK2:=hide (HK1.out.drew.trans (HSub.out _ _ hk2));have e02:=hg2.b0;obtain ⟨x02,x12,x22,x32,xf2⟩:=hg2.x;have glt2:gb<w2.heap.size:=Nat.lt_of_lt_of_le hg2.glt HK2.out.size;have blt2:bx<w2.heap.size:=Nat.lt_of_lt_of_le hg2.blt HK2.out.size;have HG2:=hide hg2;clear hm2 hd2 hk2 hg2)))
 all_goals
  go_wp2
  go_end0
  rw [HE1.out,HM2.out]
  have hrow:=zau HG2.out.own
  have hga:=HG2.out
  have hbl:=hga.blw
  refine ⟨_,n2,rfl,⟨rfl,_,_,GB.add (w:=w2.alloc (.cells #[.string bA,.string (bs T)] 44)) (row:=Value.ownBlock (.slice aP nP cP)) (hga.go ((Kp.refl _ _).alloc _)) hrow HGR.out A T ?_⟩,rfl,?_,?_⟩
  ·rw [HBA.out]
   exact HOW.out
  ·exact ((HD2.out.alloc _).grown HGR.out hrow hbl).set_apart HAP.out _ _
  ·exact Kp.rb ((HK2.out.alloc _).grown HGR.out (fun k hk=> .inl (hrow k (by simpa using hk)))) _ _
end Go.Proofs.YtagblibbngmbdaaGreatDoor
namespace Go.Proofs.YtagblibbngmbdaaGreatDoor
open Go.RowKit
def encG (w0:World) (w':World) (d:Sx.Tr) (v:Value):Prop:= ∃ m nm at' a n cap a1 n1 cap1,v= .agg #[.string nm,.int .i64 at',.slice a n cap,.slice a1 n1 cap1]∧
 RG w' (fun b=>w0.heap.size≤b) m d [.string nm,.int .i64 at',.slice a n cap,.slice a1 n1 cap1]
theorem X4.set0 {w:World} {b:Nat} {v0 v1 v2 v3:Value} (h:X4 w b v0 v1 v2 v3) (u:Value):X4 (w.setCell ⟨b,0,none⟩ u) b u v1 v2 v3:=
 ⟨by rw [World.cell?_setCell_same (h:=h.c0)],(zab _ _ _ _ _ (by decide)).trans h.c1,(zab _ _ _ _ _ (by decide)).trans h.c2,(zab _ _ _ _ _ (by decide)).trans h.c3,fun o=>by simpa using h.fz o⟩
theorem zdf (f:Nat) (hCB:CB f) (c:Cx) (w:World) (n:Nat) (s:Sx.St) (h:RD c w n s) (hf: ¬ Dry (Sx.stage c.e f s (c.full.drop n))):
  Calls Tryz.prog 77 #[.pointer (some ⟨c.rb,0,none⟩)] w (Post c [c.rb] w (encG w) (Sx.stage c.e f s (c.full.drop n))):=by
 have HF:=hide hf
 have HH:=hide h
 have HB:=hide h.lt
 have HCB:=hide hCB
 have hr:=h.rlt
 have q3: ¬ c.rb=w.heap.size:=by omega
 have q4: ¬ c.rb=w.heap.size+1:=by omega
 have q5: ¬ c.rb=w.heap.size+1+1:=by omega
 clear h hf hCB
 generalize hpl:Sx.place c.e (c.full.drop n)=pl at *
 have HPL:=hide hpl
 clear hpl
 go_enter Tryz.func77,Tryz.ntmps77
 go_wp2_with fail
 refine (at_any c _ n s (by exact (HH.out.alloc _).alloc _)).mono ?_
 rintro e w1 ⟨rfl,k,rfl⟩
 rw [HPL.out]
 go_wp2_with fail
 refine (zak ⟨#[115,116,97,103,101]⟩ (by simp) c _ n s (by exact (((HH.out.alloc _).alloc _).alloc _).drewN _)).mono ?_
 intro e w2 hp
 rw [show (⟨#[115,116,97,103,101]⟩:ByteArray).data.toList=Sx.wStage from rfl] at hp
 rcases hm2:Sx.skp c.e Sx.wStage s (c.full.drop n) with ⟨u2,s2,r2⟩|⟨code,p,rest⟩
 rotate_left
 ·rw [hm2] at hp
  obtain ⟨rfl,hk⟩:=hp
  refine ⟨rfl,?_⟩
  unfold Sx.stage
  rw [hm2]
  exact ⟨rfl,(((((Kp.refl _ _).alloc _).alloc _).alloc _).drewN _).trans hk⟩
 rw [hm2] at hp
 obtain ⟨v2,n2,rfl,hv2,hr2,hd2,hk2⟩:=hp
 have HE2:Hid (Sx.stage c.e f s (c.full.drop n)=Sx.bnd (Sx.nameOf c.e s2 (c.full.drop n2)) fun nm s r=>Sx.bnd (Sx.brk c.e (Sx.parOne c.e) [] s r) fun l s r=>Sx.bnd (Sx.ps c.e f 0 [] s r) fun body s r=> .inl (Sx.tG nm pl l body,s,r)):=by
  show _=_
  unfold Sx.stage
  rw [hm2,hr2,HPL.out]
  rfl
 have K2:Hid (Kp [c.rb] w w2):=(((((Kp.refl _ _).alloc _).alloc _).alloc _).drewN _).trans hk2
 have hn0:w.heap.size ∉ [c.rb]:=by simp;omega
 have hn1:w.heap.size+1 ∉ [c.rb]:=by simp;omega
 have hn2:w.heap.size+1+1 ∉ [c.rb]:=by simp;omega
 have hz2:=hk2.size
 simp at hz2
 have B2:Hid (w2.cell? ⟨w.heap.size,0,none⟩=some (.pointer (some ⟨c.rb,0,none⟩))):=zaa hk2 (by simp [go_sem]) hn0
 have Z2:Hid (X4 w2 (w.heap.size+1) (.string ⟨#[]⟩) (.int .i64 0) (.slice none 0 0) (.slice none 0 0)):=by
  have:=(((X4.new (w.alloc (.cells #[.pointer (some ⟨c.rb,0,none⟩)] 106)) (.string ⟨#[]⟩) (.int .i64 0) (.slice none 0 0) (.slice none 0 0) 43).keep (((Kp.refl [] _).alloc _).drewN _) (by simp)).keep hk2)
  simp only [World.size_alloc] at this
  exact this hn1
 have G2:Hid (X4 w2 (w.heap.size+1+1) (.string ⟨#[]⟩) (.int .i64 pl) (.slice none 0 0) (.slice none 0 0)):=by
  have:=(((X4.new ((w.alloc (.cells #[.pointer (some ⟨c.rb,0,none⟩)] 106)).alloc (.cells #[.string ⟨#[]⟩,.int .i64 0,.slice none 0 0,.slice none 0 0] 43)) (.string ⟨#[]⟩) (.int .i64 pl) (.slice none 0 0) (.slice none 0 0) 43).keep ((Kp.refl [] _).drewN _) (by simp)).keep hk2)
  simp only [World.size_alloc] at this
  exact this hn2
 have HD2:=hide hd2
 have b2:=B2.out
 clear hm2 hr2 hd2 hk2 hv2
 go_wp2_with fail
 refine (zay c _ n2 s2 HD2.out).mono ?_
 intro e w3 hp
 rcases hm3:Sx.nameOf c.e s2 (c.full.drop n2) with ⟨A,s3,r3⟩|⟨code,p,rest⟩
 rotate_left
 ·rw [hm3] at hp
  obtain ⟨rfl,hk⟩:=hp
  refine ⟨rfl,?_⟩
  rw [HE2.out,hm3]
  exact ⟨rfl,K2.out.trans hk⟩
 rw [hm3] at hp
 obtain ⟨v3,n3,rfl,hv3,hr3,hd3,hk3⟩:=hp
 unfold encT at hv3
 rw [hv3]
 have HE3:Hid (Sx.stage c.e f s (c.full.drop n)=Sx.bnd (Sx.brk c.e (Sx.parOne c.e) [] s3 (c.full.drop n3)) fun l s r=>Sx.bnd (Sx.ps c.e f 0 [] s r) fun body s r=> .inl (Sx.tG A pl l body,s,r)):=by
  show _=_
  rw [HE2.out,hm3,hr3]
  rfl
 have HF3:Hid (¬ Dry (Sx.brk c.e (Sx.parOne c.e) [] s3 (c.full.drop n3))):=by
  have h1:=HF.out
  rw [HE3.out] at h1
  exact Dry.bnd h1
 have HAP:Hid (c.apart (w.heap.size+1+1)):=⟨by omega,fun hne=>by have:=HB.out.2 hne;omega⟩
 have hz3:=hk3.size
 generalize hbA:bs A=bA at *
 have HBA:=hide hbA
 clear hbA
 have G3:=hide ((G2.out.keep hk3 hn2).set0 (.string bA))
 have g3:=(G2.out.keep hk3 hn2)
 obtain ⟨g0,g1,g2,g3',gf⟩:=g3
 have K3:Hid (Kp [c.rb] w (w3.setCell ⟨w.heap.size+1+1,0,none⟩ (.string bA))):=Kp.nb (K2.out.trans hk3) (by omega) _ _
 have kv:Kp [w.heap.size+1+1] w3 (w3.setCell ⟨w.heap.size+1+1,0,none⟩ (.string bA)):=Kp.rb (Kp.refl _ _) _ _
 have B3:=hide (zaa kv (zaa hk3 B2.out hn0) (by simp;omega))
 have Z3:=hide ((Z2.out.keep hk3 hn1).keep kv (by simp))
 have HD3:=hide (hd3.set_apart HAP.out 0 (.string bA))
 have hq1:w.heap.size+1+1<w3.heap.size:=by omega
 have HWB:Hid (w.heap.size+1+1<(w3.setCell ⟨w.heap.size+1+1,0,none⟩ (.string bA)).heap.size):=by show _<_;simpa [World.setCell] using hq1
 have b3:=zaa hk3 B2.out hn0
 clear hm3 hr3 hd3 hk3 hv3 kv b2
 go_wp2_with fail
 generalize hwb:w3.setCell ⟨w.heap.size+1+1,0,none⟩ (.string bA)=wb at *
 clear hwb g0 g1 g2 g3' gf b3 hz3 hz2 hq1
 have hC:=zna c wb w.heap.size (w.heap.size+1+1) bA pl HAP.out
 have hI0: ∃ uP cs,GB c wb wb w.heap.size (w.heap.size+1+1) bA pl uP [] cs:=
  ⟨.slice none 0 0,[],G3.out,B3.out,World.ownsRow_nil _ _ _ _,rfl,⟨_,_,_,rfl⟩,by omega,by omega,by omega,by have:=HWB.out;omega,HWB.out,by have:=HWB.out;omega,⟨by have:=HWB.out;omega,fun hne=>by have:=HB.out.2 hne;have:=HWB.out;omega⟩⟩
 refine (zds c [w.heap.size+1+1,c.rb] (by simp) _ _ (fun w' acc=> ∃ uP cs,GB c wb w' w.heap.size (w.heap.size+1+1) bA pl uP acc cs) (fun a b acc h hk=>by obtain ⟨uP,cs,h⟩:=h;exact ⟨uP,cs,h.go hk⟩) (Sx.parOne c.e)
  (fun acc s ts acc' s' r h=>⟨(Sx.parOne_keeps _ _ _ _ _ _ _ h).len,by
   obtain ⟨_,_,_,_,h2⟩:=Sx.bnd_ok h
   obtain ⟨_,_,_,_,h4⟩:=Sx.bnd_ok h2
   rw [←(Sx.inl_ok h4).1];simp⟩) wb (fun acc w1 n s hl hi hd hk _=>hC acc w1 n s hl hi hd hk) [] rfl n3 s3 hI0 HD3.out HF3.out).mono ?_
 intro e w4 hp
 rcases hm4:Sx.brk c.e (Sx.parOne c.e) [] s3 (c.full.drop n3) with ⟨l,s4,r4⟩|⟨code,p,rest⟩
 rotate_left
 ·rw [hm4] at hp
  obtain ⟨rfl,hk⟩:=hp
  refine ⟨rfl,?_⟩
  rw [HE3.out,hm4]
  exact ⟨rfl,Kp.new (K3.out.mono (by simp) |>.trans hk) (by omega)⟩
 rw [hm4] at hp
 obtain ⟨v4,n4,rfl,⟨hv4,uP,cs,hG4⟩,hr4,hd4,hk4⟩:=hp
 obtain ⟨aP,nP,cP,rfl⟩:=hG4.sl
 have HE4:Hid (Sx.stage c.e f s (c.full.drop n)=Sx.bnd (Sx.ps c.e f 0 [] s4 (c.full.drop n4)) fun body s r=> .inl (Sx.tG A pl l body,s,r)):=by
  show _=_
  rw [HE3.out,hm4,hr4]
  rfl
 have HF4:Hid (¬ Dry (Sx.ps c.e f 0 [] s4 (c.full.drop n4))):=by
  have h1:=HF.out
  rw [HE4.out] at h1
  exact Dry.bnd h1
 have HP4:=hide (Sl.of_own (P:=fun b=>wb.heap.size≤b) hG4.own rfl (fun b hb=>hb) hG4.rw)
 have HG4:=hide hG4
 have HD4:=hide hd4
 have HK4:=hide hk4
 have K4:Hid (Kp [c.rb] w w4):=Kp.new (K3.out.mono (by simp) |>.trans hk4) (by omega)
 have Z4:=hide (Z3.out.keep hk4 (by simp;omega))
 have b4:=hG4.b0
 clear hm4 hr4 hd4 hk4 hv4 hG4 hC hI0
 go_wp2_with fail
 refine (HCB.out c _ n4 s4 HD4.out HF4.out).mono ?_
 intro e w5 hp
 rcases hm5:Sx.ps c.e f 0 [] s4 (c.full.drop n4) with ⟨body,s5,r5⟩|⟨code,p,rest⟩
 rotate_left
 ·rw [hm5] at hp
  obtain ⟨rfl,hk⟩:=hp
  refine ⟨rfl,?_⟩
  rw [HE4.out,hm5]
  exact ⟨rfl,K4.out.trans hk⟩
 rw [hm5] at hp
 obtain ⟨v5,n5,rfl,⟨mB,hv5⟩,hr5,hd5,hk5⟩:=hp
 obtain ⟨aB,cB,rfl⟩:=hv5.slice
 have HE5:Hid (Sx.stage c.e f s (c.full.drop n)= .inl (Sx.tG A pl l body,s5,c.full.drop n5)):=by
  show _=_
  rw [HE4.out,hm5,hr5]
  rfl
 have HV5:=hide hv5
 have HD5:=hide hd5
 have HK5:=hide hk5
 have X5:=hide (HG4.out.x.keep hk5 hn2)
 have Z5:=hide (Z4.out.keep hk5 hn1)
 obtain ⟨x0,x1,x2,x3,xf⟩:=X5.out
 obtain ⟨z0,z1,z2,z3,zf⟩:=Z5.out
 clear hm5 hr5 hd5 hk5 hv5 b4
 go_wp2
 refine bodyPost_ret (v:= .agg #[.string bA,.int .i64 pl,.slice aP nP cP,.slice aB body.length cB]) (by simp [results,Tryz.results77,go_sem,z0,z1,z2,z3]) rfl ?_
 rw [HE5.out]
 have kz:Kp [w.heap.size+1,w.heap.size+1+1] w5 (((((w5.setCell ⟨w.heap.size+1+1,3,none⟩ (.slice aB body.length cB)).setCell ⟨w.heap.size+1,0,none⟩ (.string bA)).setCell ⟨w.heap.size+1,1,none⟩ (.int .i64 pl)).setCell ⟨w.heap.size+1,2,none⟩ (.slice aP nP cP)).setCell ⟨w.heap.size+1,3,none⟩ (.slice aB body.length cB)):=by
  refine Kp.rb (Kp.rb (Kp.rb (Kp.rb ?_ _ _) _ _) _ _) _ _
  exact (Kp.refl _ _).setCell (by simp) _
 have hw4:=HK4.out.size
 have hwb:=HWB.out
 refine ⟨_,n5,rfl,⟨mB,bA,pl,aP,nP,cP,aB,body.length,cB,rfl,A,pl,l,body,_,_,rfl,by rw [HBA.out],?_,?_⟩,rfl,?_,?_⟩
 ·refine Sl.base ((HP4.out.keep HK5.out (by simp;omega) (fun _ _ h=>h)).keep kz (by simp;omega) (fun _ _ h=>h)) (fun b _ hb=> ?_) (fun _ _ h=>⟨h,RP_ne h⟩)
  have:=K3.out.size
  omega
 ·refine (HV5.out.keep kz (by simp;omega)).base (fun b _ hb=> ?_)
  have:=K4.out.size
  omega
 ·exact HD5.out.keep kz (by simp;omega) (fun hne=>by have:=HB.out.2 hne;simp;omega)
 ·refine Kp.nb (Kp.nb (Kp.nb (Kp.nb (Kp.nb (K4.out.trans HK5.out) ?_ _ _) ?_ _ _) ?_ _ _) ?_ _ _) ?_ _ _<;> omega
end Go.Proofs.YtagblibbngmbdaaGreatDoor
set_option maxRecDepth 100000
set_option maxHeartbeats 2000000
namespace Go.Proofs.YtagblibbngmbdaaGreatDoor
open Go.RowKit
def CP (D:Nat) (f:Nat):Prop:= ∀ (c:Cx) (w:World) (n:Nat) (s:Sx.St) (sb:Nat) (at':Int),RD c w n s→c.apart sb→S9 w sb D at' ⟨#[]⟩ ⟨#[]⟩ ⟨#[]⟩ 0 (.slice none 0 0) (.slice none 0 0) (.slice none 0 0)→ ¬ Dry (Sx.plain c.e f D s (c.full.drop n))→
  Calls Tryz.prog 150 #[.pointer (some ⟨c.rb,0,none⟩),.pointer (some ⟨sb,0,none⟩)] w (Post c [sb,c.rb] w (encF w sb D at') (Sx.plain c.e f D s (c.full.drop n)))
def CN (D:Nat) (f:Nat):Prop:= ∀ (c:Cx) (w:World) (n:Nat) (s:Sx.St) (sb:Nat) (at':Int),RD c w n s→c.apart sb→S9 w sb D at' ⟨#[]⟩ ⟨#[]⟩ ⟨#[]⟩ 0 (.slice none 0 0) (.slice none 0 0) (.slice none 0 0)→ ¬ Dry (Sx.nest c.e f D s (c.full.drop n))→
  Calls Tryz.prog 149 #[.pointer (some ⟨c.rb,0,none⟩),.pointer (some ⟨sb,0,none⟩)] w (Post c [sb,c.rb] w (encB w sb D at') (Sx.nest c.e f D s (c.full.drop n)))
theorem znb (x:List UInt8):Sx.doOf x≤14:=by
 unfold Sx.doOf
 split<;> omega
theorem zlu {ts:List Tk.Tok} (h:Sx.doOf (Sx.txt ts) ≠ 0):ts ≠ []:=by
 intro e
 rw [e] at h
 exact h rfl
theorem zck {c:Cx} {w wl:World} {n':Nat} {s':Sx.St} {d:Sx.Tr} {D at' N:Int} {A B T:ByteArray} {u0 u1 u2:Value} (HB:c.below w.heap.size) (hk:Kp [c.rb] w wl) (hd:RD c wl n' s') {m:Nat}
  (h0: ∃ a n cap,u0= .slice a n cap) (h1: ∃ a n cap,u1= .slice a n cap) (h2: ∃ a n cap,u2= .slice a n cap)
  (hv:RS wl (fun b=>w.heap.size+1≤b) m d [.int .i64 D,.int .i64 at',.string A,.string B,.string T,.int .i64 N,u0,u1,u2]):
  Post c [c.rb] w (encSt w) (.inl ([d],s',c.full.drop n')) (.returned (.agg #[.int .i64 D,.int .i64 at',.string A,.string B,.string T,.int .i64 N,u0,u1,u2]))
   (((((((((wl.setCell ⟨w.heap.size,0,none⟩ (.int .i64 D)).setCell ⟨w.heap.size,1,none⟩ (.int .i64 at')).setCell ⟨w.heap.size,2,none⟩ (.string A)).setCell ⟨w.heap.size,3,none⟩ (.string B)).setCell ⟨w.heap.size,4,none⟩ (.string T)).setCell ⟨w.heap.size,5,none⟩ (.int .i64 N)).setCell ⟨w.heap.size,6,none⟩ u0).setCell ⟨w.heap.size,7,none⟩ u1).setCell ⟨w.heap.size,8,none⟩ u2):=by
 have kz:Kp [w.heap.size] wl (((((((((wl.setCell ⟨w.heap.size,0,none⟩ (.int .i64 D)).setCell ⟨w.heap.size,1,none⟩ (.int .i64 at')).setCell ⟨w.heap.size,2,none⟩ (.string A)).setCell ⟨w.heap.size,3,none⟩ (.string B)).setCell ⟨w.heap.size,4,none⟩ (.string T)).setCell ⟨w.heap.size,5,none⟩ (.int .i64 N)).setCell ⟨w.heap.size,6,none⟩ u0).setCell ⟨w.heap.size,7,none⟩ u1).setCell ⟨w.heap.size,8,none⟩ u2):=
  Kp.rb (Kp.rb (Kp.rb (Kp.rb (Kp.rb (Kp.rb (Kp.rb (Kp.rb (Kp.rb (Kp.refl _ _) _ _) _ _) _ _) _ _) _ _) _ _) _ _) _ _) _ _
 refine ⟨_,n',rfl,⟨m,d,D,at',A,B,T,N,u0,u1,u2,rfl,rfl,h0,h1,h2,?_⟩,rfl,hd.keep kz (by have:=HB.1;simp;omega) (fun hne=>by have:=HB.2 hne;simp;omega),?_⟩
 ·exact (hv.keep kz (by simp)).base (fun b _ hb=>Nat.le_of_succ_le hb)
 ·exact Kp.new ((hk.mono (by simp)).trans (kz.mono (S':=[w.heap.size,c.rb]) (by simp))) (Nat.le_refl _)
theorem zkg (f:Nat) (D:Nat) (hy:True) (c:Cx) (w:World) (n:Nat) (s:Sx.St) (h:RD c w n s) (hD:Sx.doOf (Sx.txt (c.full.drop n))=D) (h0:D=0) (hf: ¬ Dry (Sx.ps c.e (f+1) 1 [] s (c.full.drop n))):
  Calls Tryz.prog 130 #[.pointer (some ⟨c.rb,0,none⟩)] w (Post c [c.rb] w (encSt w) (Sx.ps c.e (f+1) 1 [] s (c.full.drop n))):=by
 have hP:=Sx.ps_1 c.e f [] s (c.full.drop n)
 rw [hD] at hP
 have hd1:=zbt (bs (Sx.txt (c.full.drop n)))
 rw [zat,hD] at hd1
 have HDO:=hide hd1
 have HF:=hide hf
 have HH:=hide h
 have HB:=hide h.lt
 have HHYP:=hide hy
 have hr:=h.rlt
 have q3: ¬ c.rb=w.heap.size:=by omega
 have q4: ¬ c.rb=w.heap.size+1:=by omega
 clear h hf hd1 hy
 generalize hpl:Sx.place c.e (c.full.drop n)=pl at *
 have HPL:=hide hpl
 clear hpl
 rw [h0,if_pos rfl] at hP
 subst h0
 have HP:=hide hP
 clear hP HHYP
 go_enter Tryz.func130,Tryz.ntmps130
 go_wp2_with fail
 refine (zbg c _ n s (by exact HH.out.alloc _)).mono ?_
 rintro e w1 ⟨rfl,k1,rfl⟩
 go_wp2_with fail
 refine (HDO.out _).mono ?_
 rintro e w1 ⟨rfl,hw1⟩
 rw [hw1]
 clear hw1 w1
 go_wp2_with fail
 refine (at_any c _ n s (by exact (HH.out.alloc _).drewN _)).mono ?_
 rintro e w1 ⟨rfl,k2,rfl⟩
 rw [HPL.out]
 go_wp2_with fail
 refine (zc9 c _ n s (by exact ((HH.out.alloc _).alloc _).drewN _)).mono ?_
 rintro e w2 ⟨rfl,hb⟩
 go_wp2
 rw [HP.out]
 have e1:(Sx.unfit c.e (c.full.drop n):Sx.Rs (List Sx.Tr))= .inr (Sx.ucode (c.full.drop n),pl,c.full.drop n):=by rw [←HPL.out];rfl
 rw [e1,HPL.out]
 exact ⟨rfl,rfl,((((Kp.refl _ _).alloc _).alloc _).drewN _).trans (Kp.of_below hb)⟩
theorem zkh (f:Nat) (D:Nat) (hy:True) (c:Cx) (w:World) (n:Nat) (s:Sx.St) (h:RD c w n s) (hD:Sx.doOf (Sx.txt (c.full.drop n))=D) (h0:D ≠ 0) (h300:s.stmts=300) (hf: ¬ Dry (Sx.ps c.e (f+1) 1 [] s (c.full.drop n))):
  Calls Tryz.prog 130 #[.pointer (some ⟨c.rb,0,none⟩)] w (Post c [c.rb] w (encSt w) (Sx.ps c.e (f+1) 1 [] s (c.full.drop n))):=by
 have hP:=Sx.ps_1 c.e f [] s (c.full.drop n)
 rw [hD] at hP
 have hd1:=zbt (bs (Sx.txt (c.full.drop n)))
 rw [zat,hD] at hd1
 have HDO:=hide hd1
 have HF:=hide hf
 have HH:=hide h
 have HB:=hide h.lt
 have HHYP:=hide hy
 have hr:=h.rlt
 have q3: ¬ c.rb=w.heap.size:=by omega
 have q4: ¬ c.rb=w.heap.size+1:=by omega
 clear h hf hd1 hy
 generalize hpl:Sx.place c.e (c.full.drop n)=pl at *
 have HPL:=hide hpl
 clear hpl
 rw [if_neg h0,if_pos h300] at hP
 have HP:=hide hP
 have d0:((D:Int) == 0)=false:=by simp;omega
 have c3:=HH.out.c3
 rw [h300] at c3
 clear hP HHYP h300 h0
 go_enter Tryz.func130,Tryz.ntmps130
 go_wp2_with fail
 refine (zbg c _ n s (by exact HH.out.alloc _)).mono ?_
 rintro e w1 ⟨rfl,k1,rfl⟩
 go_wp2_with fail
 refine (HDO.out _).mono ?_
 rintro e w1 ⟨rfl,hw1⟩
 rw [hw1]
 clear hw1 w1
 go_wp2_with fail
 refine (at_any c _ n s (by exact (HH.out.alloc _).drewN _)).mono ?_
 rintro e w1 ⟨rfl,k2,rfl⟩
 rw [HPL.out]
 go_wp2_with fail
 refine (za9 8 c _ n s (by exact ((HH.out.alloc _).alloc _).drewN _)).mono ?_
 rintro e w2 ⟨rfl,hb⟩
 go_wp2
 rw [HP.out]
 have e1:(Sx.bad 8 c.e (c.full.drop n):Sx.Rs (List Sx.Tr))= .inr (8,pl,c.full.drop n):=by rw [←HPL.out];rfl
 rw [e1,HPL.out]
 exact ⟨rfl,rfl,((((Kp.refl _ _).alloc _).alloc _).drewN _).trans (Kp.of_below hb)⟩
theorem zie (f:Nat) (D:Nat) (hy:CP D f) (c:Cx) (w:World) (n:Nat) (s:Sx.St) (h:RD c w n s) (hD:Sx.doOf (Sx.txt (c.full.drop n))=D) (h0:D ≠ 0) (h11:D<11) (h300:s.stmts ≠ 300) (hf: ¬ Dry (Sx.ps c.e (f+1) 1 [] s (c.full.drop n))):
  Calls Tryz.prog 130 #[.pointer (some ⟨c.rb,0,none⟩)] w (Post c [c.rb] w (encSt w) (Sx.ps c.e (f+1) 1 [] s (c.full.drop n))):=by
 have hP:=Sx.ps_1 c.e f [] s (c.full.drop n)
 rw [hD] at hP
 have hd1:=zbt (bs (Sx.txt (c.full.drop n)))
 rw [zat,hD] at hd1
 have HDO:=hide hd1
 have HF:=hide hf
 have HH:=hide h
 have HB:=hide h.lt
 have HHYP:=hide hy
 have hr:=h.rlt
 have q3: ¬ c.rb=w.heap.size:=by omega
 have q4: ¬ c.rb=w.heap.size+1:=by omega
 clear h hf hd1 hy
 generalize hpl:Sx.place c.e (c.full.drop n)=pl at *
 have HPL:=hide hpl
 clear hpl
 rw [if_neg h0,if_neg h300,if_pos h11,List.tail_drop] at hP
 have HP:=hide hP
 have d0:((D:Int) == 0)=false:=by simp;omega
 have d3:((s.stmts:Int) == 300)=false:=by simp;omega
 have d11:((D:Int) == 11)=false:=by simp;omega
 have d12:((D:Int) == 12)=false:=by simp;omega
 have d13:((D:Int) == 13)=false:=by simp;omega
 have d14:((D:Int) == 14)=false:=by simp;omega
 have hlt:n<c.full.length:=by
  rcases Nat.lt_or_ge n c.full.length with h1|h1
  ·exact h1
  ·rw [List.drop_eq_nil_of_le h1] at hD
   exact absurd hD.symm h0
 have c3:=HH.out.c3
 have c1:=HH.out.c1
 have f1:=HH.out.fz 1
 have f3:=HH.out.fz 3
 have hm:=HH.out.hm
 have b3:=HH.out.b3
 have hl3:s.stmts<300:=by omega
 have HF2:Hid (¬ Dry (Sx.plain c.e f D s.stmt (c.full.drop (n+1)))):=by
  have h1:=HF.out
  rw [hP] at h1
  exact Dry.bnd h1
 have HAP:Hid (c.apart (w.heap.size+1)):=⟨by omega,fun hne=>by have:=HB.out.2 hne;omega⟩
 clear hP h300 h11 h0 hD
 go_enter Tryz.func130,Tryz.ntmps130
 go_wp2_with fail
 refine (zbg c _ n s (by exact HH.out.alloc _)).mono ?_
 rintro e w1 ⟨rfl,k1,rfl⟩
 go_wp2_with fail
 refine (HDO.out _).mono ?_
 rintro e w1 ⟨rfl,hw1⟩
 rw [hw1]
 clear hw1 w1
 go_wp2_with fail
 refine (at_any c _ n s (by exact (HH.out.alloc _).drewN _)).mono ?_
 rintro e w1 ⟨rfl,k2,rfl⟩
 rw [HPL.out]
 go_wp2_with fail
 have S1:Hid (S9 ((((( (w.alloc (.cells #[.int .i64 0,.int .i64 0,.string ⟨#[]⟩,.string ⟨#[]⟩,.string ⟨#[]⟩,.int .i64 0,.slice none 0 0,.slice none 0 0,.slice none 0 0] 51)).drewN (k1+k2)).setCell ⟨c.rb,3,none⟩ (.int .i64 ((s.stmts:Int)+1))).setCell ⟨c.rb,1,none⟩ (.int .i64 ((n:Int)+1))).alloc (.cells #[.int .i64 D,.int .i64 pl,.string ⟨#[]⟩,.string ⟨#[]⟩,.string ⟨#[]⟩,.int .i64 0,.slice none 0 0,.slice none 0 0,.slice none 0 0] 51)))
   (w.heap.size+1) D pl ⟨#[]⟩ ⟨#[]⟩ ⟨#[]⟩ 0 (.slice none 0 0) (.slice none 0 0) (.slice none 0 0)):=by
  have:=S9.new (((w.alloc (.cells #[.int .i64 0,.int .i64 0,.string ⟨#[]⟩,.string ⟨#[]⟩,.string ⟨#[]⟩,.int .i64 0,.slice none 0 0,.slice none 0 0,.slice none 0 0] 51)).drewN (k1+k2)).setCell ⟨c.rb,3,none⟩ (.int .i64 ((s.stmts:Int)+1)) |>.setCell ⟨c.rb,1,none⟩ (.int .i64 ((n:Int)+1))) D pl ⟨#[]⟩ ⟨#[]⟩ ⟨#[]⟩ 0 (.slice none 0 0) (.slice none 0 0) (.slice none 0 0) 51
  have e:(((w.alloc (.cells #[.int .i64 0,.int .i64 0,.string ⟨#[]⟩,.string ⟨#[]⟩,.string ⟨#[]⟩,.int .i64 0,.slice none 0 0,.slice none 0 0,.slice none 0 0] 51)).drewN (k1+k2)).setCell ⟨c.rb,3,none⟩ (.int .i64 ((s.stmts:Int)+1)) |>.setCell ⟨c.rb,1,none⟩ (.int .i64 ((n:Int)+1))).heap.size=w.heap.size+1:=by simp [World.setCell,World.drewN]
  rw [e] at this
  exact this
 have Z1:Hid (S9 ((((( (w.alloc (.cells #[.int .i64 0,.int .i64 0,.string ⟨#[]⟩,.string ⟨#[]⟩,.string ⟨#[]⟩,.int .i64 0,.slice none 0 0,.slice none 0 0,.slice none 0 0] 51)).drewN (k1+k2)).setCell ⟨c.rb,3,none⟩ (.int .i64 ((s.stmts:Int)+1))).setCell ⟨c.rb,1,none⟩ (.int .i64 ((n:Int)+1))).alloc (.cells #[.int .i64 D,.int .i64 pl,.string ⟨#[]⟩,.string ⟨#[]⟩,.string ⟨#[]⟩,.int .i64 0,.slice none 0 0,.slice none 0 0,.slice none 0 0] 51)))
   w.heap.size 0 0 ⟨#[]⟩ ⟨#[]⟩ ⟨#[]⟩ 0 (.slice none 0 0) (.slice none 0 0) (.slice none 0 0)):=
  (S9.new w 0 0 ⟨#[]⟩ ⟨#[]⟩ ⟨#[]⟩ 0 (.slice none 0 0) (.slice none 0 0) (.slice none 0 0) 51).keep (S:=[c.rb]) (Kp.alloc (Kp.rb (Kp.rb ((Kp.refl _ _).drewN _) _ _) _ _) _) (by simp;omega)
 have D1:Hid (RD c ((((( (w.alloc (.cells #[.int .i64 0,.int .i64 0,.string ⟨#[]⟩,.string ⟨#[]⟩,.string ⟨#[]⟩,.int .i64 0,.slice none 0 0,.slice none 0 0,.slice none 0 0] 51)).drewN (k1+k2)).setCell ⟨c.rb,3,none⟩ (.int .i64 ((s.stmts:Int)+1))).setCell ⟨c.rb,1,none⟩ (.int .i64 ((n:Int)+1))).alloc (.cells #[.int .i64 D,.int .i64 pl,.string ⟨#[]⟩,.string ⟨#[]⟩,.string ⟨#[]⟩,.int .i64 0,.slice none 0 0,.slice none 0 0,.slice none 0 0] 51))) (n+1) s.stmt):=
  ((((HH.out.alloc _).drewN _).stmt hl3).step hlt).alloc _
 have K1:Hid (Kp [c.rb] w ((((( (w.alloc (.cells #[.int .i64 0,.int .i64 0,.string ⟨#[]⟩,.string ⟨#[]⟩,.string ⟨#[]⟩,.int .i64 0,.slice none 0 0,.slice none 0 0,.slice none 0 0] 51)).drewN (k1+k2)).setCell ⟨c.rb,3,none⟩ (.int .i64 ((s.stmts:Int)+1))).setCell ⟨c.rb,1,none⟩ (.int .i64 ((n:Int)+1))).alloc (.cells #[.int .i64 D,.int .i64 pl,.string ⟨#[]⟩,.string ⟨#[]⟩,.string ⟨#[]⟩,.int .i64 0,.slice none 0 0,.slice none 0 0,.slice none 0 0] 51)))):=
  Kp.alloc (Kp.rb (Kp.rb (((Kp.refl _ _).alloc _).drewN _) _ _) _ _) _
 generalize hW1:((((( (w.alloc (.cells #[.int .i64 0,.int .i64 0,.string ⟨#[]⟩,.string ⟨#[]⟩,.string ⟨#[]⟩,.int .i64 0,.slice none 0 0,.slice none 0 0,.slice none 0 0] 51)).drewN (k1+k2)).setCell ⟨c.rb,3,none⟩ (.int .i64 ((s.stmts:Int)+1))).setCell ⟨c.rb,1,none⟩ (.int .i64 ((n:Int)+1))).alloc (.cells #[.int .i64 D,.int .i64 pl,.string ⟨#[]⟩,.string ⟨#[]⟩,.string ⟨#[]⟩,.int .i64 0,.slice none 0 0,.slice none 0 0,.slice none 0 0] 51)))=W1 at *
 have hW:w.heap.size+1<W1.heap.size:=S1.out.lt
 clear hW1 c3 c1 f1 f3
 refine (HHYP.out c _ (n+1) s.stmt (w.heap.size+1) pl D1.out HAP.out S1.out HF2.out).mono ?_
 intro e w2 hp
 rcases hm2:Sx.plain c.e f D s.stmt (c.full.drop (n+1)) with ⟨x,s2,r2⟩|⟨code,p,rest⟩
 rotate_left
 ·rw [hm2] at hp
  obtain ⟨rfl,hk⟩:=hp
  refine ⟨rfl,?_⟩
  rw [HP.out,hm2]
  exact ⟨rfl,Kp.new ((K1.out.mono (by simp)).trans hk) (Nat.le_succ _)⟩
 rw [hm2] at hp
 obtain ⟨v2,n2,rfl,⟨hv2,m,aE,cE,hS2,hE2⟩,hr2,hd2,hk2⟩:=hp
 have HP2:Hid (Sx.ps c.e (f+1) 1 [] s (c.full.drop n)=Sx.bnd (Sx.skp c.e [59] s2 (c.full.drop n2)) fun _ s r=> .inl ([Sx.tS D pl x.A x.B x.T x.n x.E [] []],s,r)):=by
  show _=_
  rw [HP.out,hm2,hr2]
  rfl
 have HS2:=hide hS2
 have HE2:=hide hE2
 have HD2:=hide hd2
 have HK2:=hide hk2
 have HZ2:=hide (Z1.out.keep hk2 (by simp;omega))
 clear hm2 hr2 hd2 hk2 hv2 hS2 hE2
 go_wp2_with fail
 refine (zak ⟨#[59]⟩ (by simp) c _ n2 s2 HD2.out).mono ?_
 intro e w3 hp
 rw [show (⟨#[59]⟩:ByteArray).data.toList=[59] from rfl] at hp
 rcases hm3:Sx.skp c.e [59] s2 (c.full.drop n2) with ⟨u3,s3,r3⟩|⟨code,p,rest⟩
 rotate_left
 ·rw [hm3] at hp
  obtain ⟨rfl,hk⟩:=hp
  refine ⟨rfl,?_⟩
  rw [HP2.out,hm3]
  exact ⟨rfl,Kp.new (((K1.out.mono (by simp)).trans HK2.out).trans (hk.mono (by simp))) (Nat.le_succ _)⟩
 rw [hm3] at hp
 obtain ⟨v3,n3,rfl,hv3,hr3,hd3,hk3⟩:=hp
 have HP3:Hid (Sx.ps c.e (f+1) 1 [] s (c.full.drop n)= .inl ([Sx.tS D pl x.A x.B x.T x.n x.E [] []],s3,c.full.drop n3)):=by
  show _=_
  rw [HP2.out,hm3,hr3]
  rfl
 have HD3:=hide hd3
 have HK3:=hide hk3
 obtain ⟨x0,x1,x2,x3,x4,x5,x6,x7,x8,xf⟩:=HS2.out.keep hk3 (by simp;omega)
 obtain ⟨z0,z1,z2,z3,z4,z5,z6,z7,z8,zf⟩:=HZ2.out.keep hk3 (by simp;omega)
 clear hm3 hr3 hd3 hk3 hv3
 have KE:Hid (Kp [c.rb] w w3):=Kp.new (((K1.out.mono (by simp)).trans HK2.out).trans (HK3.out.mono (by simp))) (Nat.le_succ _)
 have HRS:Hid (RS w3 (fun b=>w.heap.size+1≤b) (m+1) (Sx.tS D pl x.A x.B x.T x.n x.E [] []) [.int .i64 D,.int .i64 pl,.string (bs x.A),.string (bs x.B),.string (bs x.T),.int .i64 x.n,.slice aE x.E.length cE,.slice none 0 0,.slice none 0 0]):=by
  refine ⟨D,pl,x.A,x.B,x.T,x.n,x.E,[],[],_,_,_,rfl,rfl,?_,?_,?_⟩
  ·exact ((HE2.out.keep HK3.out (by have:=K1.out.size;simp;omega)).base (fun b _ hb=>by have:=K1.out.size;omega)).more 1
  ·rw [show m+1=1+m from Nat.add_comm _ _];exact (SL.nil _ _ _ _).more m
  ·rw [show m+1=1+m from Nat.add_comm _ _];exact (SL.nil _ _ _ _).more m
 generalize bs x.A=bA at *
 generalize bs x.B=bB at *
 generalize bs x.T=bT at *
 go_wp2
 refine bodyPost_ret (v:= .agg #[.int .i64 D,.int .i64 pl,.string bA,.string bB,.string bT,.int .i64 x.n,.slice aE x.E.length cE,.slice none 0 0,.slice none 0 0]) (by simp [results,Tryz.results130,go_sem,z0,z1,z2,z3,z4,z5,z6,z7,z8]) rfl ?_
 rw [HP3.out]
 exact zck HB.out KE.out HD3.out ⟨_,_,_,rfl⟩ ⟨_,_,_,rfl⟩ ⟨_,_,_,rfl⟩ HRS.out
end Go.Proofs.YtagblibbngmbdaaGreatDoor
