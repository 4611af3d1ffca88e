import Derived.Test.YthcapfojofahkaaGreatDoorMbv
import Derived.Test.YthcapfojofahkaaGreatDoorMbt
namespace Go.Proofs.YthcapfojofahkaaGreatDoor
open Go.RowKit
def setCells (b:Nat):World→Nat→List Value→World
 |w,_,[]=>w
 |w,o,v::vs=>setCells b (w.setCell ⟨b,o,none⟩ v) (o+1) vs
theorem RD.sets {c:Cx} {n:Nat} {s:Sx.St} {B b:Nat} (hB:c.below B) (hb:B≤b) (vs:List Value): ∀ (w:World) (o:Nat),RD c w n s→RD c (setCells b w o vs) n s:=by
 induction vs with
 |nil=>exact fun w o h=>h
 |cons v vs ih=>exact fun w o h=>ih _ _ (h.set_new hB hb _)
theorem Kp.sets {S:List Nat} {a:World} {b:Nat} (hb:a.heap.size≤b∨b ∈ S) (vs:List Value): ∀ (w:World) (o:Nat),Kp S a w→Kp S a (setCells b w o vs):=by
 induction vs with
 |nil=>exact fun w o h=>h
 |cons v vs ih=>exact fun w o h=>ih _ _ (hb.elim (fun hb=>Kp.nb h hb _ _) (fun hb=>h.setCell (p:=⟨b,o,none⟩) hb _))
def z9:List Value:=[.int .i64 0,.int .i64 0,.string ⟨#[]⟩,.string ⟨#[]⟩,.string ⟨#[]⟩,.int .i64 0,.slice none 0 0,.slice none 0 0,.slice none 0 0]
def encSt (w0:World) (w':World) (d:Sx.Tr) (v:Value):Prop:= ∃ m D at' A B T N a0 x0 y0 a1 x1 y1 a2 x2 y2,v= .agg #[.int .i64 D,.int .i64 at',.string A,.string B,.string T,.int .i64 N,.slice a0 x0 y0,.slice a1 x1 y1,.slice a2 x2 y2]∧
 RS w' (fun b=>w0.heap.size≤b) m d [.int .i64 D,.int .i64 at',.string A,.string B,.string T,.int .i64 N,.slice a0 x0 y0,.slice a1 x1 y1,.slice a2 x2 y2]
theorem SB.nine {w:World} {b:Nat} {a0 a1 a2 a3 a4 a5 a6 a7 a8:Value} (h:SB w b [a0,a1,a2,a3,a4,a5,a6,a7,a8]):w.cell? ⟨b,0,none⟩=some a0∧w.cell? ⟨b,1,none⟩=some a1∧w.cell? ⟨b,2,none⟩=some a2∧w.cell? ⟨b,3,none⟩=some a3∧w.cell? ⟨b,4,none⟩=some a4∧w.cell? ⟨b,5,none⟩=some a5∧w.cell? ⟨b,6,none⟩=some a6∧w.cell? ⟨b,7,none⟩=some a7∧w.cell? ⟨b,8,none⟩=some a8:=
 ⟨h.cs 0 _ rfl,h.cs 1 _ rfl,h.cs 2 _ rfl,h.cs 3 _ rfl,h.cs 4 _ rfl,h.cs 5 _ rfl,h.cs 6 _ rfl,h.cs 7 _ rfl,h.cs 8 _ rfl⟩
def StC (K:List Nat) (f:Nat):Prop:= ∀ (c:Cx) (w:World) (n:Nat) (s:Sx.St) (d:Sx.Tr) (m:Nat) (s':Sx.St),RD c w n s→Bg.stmt K c.e c.full (Bg.block K c.e c.full f) n s=some (d,m,s')→
 Calls Tryz.prog 130 #[.pointer (some ⟨c.rb,0,none⟩)] w fun e w'=> ∃ v,encSt w w' d v∧Ok c w v m s' e w'
theorem SB.new (w:World) (b:Nat) (hb:b=w.heap.size) (vs:List Value) (t:TypeId):SB (w.alloc (.cells vs.toArray t)) b vs:=by
 subst hb
 exact ⟨fun j v hj=>by simp [go_sem,hj],fun o=>by simp [go_sem],by simp⟩
structure SE (c:Cx) (w w':World) (n:Nat) (s:Sx.St) (D at':Int) (A B T:ByteArray) (N:Int) (uE uB:Value) (d:Sx.Tr):Prop where
 rd:RD c w' n s
 kp:Kp [c.rb] w w'
 z:SB w' w.heap.size z9
 x:SB w' (w.heap.size+1) [.int .i64 D,.int .i64 at',.string A,.string B,.string T,.int .i64 N,uE,uB,.slice none 0 0]
 r: ∃ k,RS w' (fun b=>w.heap.size<b) k d [.int .i64 D,.int .i64 at',.string A,.string B,.string T,.int .i64 N,uE,uB,.slice none 0 0]
theorem fourB (D:Nat) (h:11≤D) (h':D<15):((D:Int) == 11)=true∨(((D:Int) == 11)=false∧((D:Int) == 12)=true)∨(((D:Int) == 11)=false∧((D:Int) == 12)=false∧((D:Int) == 13)=true)∨(((D:Int) == 11)=false∧((D:Int) == 12)=false∧((D:Int) == 13)=false∧((D:Int) == 14)=true):=by
 have:D=11∨D=12∨D=13∨D=14:=by omega
 rcases this with rfl|rfl|rfl|rfl<;> decide
set_option maxRecDepth 100000 in
set_option maxHeartbeats 4000000 in
theorem stmt_ok (K:List Nat) (f:Nat) (hK: ∀ D,D ∈ K→0<D∧(D<11→PlC (D:Int))∧(11≤D→D<15∧NsC K f D)):StC K f:=by
 intro c w n s d m s' h hx
 rcases oif hx with ⟨⟨h300,hDK⟩,hx⟩|⟨_,hx⟩
 rotate_left
 ·cases hx
 obtain ⟨D,hD⟩: ∃ D,Sx.doOf (Sx.txt (c.full.drop n))=D:=⟨_,rfl⟩
 rw [hD] at hx hDK
 obtain ⟨h0,hPl,hNs⟩:=hK D hDK
 have hd1:=doOf_any (bs (Sx.txt (c.full.drop n)))
 rw [bs_list,hD] at hd1
 have hlt:n<c.full.length:=by
  rcases Nat.lt_or_ge n c.full.length with h1|h1
  ·exact h1
  ·rw [List.drop_eq_nil_of_le h1] at hD
   exact absurd hD.symm (by show ¬ D=0;omega)
 have HDO:=hide hd1
 have HH:=hide h
 have HB:=hide h.lt
 have hr:=h.rlt
 have q3: ¬ c.rb=w.heap.size:=by omega
 have q4: ¬ c.rb=w.heap.size+1:=by omega
 have d0:((D:Int) == 0)=false:=by simp;omega
 have d3:((s.stmts:Int) == 300)=false:=by simp;omega
 have c3:=h.c3
 have c1:=h.c1
 have f1:=h.fz 1
 have f3:=h.fz 3
 have hm:=h.hm
 have HAP:Hid (c.apart (w.heap.size+1)):=⟨by omega,fun hne=>by have:=HB.out.2 hne;omega⟩
 generalize hpl:Sx.place c.e (c.full.drop n)=pl at *
 have HPL:=hide hpl
 have HPl:=hide hPl
 have HNs:=hide hNs
 have HX:=hide hx
 clear h hd1 hpl hPl hNs hx hK hDK hD
 go_enter Tryz.func130,Tryz.ntmps130
 go_wp2_with fail
 refine (text_any c _ n s (by exact HH.out.alloc _)).mono ?_
 rintro e w1 ⟨rfl,k1,rfl⟩
 go_wp2_with fail
 refine (HDO.out _).mono ?_
 rintro e w1 ⟨rfl,hw1⟩
 rw [hw1]
 clear hw1 w1
 go_wp2_with fail
 refine (at_any c _ n s (by exact (HH.out.alloc _).drewN _)).mono ?_
 rintro e w1 ⟨rfl,k2,rfl⟩
 rw [HPL.out]
 have hz:Hid (∀ w2,Kp [w.heap.size+1,c.rb] ((((((w.alloc (.cells z9.toArray 51)).drewN (k1+k2)).setCell ⟨c.rb,3,none⟩ (.int .i64 ((s.stmts:Int)+1))).setCell ⟨c.rb,1,none⟩ (.int .i64 ((n:Int)+1))).alloc (.cells (st0 D pl).toArray 51))) w2→Kp [c.rb] w w2∧SB w2 w.heap.size z9∧w.heap.size+2≤w2.heap.size):=fun w2 hk=>by
  refine ⟨Kp.new (b:=w.heap.size+1) ((Kp.alloc (Kp.rb (b:=c.rb) (S:=[]) (Kp.rb (((Kp.refl _ _).alloc _).drewN _) _ _) _ _) _).mono (by simp) |>.trans hk) (by omega),((SB.new w _ rfl z9 51).keep (S:=[c.rb]) (Kp.alloc (Kp.rb (Kp.rb ((Kp.refl _ _).drewN _) _ _) _ _) _) (by simp;omega)).keep hk (by simp;omega),?_⟩
  have:=hk.size
  simpa [World.setCell,World.drewN] using this
 rcases oif HX.out with ⟨h11,hx⟩|⟨h11,hx⟩
 ·obtain ⟨⟨x,l,m',t'⟩,h5,hx⟩:=obind hx
  cases hx
  obtain ⟨h15,hns⟩:=HNs.out h11
  have HN:=hide (hns c)
  have H5:=hide h5
  have hDD:=fourB D h11 h15
  clear h5 hns HX HNs HPl
  rcases hDD with d1|⟨d1,d2⟩|⟨d1,d2,d3⟩|⟨d1,d2,d3,d4⟩
  all_goals
   go_wp2_with fail
   refine (HN.out _ (n+1) s.stmt (w.heap.size+1) pl x l _ _ ?_ HAP.out ?_ H5.out).mono ?_
   ·exact ((((HH.out.alloc _).drewN _).stmt h300).step hlt).alloc _
   ·exact SB.new _ _ (by simp [World.setCell,World.drewN]) (st0 D pl) _
   rintro e w2 ⟨rfl,hd,hk,uE,uB,kB,hs,hE,hB⟩
   obtain ⟨hk2,hz2,hl2⟩:=hz.out w2 hk
   obtain ⟨aE,cE,rfl⟩:=hE.slice
   obtain ⟨aB,cB,rfl⟩:=hB.slice
   simp only [List.length_map] at hs hE
   have HS:=hide (SE.mk (c:=c) hd hk2 hz2 hs ⟨kB+2,D,pl,x.A,x.B,[],0,x.E.map Bg.tr,l,[],_,_,_,rfl,rfl,by rw [Nat.add_comm];exact (hE.base (fun b _ hb=>by simp [World.setCell,World.drewN] at hb;omega)).more kB,(hB.base (fun b _ hb=>by simp [World.setCell,World.drewN] at hb;omega)).more 2,by rw [show kB+2=1+(kB+1) from by omega];exact (SL.nil _ _ _ _).more _⟩)
   clear hd hk hk2 hz2 hs hE hB c1 c3 f1 f3 hz
   obtain ⟨z0,z1,z2,z3,z4,z5,z6,z7,z8⟩:=HS.out.z.nine
   obtain ⟨x0,x1,x2,x3,x4,x5,x6,x7,x8⟩:=HS.out.x.nine
   have zf:=HS.out.z.fz
   go_wp2
   refine bodyPost_ret (v:= .agg #[.int .i64 D,.int .i64 pl,.string (bs x.A),.string (bs x.B),.string ⟨#[]⟩,.int .i64 0,.slice aE x.E.length cE,.slice aB l.length cB,.slice none 0 0]) (by simp [results,Tryz.results130,go_sem,z0,z1,z2,z3,z4,z5,z6,z7,z8]) rfl ?_
   obtain ⟨kk,hr⟩:=HS.out.r
   refine ⟨_,⟨kk,_,_,_,_,_,_,_,_,_,_,_,_,_,_,_,rfl,?_⟩,rfl,RD.sets HB.out (Nat.le_refl _) [_,_,_,_,_,_,_,_,_] _ 0 HS.out.rd,Kp.sets (.inl (Nat.le_refl _)) [_,_,_,_,_,_,_,_,_] _ 0 HS.out.kp⟩
   exact (hr.keep (S:=[w.heap.size]) (Kp.sets (.inr (by simp)) [_,_,_,_,_,_,_,_,_] _ 0 (Kp.refl _ _)) (by simp)).base (fun b _ hb=>Nat.le_of_lt hb)
 ·obtain ⟨⟨x,m1,t'⟩,h5,hx⟩:=obind hx
  obtain ⟨m',h6,hx⟩:=obind hx
  cases hx
  have HN:=hide (HPl.out (by omega) c)
  have H5:=hide h5
  have H6:=hide h6
  have d11:((D:Int) == 11)=false:=by simp;omega
  have d12:((D:Int) == 12)=false:=by simp;omega
  have d13:((D:Int) == 13)=false:=by simp;omega
  have d14:((D:Int) == 14)=false:=by simp;omega
  clear h5 h6 HX HNs HPl
  go_wp2_with fail
  refine (HN.out _ (n+1) s.stmt (w.heap.size+1) pl x m1 t' ?_ HAP.out ?_ H5.out).mono ?_
  ·exact ((((HH.out.alloc _).drewN _).stmt h300).step hlt).alloc _
  ·exact SB.new _ _ (by simp [World.setCell,World.drewN]) (st0 D pl) _
  rintro e w2 ⟨rfl,hd,hk,uE,hs,hE⟩
  obtain ⟨hk2,hz2,hl2⟩:=hz.out w2 hk
  obtain ⟨aE,cE,rfl⟩:=hE.slice
  simp only [List.length_map] at hs hE
  have HD2:=hide hd
  have HK2:=hide hk2
  have HZ2:=hide hz2
  have HS2:=hide hs
  have HE2:=hide (hE.base (P':=fun b=>w.heap.size<b) (fun b _ hb=>by simp [World.setCell,World.drewN] at hb;omega))
  clear hd hk hk2 hz2 hs hE c1 c3 f1 f3 hz
  go_wp2_with fail
  refine (skip_ok ⟨#[59]⟩ H6.out HD2.out).mono ?_
  rintro e w3 ⟨rfl,hd,hk⟩
  have HS:Hid (SE c w w3 _ _ D pl (bs x.A) (bs x.B) (bs x.T) x.N (.slice aE x.E.length cE) (.slice none 0 0) (Sx.tS D pl x.A x.B x.T x.N (x.E.map Bg.tr) [] [])):=hide ⟨hd,HK2.out.trans hk,HZ2.out.keep hk (by simp;omega),HS2.out.keep hk (by simp;omega),2,D,pl,x.A,x.B,x.T,x.N,_,[],[],_,_,_,rfl,rfl,HE2.out.keep hk (by simp;omega),(SL.nil _ _ _ _).more 1,(SL.nil _ _ _ _).more 1⟩
  clear hd hk
  obtain ⟨z0,z1,z2,z3,z4,z5,z6,z7,z8⟩:=HS.out.z.nine
  obtain ⟨x0,x1,x2,x3,x4,x5,x6,x7,x8⟩:=HS.out.x.nine
  have zf:=HS.out.z.fz
  go_wp2
  refine bodyPost_ret (v:= .agg #[.int .i64 D,.int .i64 pl,.string (bs x.A),.string (bs x.B),.string (bs x.T),.int .i64 x.N,.slice aE x.E.length cE,.slice none 0 0,.slice none 0 0]) (by simp [results,Tryz.results130,go_sem,z0,z1,z2,z3,z4,z5,z6,z7,z8]) rfl ?_
  obtain ⟨kk,hr⟩:=HS.out.r
  refine ⟨_,⟨kk,_,_,_,_,_,_,_,_,_,_,_,_,_,_,_,rfl,?_⟩,rfl,RD.sets HB.out (Nat.le_refl _) [_,_,_,_,_,_,_,_,_] _ 0 HS.out.rd,Kp.sets (.inl (Nat.le_refl _)) [_,_,_,_,_,_,_,_,_] _ 0 HS.out.kp⟩
  exact (hr.keep (S:=[w.heap.size]) (Kp.sets (.inr (by simp)) [_,_,_,_,_,_,_,_,_] _ 0 (Kp.refl _ _)) (by simp)).base (fun b _ hb=>Nat.le_of_lt hb)
theorem RD.grown {c:Cx} {w w':World} {n:Nat} {s:Sx.St} {B:Nat} (h:RD c w n s) {row:Option Nat} (hg:w.grownBy w' row) (hrow: ∀ k,k ∈ row.toList→B≤k) (hb:c.below B):RD c w' n s:=
 h.keep (Kp.of_grown hg) (fun hm=>by have:=hrow _ hm;have:=hb.1;omega) (fun hne hm=>by have:=hrow _ hm;have:=hb.2 hne;omega)
def lenOf:Value→Nat
 | .slice _ n _=>n
 |_=>0
theorem own_len {w:World} {B t z n:Nat} {v:Value} {xs:List Value} (h:w.ownsRow B t z v n xs):lenOf v=n:=by
 rcases h.2 with ⟨rfl,hn⟩|⟨g,cap,cur,rfl,_⟩
 ·exact hn.symm
 ·rfl
structure LB (c:Cx) (w w':World) (n:Nat) (s:Sx.St) (v:Value) (acc:List Sx.Tr) (cs:List Value) (k:Nat):Prop where
 rd:RD c w' n s
 kp:Kp [c.rb] w w'
 own:w'.ownsRow w.heap.size 51 9 v acc.length cs
 rw:Rw (RS w' (fun b=>w.heap.size≤b∧some b ≠ v.ownBlock) k) acc cs
theorem LB.go {c:Cx} {w w1 w2:World} {n n2:Nat} {s s2:Sx.St} {v:Value} {acc:List Sx.Tr} {cs:List Value} {k:Nat} (h:LB c w w1 n s v acc cs k) (hr:c.rb<w.heap.size) (hd:RD c w2 n2 s2) (hk:Kp [c.rb] w1 w2):LB c w w2 n2 s2 v acc cs k:=
 ⟨hd,h.kp.trans hk,own_keep h.own hk (by simpa using hr),h.rw.mono (fun d cc hd=>hd.keep hk (by simp;omega))⟩
set_option maxRecDepth 100000 in
set_option maxHeartbeats 4000000 in
theorem block_ok (K:List Nat) (f:Nat) (hS:StC K f):BlC K (f+1):=by
 intro c w n s l m s' h hx
 obtain ⟨i0,hi0,hz0,hz1,hz2⟩:=info_parts Tryz.infoStmt
 rcases oif hx with ⟨h8,hx⟩|⟨_,hx⟩
 rotate_left
 ·cases hx
 obtain ⟨n1,h1,hx⟩:=obind hx
 obtain ⟨⟨l',n2,s2⟩,h2,hx⟩:=obind hx
 obtain ⟨m',h3,hx⟩:=obind hx
 rcases oif hx with ⟨hdp,hx⟩|⟨_,hx⟩
 rotate_left
 ·cases hx
 cases hx
 have ht:Sx.txt (c.full.drop n)=[123]:=by
  rcases oif h1 with ⟨h,_⟩|⟨_,h⟩
  ·exact h
  ·cases h
 have H1:=hide h1
 have H2:=hide h2
 have H3:=hide h3
 have HT:=hide ht
 have HH:=hide h
 have HB:=hide h.lt
 have HS:=hide hS
 have hr:=h.rlt
 have c4:=h.c4
 have d8:((s.dep:Int) == 8)=false:=by simp;omega
 clear h hx h1 h2 h3 ht hS
 go_enter Tryz.func110,Tryz.ntmps110
 go_wp2_with fail
 refine (sees_yes ⟨#[123]⟩ HT.out HH.out).mono ?_
 rintro e w1 ⟨rfl,k1,rfl⟩
 go_wp2_with fail
 refine (skip_ok ⟨#[123]⟩ H1.out (HH.out.drewN _)).mono ?_
 rintro e w2 ⟨rfl,hd2,hk2⟩
 have g4:=hd2.c4
 have gf:=hd2.fz 4
 have HL0:Hid (LB c w (w2.setCell ⟨c.rb,4,none⟩ (.int .i64 ((s.dep:Int)+1))) n1 s.up (.slice none 0 0) [] [] 0):=hide ⟨hd2.up h8,Kp.rb (((Kp.refl _ _).drewN _).trans hk2) _ _,World.ownsRow_nil _ _ _ _,rfl⟩
 clear hd2 hk2 c4
 go_wp2
 go_loopw [3] (fun v wr=> ∃ (q n3 k:Nat) (acc:List Sx.Tr) (s3:Sx.St) (cs:List Value),Hid (Bg.sts K c.e c.full (Bg.block K c.e c.full f) q acc n3 s3=some (l',n2,s2))∧Hid (LB c w wr n3 s3 v acc cs k)∧acc.length+q=301) (fun v _=>300 - lenOf v)
 case atStart=>exact ⟨301,n1,0,[],s.up,[],H2.out,HL0.out,rfl⟩
 case round=>
  obtain ⟨q,n3,k,acc,s3,cs,HQ,HL,hq⟩:=hrel
  have hz:=HL.out.kp.size
  match q,HQ,hq with
  |0,HQ,_=>cases HQ.out
  |q+1,HQ,hq=>
  rcases oif HQ.out with ⟨ht,hp⟩|⟨ht,hp⟩
  ·cases hp
   have HT3:=hide ht
   clear ht
   go_wp2_with fail
   refine (sees_yes ⟨#[125]⟩ HT3.out HL.out.rd).mono ?_
   rintro e w4 ⟨rfl,k4,rfl⟩
   go_wp2_with fail
   refine (skip_ok ⟨#[125]⟩ H3.out (HL.out.rd.drewN _)).mono ?_
   rintro e w5 ⟨rfl,hd5,hk5⟩
   have j4:=hd5.c4
   have jf:=hd5.fz 4
   have jb:=hd5.b4
   have HL5:=hide (HL.out.go hr (hd5.down hdp) (Kp.rb (((Kp.refl _ _).drewN _).trans hk5) _ _))
   clear hd5 hk5
   go_wp2
   go_ret
   exact ⟨_,⟨k+1,Sl.of_own (B:=w.heap.size) HL5.out.own rfl (fun b hb=>hb) (HL5.out.rw.mono (fun d cc hd=>hd.base (fun b _ hb=>hb.1)))⟩,rfl,HL5.out.rd,HL5.out.kp⟩
  ·rcases oif hp with ⟨_,hp⟩|⟨h300,hp⟩
   ·cases hp
   obtain ⟨⟨d,n5,s5⟩,h5,hp⟩:=obind hp
   have HT3:=hide ht
   have H5:=hide h5
   have HP5:=hide hp
   clear ht h5 hp
   go_wp2_with fail
   refine (sees_no ⟨#[125]⟩ HT3.out HL.out.rd).mono ?_
   rintro e w4 ⟨rfl,k4,rfl⟩
   go_wp2_with fail
   refine (HS.out c _ _ _ _ _ _ (HL.out.rd.drewN _) H5.out).mono ?_
   rintro e w5 ⟨v5,⟨m5,D,at',A,B,T,N,a0,x0,y0,a1,x1,y1,a2,x2,y2,rfl,hRS⟩,rfl,hd5,hk5⟩
   have HL5:=hide (HL.out.go hr hd5 (((Kp.refl _ _).drewN _).trans hk5))
   have HRS:=hide hRS
   have HOL:=hide (own_lt HL.out.own)
   have hsz5:=hk5.size
   simp at hsz5
   clear hd5 hk5 hRS
   go_wp2_with (at_builtin;refine wpList_append_lies _ rfl _ _ 41 rfl w.heap.size 51 i0 (.agg #[.int .i64 0,.int .i64 0,.string ⟨#[]⟩,.string ⟨#[]⟩,.string ⟨#[]⟩,.int .i64 0,.slice none 0 0,.slice none 0 0,.slice none 0 0]) 9 144 Tryz.underlying41 hi0 hz0 hz1 hz2 rfl (by decide) _ _ _ rfl (by exact HL5.out.own.alloc _) ⟨w5.heap.size,0,none⟩ 1 1 [.int .i64 D,.int .i64 at',.string A,.string B,.string T,.int .i64 N,.slice a0 x0 y0,.slice a1 x1 y1,.slice a2 x2 y2] rfl rfl ?c1 ?c2 ?c3 ?c4 ?c5 ?c6 _ rfl ?_)
   case c1=>exact cells_nine_new _ _ rfl _ _ _ _ _ _ _ _ _ _
   case c2=>intro u hu;simp at hu;rcases hu with rfl|rfl|rfl|rfl|rfl|rfl|rfl|rfl|rfl<;> rfl
   case c3=>decide
   case c4=>unfold maxLen;omega
   case c5=>omega
   case c6=>simp;omega
   ·intro g cap w6 hown hgrow hat hlt
    have hblk:=own_blk HL5.out.own
    have hR:Rw (RS (w5.alloc (.cells #[.int .i64 D,.int .i64 at',.string A,.string B,.string T,.int .i64 N,.slice a0 x0 y0,.slice a1 x1 y1,.slice a2 x2 y2] 51)) (fun b=>w.heap.size≤b∧some b ≠ Value.ownBlock u3) (k+m5)) (acc++[d]) (cs++[.int .i64 D,.int .i64 at',.string A,.string B,.string T,.int .i64 N,.slice a0 x0 y0,.slice a1 x1 y1,.slice a2 x2 y2]):=by
     refine Rw.snoc (HL5.out.rw.mono (fun d cc hd=>(hd.keep (S:=[]) ((Kp.refl _ _).alloc _) (by simp)).more m5)) ?_
     rw [Nat.add_comm k m5]
     refine ((HRS.out.base (P':=fun b=>w.heap.size≤b∧some b ≠ Value.ownBlock u3) (fun b _ hb=> ?_)).keep (S:=[]) ((Kp.refl _ _).alloc _) (by simp)).more k
     simp at hb
     exact ⟨by omega,fun e=>by have:=HOL.out b e;omega⟩
    have HL6:Hid (LB c w w6 n5 s5 (.slice (some ⟨g,0,none⟩) (acc.length+1) cap) (acc++[d]) (cs++[.int .i64 D,.int .i64 at',.string A,.string B,.string T,.int .i64 N,.slice a0 x0 y0,.slice a1 x1 y1,.slice a2 x2 y2]) (k+m5)):=
     hide ⟨(HL5.out.rd.alloc _).grown hgrow hblk HB.out,(HL5.out.kp.alloc _).grown hgrow (fun k hk=> .inl (hblk k (by rw [hk];simp))),by rw [List.length_append];exact hown,rows_grow (R:=fun w P d c=>RS w P (k+m5) d c) (fun w w' S P d c h hk hS=>h.keep hk hS) (fun w P P' d c h hP=>h.base hP) hR hgrow (by simpa using hat)⟩
    clear hR hown hgrow hat
    go_wp2
    refine ⟨⟨q,n5,k+m5,acc++[d],s5,_,HP5.out,HL6.out,by simp;omega⟩,?_⟩
    rw [own_len HL.out.own]
    show 300 - (acc.length+1)<_
    omega
theorem blocks_ok (K:List Nat) (hK: ∀ f D,D ∈ K→BlC K f→0<D∧(D<11→PlC (D:Int))∧(11≤D→D<15∧NsC K f D)) (f:Nat):BlC K f:=by
 induction f with
 |zero=>exact fun c w n s l m s' _ hx=>by cases hx
 |succ f ih=>exact block_ok K f (stmt_ok K f fun D hD=>hK f D hD ih)
end Go.Proofs.YthcapfojofahkaaGreatDoor
namespace Go.Proofs.YthcapfojofahkaaGreatDoor
open Go.RowKit
namespace Bg
def par (T:List Tk.Tok) (acc:List (List UInt8 × List UInt8)) (n:Nat) (s:Sx.St):Option (List (List UInt8 × List UInt8) × Nat × Sx.St):=(tok 2 T n).bind fun a=>(ty T 9 [] a.2).bind fun y=>if acc.length<9 then some (acc++[(a.1.text,y.1)],y.2,s) else none
def tp (p:List UInt8 × List UInt8):Sx.Tr:=Sx.tP p.1 p.2
def stage (K:List Nat) (e:Nat) (T:List Tk.Tok) (f:Nat) (n:Nat) (s:Sx.St):Option (Sx.Tr × Nat × Sx.St):=
 (skp Sx.wStage T n).bind fun m=>(tok 2 T m).bind fun a=>(br (par T) T [] a.2 s).bind fun p=>(block K e T f p.2.1 p.2.2).bind fun b=>some (Sx.tG a.1.text (Sx.place e (T.drop n)) (p.1.map tp) b.1,b.2.1,b.2.2)
end Bg
def pcs (acc:List (List UInt8 × List UInt8)):List Value:=acc.flatMap fun p=>[.string (bs p.1),.string (bs p.2)]
theorem pcs_rw (acc:List (List UInt8 × List UInt8)):Rw RP (acc.map Bg.tp) (pcs acc):=by
 induction acc with
 |nil=>rfl
 |cons p r ih=>exact ⟨[_,_],pcs r,rfl,⟨p.1,p.2,rfl,rfl⟩,ih⟩
structure GI (c:Cx) (B bx gb:Nat) (nm:ByteArray) (at':Int) (w:World) (acc:List (List UInt8 × List UInt8)) (u:Value):Prop where
 x:SB w gb [.string nm,.int .i64 at',u,.slice none 0 0]
 b0:w.cell? ⟨bx,0,none⟩=some (.pointer (some ⟨c.rb,0,none⟩))
 own:w.ownsRow B 44 2 u acc.length (pcs acc)
 bxg:bx ≠ gb
 ap:c.apart gb
 bxr:bx ≠ c.rb
 blt:bx<B
 glt:gb<B
 blw:c.below B
theorem GI.go {c:Cx} {B bx gb:Nat} {nm:ByteArray} {at':Int} {w w1:World} {acc:List (List UInt8 × List UInt8)} {u:Value} (h:GI c B bx gb nm at' w acc u) (hk:Kp [c.rb] w w1):GI c B bx gb nm at' w1 acc u:=
 { h with
   x:=h.x.keep hk (by have:=h.ap.1;simp;omega)
   b0:=hk.some h.b0 (by simpa using h.bxr)
   own:=own_keep h.own hk (by simpa using h.blw.1) }
theorem GI.row {c:Cx} {B bx gb:Nat} {nm:ByteArray} {at':Int} {w:World} {acc:List (List UInt8 × List UInt8)} {u:Value} (h:GI c B bx gb nm at' w acc u): ∃ a n cap,u= .slice a n cap:=by
 rcases h.own.2 with ⟨hv,_⟩|⟨g,cap,cur,hv,_⟩
 ·exact ⟨_,_,_,hv⟩
 ·exact ⟨_,_,_,hv⟩
theorem GI.add {c:Cx} {B bx gb:Nat} {nm:ByteArray} {at':Int} {w w1:World} {acc:List (List UInt8 × List UInt8)} {u:Value} (h:GI c B bx gb nm at' w acc u) (hg:w.grownBy w1 u.ownBlock) {v:Value} (p:List UInt8 × List UInt8) (hown:w1.ownsRow B 44 2 v (acc.length+1) (pcs acc++[.string (bs p.1),.string (bs p.2)])):
  GI c B bx gb nm at' (w1.setCell ⟨gb,2,none⟩ v) (acc++[p]) v:=by
 have hrow:=own_blk h.own
 exact { h with
  x:=(h.x.keep (Kp.of_grown hg) (fun hm=>by have:=hrow _ hm;have:=h.glt;omega)).set (j:=2) rfl v
  b0:=(World.cell?_setCell_far _ _ _ _ h.bxg.symm).trans ((Kp.of_grown hg).some h.b0 (fun hm=>by have:=hrow _ hm;have:=h.blt;simp only at *;omega))
  own:=by
   rw [List.length_append]
   have:=own_keep hown (S:=[gb]) (Kp.rb (Kp.refl _ _) 2 v) (by simpa using h.glt)
   simpa [pcs] using this }
theorem cells_two_new (w:World) (n:Nat) (hn:n=w.heap.size) (x y:Value) (t:TypeId): ∀ (j:Nat) (v:Value),[x,y][j]? =some v→(w.alloc (.cells #[x,y] t)).cell? ((⟨n,0,none⟩:Addr).add j)=some v:=by
 intro j v hj
 subst hn
 rw [Addr.add_mid]
 match j,hj with
 |0,hj=>simp at hj;subst hj;simp [go_sem]
 |1,hj=>simp at hj;subst hj;simp [go_sem]
set_option maxRecDepth 100000 in
set_option maxHeartbeats 2000000 in
theorem par_ok {c:Cx} {bx gb:Nat} {nm:ByteArray} {at':Int} {w0:World} (w:World) (acc:List (List UInt8 × List UInt8)) (n:Nat) (s:Sx.St) (acc':List (List UInt8 × List UInt8)) (n':Nat) (s':Sx.St) (hi: ∃ u,GI c w0.heap.size bx gb nm at' w acc u) (h:RD c w n s) (hk0:Kp [gb,c.rb] w0 w) (hx:Bg.par c.full acc n s=some (acc',n',s')):
  Calls Tryz.prog 108 #[.pointer (some ⟨bx,0,none⟩),.pointer (some ⟨gb,0,none⟩)] w fun e w2=>e= .returned (.tuple #[])∧(∃ u,GI c w0.heap.size bx gb nm at' w2 acc' u)∧RD c w2 n' s'∧Kp [gb,c.rb] w0 w2:=by
 obtain ⟨i0,hi0,hz0,hz1,hz2⟩:=info_parts Tryz.infoParam
 obtain ⟨u,hG⟩:=hi
 obtain ⟨aP,nP,cP,rfl⟩:=hG.row
 obtain ⟨⟨t,n1⟩,h1,hx⟩:=obind hx
 obtain ⟨⟨y,n2⟩,h2,hx⟩:=obind hx
 rcases oif hx with ⟨h9,hx⟩|⟨_,hx⟩
 rotate_left
 ·cases hx
 cases hx
 have H1:=hide h1
 have H2:=hide h2
 have HG:=hide hG
 have HH:=hide h
 have HK0:=hide hk0
 have b0:=hG.b0
 have g1:=hG.bxg
 have g2:=hG.bxr
 have g3:=hG.ap.1
 clear h hG h1 h2 hk0
 go_enter Tryz.func108,Tryz.ntmps108
 go_wp2_with fail
 refine (name_ok H1.out HH.out).mono ?_
 rintro e w1 ⟨rfl,hd1,hk1⟩
 have HG1:=hide (HG.out.go hk1)
 have HK1:=hide hk1
 have HD1:=hide hd1
 have e0:=HG1.out.b0
 have x2:=HG1.out.x.cs 2 _ rfl
 have xf:=HG1.out.x.fz
 clear hd1 hk1 b0
 go_wp2
 go_region_law ((first
  |(refine step_append_lies _ rfl _ _ 40 rfl w0.heap.size 44 i0 (.agg #[.string ⟨#[]⟩,.string ⟨#[]⟩]) 2 32 Tryz.underlying40 hi0 hz0 hz1 hz2 rfl (by decide) (.slice aP nP cP) acc.length (pcs acc) (by rfl) (by exact HG2.out.own.alloc _) ⟨w2.heap.size,0,none⟩ 1 1 [.string (bs t.text),.string (bs y)] (by rfl) rfl (cells_two_new _ _ rfl _ _ _) (by intro u hu;simp at hu;rcases hu with rfl|rfl<;> rfl) (by decide) (by unfold maxLen;omega) (by omega) (by have:=HK2.out.size;have:=HK0.out.size;simp;omega) _ rfl ?_;intro g cap w3 hown hgrow hat hlt;have HOW:=hide hown;have HGR:=hide hgrow;have hg3:=(HG2.out.x.keep (S:=[]) ((Kp.refl _ _).alloc _) (by simp)).keep (Kp.of_grown hgrow) (fun hm=>by have h1:=own_blk HG2.out.own _ hm;have h2:=HG2.out.glt;omega);have z2:=hg3.cs 2 _ rfl;have zf:=hg3.fz;clear hown hgrow hat hg3)
  |(refine step_cex rfl 109 (args:= #[.pointer (some ⟨c.rb,0,none⟩)]) (by go_simp) (typeText_ok H2.out HD1.out.drew) ?_;rintro w2 ⟨hd2,hk2⟩;have HG2:=hide ((HG1.out.go (Kp.refl _ _).drew).go hk2);have HD2:=hide hd2;have HK2:=hide (HK1.out.drew.trans hk2);have e02:=HG2.out.b0;have x22:=HG2.out.x.cs 2 _ rfl;have xf2:=HG2.out.x.fz;have glt2:gb<w2.heap.size:=HG2.out.x.lt;have blt2:bx<w2.heap.size:=World.block_lt_of_cell? w2 _ e02;clear hd2 hk2)))
 all_goals
  go_wp2
  go_end0
  have hrow:=own_blk HG2.out.own
  refine ⟨rfl,⟨_,(HG2.out.go ((Kp.refl _ _).alloc _)).add HGR.out (t.text,y) HOW.out⟩,((HD2.out.alloc _).grown HGR.out hrow HG2.out.blw).set_apart HG2.out.ap _ _,?_⟩
  exact Kp.rb (((HK0.out.trans (HK2.out.mono (by simp))).alloc _).grown HGR.out (fun k hk=> .inl (hrow k (by rw [hk];simp)))) _ _
structure GB (c:Cx) (w0 w:World) (n:Nat) (s:Sx.St) (vs:List Value):Prop where
 rd:RD c w n s
 kp:Kp [c.rb] w0 w
 b0:w.cell? ⟨w0.heap.size,0,none⟩=some (.pointer (some ⟨c.rb,0,none⟩))
 z:SB w (w0.heap.size+1) [.string ⟨#[]⟩,.int .i64 0,.slice none 0 0,.slice none 0 0]
 x:SB w (w0.heap.size+1+1) vs
 rlt:c.below w0.heap.size
section
variable {c:Cx} {w0 w w1:World} {n n1:Nat} {s s1:Sx.St} {vs:List Value}
theorem GB.ap (h:GB c w0 w n s vs):c.apart (w0.heap.size+1+1):=⟨by have:=h.rlt.1;omega,fun hne=>by have:=h.rlt.2 hne;omega⟩
theorem GB.go (h:GB c w0 w n s vs) (hd:RD c w1 n1 s1) (hk:Kp [c.rb] w w1):GB c w0 w1 n1 s1 vs:=by
 have hl:=h.rlt.1
 exact ⟨hd,h.kp.trans hk,hk.some h.b0 (by simp;omega),h.z.keep hk (by simp;omega),h.x.keep hk (by simp;omega),h.rlt⟩
theorem GB.set {j:Nat} {u:Value} (h:GB c w0 w n s vs) (hu:vs[j]? =some u) (v:Value):GB c w0 (w.setCell ⟨w0.heap.size+1+1,j,none⟩ v) n s (vs.set j v):=
 have k:Kp [w0.heap.size+1+1] w (w.setCell ⟨w0.heap.size+1+1,j,none⟩ v):=Kp.rb (Kp.refl _ _) _ _
 ⟨h.rd.set_apart h.ap _ _,Kp.nb h.kp (by omega) _ _,k.some h.b0 (by simp;omega),h.z.keep k (by simp),h.x.set hu v,h.rlt⟩
end
def encG (w0:World) (w':World) (d:Sx.Tr) (v:Value):Prop:= ∃ m nm at' a0 x0 y0 a1 x1 y1,v= .agg #[.string nm,.int .i64 at',.slice a0 x0 y0,.slice a1 x1 y1]∧RG w' (fun b=>w0.heap.size≤b) m d [.string nm,.int .i64 at',.slice a0 x0 y0,.slice a1 x1 y1]
set_option maxRecDepth 100000 in
set_option maxHeartbeats 2000000 in
theorem stage_ok (K:List Nat) (f:Nat) (hBl:BlC K f) {c:Cx} {w:World} {n m:Nat} {s s':Sx.St} {d:Sx.Tr} (h:RD c w n s) (hx:Bg.stage K c.e c.full f n s=some (d,m,s')):
  Calls Tryz.prog 77 #[.pointer (some ⟨c.rb,0,none⟩)] w fun e w'=> ∃ v,encG w w' d v∧Ok c w v m s' e w':=by
 obtain ⟨n1,h1,hx⟩:=obind hx
 obtain ⟨⟨t,n2⟩,h2,hx⟩:=obind hx
 obtain ⟨⟨ps,n3,s3⟩,h3,hx⟩:=obind hx
 obtain ⟨⟨l,n4,s4⟩,h4,hx⟩:=obind hx
 cases hx
 have H1:=hide h1
 have H2:=hide h2
 have H3:=hide h3
 have H4:=hide h4
 have HH:=hide h
 have HB:=hide h.lt
 have HBl:=hide hBl
 have hr:=h.rlt
 have q3: ¬ c.rb=w.heap.size:=by omega
 have q4: ¬ c.rb=w.heap.size+1:=by omega
 have q5: ¬ c.rb=w.heap.size+1+1:=by omega
 clear h h1 h2 h3 h4 hx hBl
 generalize hpl:Sx.place c.e (c.full.drop n)=pl at *
 have HPL:=hide hpl
 clear hpl
 go_enter Tryz.func77,Tryz.ntmps77
 go_wp2_with fail
 refine (at_any c _ n s (by exact (HH.out.alloc _).alloc _)).mono ?_
 rintro e w1 ⟨rfl,k,rfl⟩
 rw [HPL.out]
 go_wp2_with fail
 refine (skip_ok ⟨#[115,116,97,103,101]⟩ H1.out (by exact (((HH.out.alloc _).alloc _).alloc _).drewN _)).mono ?_
 rintro e w2 ⟨rfl,hd,hk⟩
 have HG2:Hid (GB c w w2 n1 s [.string ⟨#[]⟩,.int .i64 pl,.slice none 0 0,.slice none 0 0]):=hide ⟨hd,(((((Kp.refl _ _).alloc _).alloc _).alloc _).drewN _).trans hk,hk.some (by simp [go_sem]) (by simp;omega),(((SB.new (w.alloc (.cells #[.pointer (some ⟨c.rb,0,none⟩)] 106)) _ (by simp) [.string ⟨#[]⟩,.int .i64 0,.slice none 0 0,.slice none 0 0] 43).keep (((Kp.refl [] _).alloc _).drewN _) (by simp)).keep hk (by simp;omega)),((SB.new ((w.alloc (.cells #[.pointer (some ⟨c.rb,0,none⟩)] 106)).alloc (.cells #[.string ⟨#[]⟩,.int .i64 0,.slice none 0 0,.slice none 0 0] 43)) (w.heap.size+1+1) (by simp) [.string ⟨#[]⟩,.int .i64 pl,.slice none 0 0,.slice none 0 0] 43).keep ((Kp.refl [] _).drewN _) (by simp)).keep hk (by simp;omega),HB.out⟩
 have b2:=HG2.out.b0
 clear hd hk
 go_wp2_with fail
 refine (name_ok H2.out HG2.out.rd).mono ?_
 rintro e w3 ⟨rfl,hd,hk⟩
 have hg:=HG2.out.go hd hk
 have x0:=hg.x.cs 0 _ rfl
 have xf:=hg.x.fz
 have b3:=hg.b0
 have l3:=hg.x.lt
 have HG3:=hide (hg.set (j:=0) rfl (.string (bs t.text)))
 clear hd hk hg b2
 have b0:=HG3.out.b0
 have hF: ∀ w',(callFunc 108 #[.pointer (some ⟨w.heap.size,0,none⟩),.pointer (some ⟨w.heap.size+1+1,0,none⟩)]).run Tryz.prog w'= .ok (.enter 108 #[.pointer (some ⟨w.heap.size,0,none⟩),.pointer (some ⟨w.heap.size+1+1,0,none⟩)]) w':=fun _=>rfl
 go_wp2_with fail
 have HG3':=HG3
 revert HG3'
 generalize w3.setCell ⟨w.heap.size+1+1,0,none⟩ (.string (bs t.text))=W3 at *
 intro HG3'
 have lW:w.heap.size+1+1<W3.heap.size:=HG3.out.x.lt
 refine (bracketed_ok 108 _ hF c [w.heap.size+1+1,c.rb] (by simp) (fun w' acc=> ∃ u,GI c W3.heap.size w.heap.size (w.heap.size+1+1) (bs t.text) pl w' acc u) (fun w1 w2 a h hk=>by obtain ⟨u,h⟩:=h;exact ⟨u,h.go hk⟩) (Bg.par c.full) W3 (fun w1 a n s a' n' s' hi hd hk hx=>par_ok w1 a n s a' n' s' hi hd hk hx) (a:=[]) ⟨_,HG3.out.x,HG3.out.b0,World.ownsRow_nil _ _ _ _,by omega,HG3.out.ap,by omega,by omega,by omega,⟨by omega,fun hne=>by have:=HB.out.2 hne;omega⟩⟩ HG3.out.rd H3.out).mono ?_
 rintro e w4 ⟨rfl,⟨u,hi⟩,hd,hk⟩
 obtain ⟨aP,nP,cP,rfl⟩:=hi.row
 have HG4:Hid (GB c w w4 n3 s3 [.string (bs t.text),.int .i64 pl,.slice aP nP cP,.slice none 0 0]):=hide ⟨hd,Kp.new ((HG3.out.kp.mono (by simp)).trans hk) (by omega),hi.b0,HG3.out.z.keep hk (by simp;omega),hi.x,HB.out⟩
 have HP4:=hide (Sl.of_own (P:=fun b=>W3.heap.size≤b) hi.own (by simp) (fun b hb=>hb) (pcs_rw ps))
 have b4:=hi.b0
 have s4:=hk.size
 clear hd hk hi b0 b3
 go_wp2_with fail
 refine (HBl.out c _ _ _ _ _ _ HG4.out.rd H4.out).mono ?_
 rintro e w5 ⟨v,⟨k5,hv⟩,rfl,hd,hk⟩
 obtain ⟨aB,cB,rfl⟩:=hv.slice
 have hg:=HG4.out.go hd hk
 have y0:=hg.x.cs 0 _ rfl
 have y1:=hg.x.cs 1 _ rfl
 have y2:=hg.x.cs 2 _ rfl
 have y3:=hg.x.cs 3 _ rfl
 have z0:=hg.z.cs 0 _ rfl
 have z1:=hg.z.cs 1 _ rfl
 have z2:=hg.z.cs 2 _ rfl
 have z3:=hg.z.cs 3 _ rfl
 have zf:=hg.z.fz
 have yf:=hg.x.fz
 have b5:=hg.b0
 have HG5:=hide (hg.set (j:=3) rfl (.slice aB l.length cB))
 have HV:=hide ((hv.base (P':=fun b=>w.heap.size+1+1<b) (fun b _ hb=>by omega)).keep (S:=[w.heap.size+1+1]) (Kp.rb (Kp.refl _ _) 3 (.slice aB l.length cB)) (by simp))
 have HP5:=hide (((HP4.out.keep hk (by simp;omega) (fun d c h=>h)).base (P':=fun b=>w.heap.size+1+1<b) (fun b _ hb=>by omega) (fun d c h=>⟨h,by obtain ⟨_,_,_,rfl⟩:=h;simp⟩)).keep (S:=[w.heap.size+1+1]) (Kp.rb (Kp.refl _ _) 3 (.slice aB l.length cB)) (by simp) (fun d c h=>h))
 clear hd hk hg hv b4
 go_wp2
 refine bodyPost_ret (v:= .agg #[.string (bs t.text),.int .i64 pl,.slice aP nP cP,.slice aB l.length cB]) (by simp [results,Tryz.results77,go_sem,z0,z1,z2,z3]) rfl ⟨_,⟨k5,_,_,_,_,_,_,_,_,rfl,t.text,pl,ps.map Bg.tp,l,_,_,rfl,rfl,?_,?_⟩,rfl,RD.sets HB.out (Nat.le_succ _) [_,_,_,_] _ 0 HG5.out.rd,Kp.sets (.inl (Nat.le_succ _)) [_,_,_,_] _ 0 HG5.out.kp⟩
 ·exact (HP5.out.keep (S:=[w.heap.size+1]) (Kp.sets (.inr (by simp)) [_,_,_,_] _ 0 (Kp.refl _ _)) (by simp) (fun d c h=>h)).base (fun b _ hb=>by omega) (fun d c h=>⟨h,by obtain ⟨_,_,_,rfl⟩:=h;simp⟩)
 ·exact (HV.out.keep (S:=[w.heap.size+1]) (Kp.sets (.inr (by simp)) [_,_,_,_] _ 0 (Kp.refl _ _)) (by simp)).base (fun b _ hb=>by omega)
end Go.Proofs.YthcapfojofahkaaGreatDoor
