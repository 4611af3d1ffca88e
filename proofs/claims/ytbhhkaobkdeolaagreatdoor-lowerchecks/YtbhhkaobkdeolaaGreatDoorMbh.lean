import Derived.Test.YtbhhkaobkdeolaaGreatDoorMbg
import Derived.Test.YtbhhkaobkdeolaaGreatDoorMad
namespace Go.Proofs.YtbhhkaobkdeolaaGreatDoor
open Go.RowKit Go.Maps Go.ChangeMaps
structure SX (c:Kg) (vv:Value) (w:World) (b r:Nat) (d at' N:Int) (A B T:List UInt8) (uE uB uL:Value):Prop where
 q:BQ b w d at' N A B T uE uB uL
 r0:w.cell? ⟨r,0,none⟩=some (.int .i64 0)
 r1:w.cell? ⟨r,1,none⟩=some (.int .i64 0)
 f0:w.frozen? ⟨r,0,none⟩=false
 f1:w.frozen? ⟨r,1,none⟩=false
 bb:Bs c vv w b
 br:Bs c vv w r
theorem SX.go {c:Kg} {vv vv':Value} {w w':World} {b r:Nat} {d at' N:Int} {A B T:List UInt8} {uE uB uL:Value} (h:SX c vv w b r d at' N A B T uE uB uL) (k:Kf c vv w vv' w'):SX c vv' w' b r d at' N A B T uE uB uL:=
 ⟨h.q.keep k.kp h.bb.not,k.kp.some h.r0 h.br.not,k.kp.some h.r1 h.br.not,(k.kp.frozen (p:=⟨r,0,none⟩) h.br.lt h.br.not).trans h.f0,(k.kp.frozen (p:=⟨r,1,none⟩) h.br.lt h.br.not).trans h.f1,h.bb.go k,h.br.go k⟩
theorem SX.kp {c:Kg} {vv:Value} {w w':World} {b r:Nat} {d at' N:Int} {A B T:List UInt8} {uE uB uL:Value} (h:SX c vv w b r d at' N A B T uE uB uL) (k:Kp [] w w'):SX c vv w' b r d at' N A B T uE uB uL:=h.go (Kf.of_kp k)
theorem VR.nil (w:World):VR w (.slice none 0 0) []:=⟨none,0,rfl,fun h=>absurd rfl h⟩
theorem SL.kf {c:Kg} {w w':World} {vv vv':Value} {bd:List Kn.Nv} {fk:List UInt8→Option Value} {t n:Nat} {P:Nat→Prop} {ab l:List Sx.Tr} {v:Value} (h:SL w P n l v) (hs:KS c w vv bd fk t) (hq:Rq c w P ab) (k:Kf c vv w vv' w'):SL w' P n l v:=
 h.keep k.kp (fun b hb hp=>by have:=hs.S_ge b hb;have:=hq.pg b hp;omega)
set_option maxRecDepth 100000 in
set_option maxHeartbeats 4000000 in
theorem kStmt_ok (c:Kg) (m:Nat) (ih:BlT c (m+1)):SmT c (m+1):=by
 intro w P ab d at' A B T N E body els aE aB aL cE cB cL vv s s' hE hB hL hq h hx
 rcases oif hx with ⟨hok,hx⟩|⟨_,hx⟩
 rotate_left
 ·cases hx
 obtain ⟨s1,h1,h2⟩:=obind hx
 have f:=Kc.okS_of hok
 obtain ⟨ns,bd,t⟩:=s
 have ht1:t<100000:=by have:=f.la;simp only at this;omega
 have hwr:wrap64 ((t:Int)+1)=(t:Int)+1:=by simp only [wrap64];omega
 have H:=hide h
 have IH:=hide ih
 have HQ:=hide hq
 have HBd:=hide hB
 have HEl:=hide hL
 have CB:=hide (fun w' (hk:Kp [] w w')=>binds_any d c w' at' A B T N (.slice aE E.length cE) (.slice aB body.length cB) (.slice aL els.length cL) vv bd ns t f.lB f.lT (Nat.le_trans f.tB (by decide)) (Kc.sb_of f.sb) (h.kp hk))
 have CS:=hide (fun w' (hk:Kp [] w w') aV cV (hV:VR w' (.slice aV (Kn.bnp ns d A B T).length cV) (Kn.bnp ns d A B T))=>stmtCode_any' c m w' P ab d at' A B T N E body els aE cE (.slice aB body.length cB) (.slice aL els.length cL) vv bd ns (Kn.bnp ns d A B T) aV cV t f.d1 f.d2 f.lA f.lB f.lT f.lE f.oE hV f.lV (fun v hv=>Nat.le_trans (f.zV v hv).1 (by decide)) (fun i x hi=>f.xE x (List.mem_of_getElem? hi)) (hE.keep hk (by simp)) hq.gp (hq.st.keep hk (by simp)) (Kc.sb_of f.sb) (Nat.le_trans f.tA (by decide)) (h.kp hk))
 rw [show Kn.scp (m+1) ab ns bd (Kn.bnp ns d A B T) d N A T E (Kn.usedF ns (Sx.tS d at' A B T N E body els))=0 from f.sc] at CS
 have HC4:=hide h.c4
 have hgl:=h.lt
 have X0:Hid (SX c vv ((w.alloc (.cells #[.int .i64 d,.int .i64 at',.string (bs A),.string (bs B),.string (bs T),.int .i64 N,.slice aE E.length cE,.slice aB body.length cB,.slice aL els.length cL] 131)).alloc (.cells #[.int .i64 0,.int .i64 0] 28)) w.heap.size (w.heap.size+1) d at' N A B T (.slice aE E.length cE) (.slice aB body.length cB) (.slice aL els.length cL)):=
  hide ⟨(BQ.new w d at' N A B T _ _ _ 131).keep ((Kp.refl [] _).alloc _) (by simp),by simp [go_sem],by simp [go_sem],by simp [go_sem],by simp [go_sem],Bs.new h (Nat.le_refl _) (by simp;omega),Bs.new h (Nat.le_succ _) (by simp)⟩
 have HTW:=hide f.tw
 have HZV:=hide f.zV
 have hbl:bd.length+(Kn.bnp ns d A B T).length≤1000:=by have h1:=f.lb;have h2:=f.lV;dsimp only at h1 h2;omega
 have H1:=hide h1
 have H2:=hide h2
 clear h ih hq hB hL h1 h2 hx hok hE f
 dsimp only at H1 H2 HTW HZV HC4
 generalize Kn.bnp ns d A B T=V at *
 go_enter Tryz.func94,Tryz.ntmps94
 go_wp2_with fail
 refine (CB.out _ (((Kp.refl _ _).alloc _).alloc _)).mono ?_
 rintro e w1 ⟨aV,cV,rfl,hnew,k1,hV⟩
 have K1:=hide ((((Kp.refl [] w).alloc _).alloc _).trans k1)
 have X1:=hide (X0.out.kp k1)
 obtain ⟨⟨q0,q1,q2,q3,q4,q5,q6,q7,q8⟩,r0,r1,f0,f1,-,-⟩:=X1.out
 have HV:=hide hV
 have HN:Hid (∀ g o,aV=some ⟨g,o,none⟩→w.heap.size≤g∧g<w1.heap.size):=hide (fun g o e=>⟨by have:=(hnew g o e).1;simp at this;omega,(hnew g o e).2⟩)
 clear k1 hV hnew
 go_wp2_with fail
 refine (CS.out _ K1.out aV cV HV.out).mono ?_
 rintro e w2 ⟨rfl,k2⟩
 have K2:=hide (K1.out.trans k2)
 have X2:=hide (X1.out.kp k2)
 have HK12:=hide k2
 have x4:=K2.out.some HC4.out (by simp)
 have S2:=hide (H.out.kp K2.out)
 have g4:=S2.out.fz 4
 have hg2:=S2.out.lt
 clear k2 q0 q1 q2 q3 q4 q5 q6 q7 q8 r0 r1 f0 f1
 have S3:=hide (S2.out.next ht1)
 have F3:=hide ((Kf.of_kp (c:=c) (vv:=vv) K2.out).trans (Kf.g4 (.int .i64 ((t:Int)+1))))
 have X3:=hide (X2.out.go (Kf.g4 (.int .i64 ((t:Int)+1))))
 have HN3:Hid (VB c vv (w2.setCell ⟨c.g,4,none⟩ (.int .i64 ((t:Int)+1))) aV):=hide (fun g o e=>Bs.new H.out (HN.out g o e).1 (by have:=(HN.out g o e).2;have:=HK12.out.size;simp;omega))
 have HV3:Hid (VR (w2.setCell ⟨c.g,4,none⟩ (.int .i64 ((t:Int)+1))) (.slice aV V.length cV) V):=hide (HV.out.kpb (fun g o n cp k u hs hc=>by
  injection hs with hs _ _
  exact ((Kp.refl [c.g] w2).rb 4 _).some (HK12.out.some hc (by simp)) (by simpa using (HN3.out g o hs).n1)))
 obtain ⟨⟨q0,q1,q2,q3,q4,q5,q6,q7,q8⟩,r0,r1,f0,f1,-,-⟩:=X2.out
 obtain ⟨⟨p0,p1,p2,p3,p4,p5,p6,p7,p8⟩,u0,u1,v0,v1,-,-⟩:=X3.out
 have hgl3:=S3.out.lt
 have FIN:Hid (∀ (W4:World) (vX:Value) (sX:Kn.St) (VX:List Kn.Nv) (aX:Option Addr) (cX:Nat),KS c W4 vX sX.bd (Kn.fkn sX.ns sX.bd) sX.at'→Kf c vv w vX W4→VR W4 (.slice aX VX.length cX) VX→VB c vX W4 aX→Kc.blk (m+1) ab sX VX body=some s1→
   Calls Tryz.prog 66 #[.pointer (some ⟨c.g,0,none⟩),.slice aB body.length cB,.slice aX VX.length cX] W4 (EndW c vX W4 s1)):=hide (fun W4 vX sX VX aX cX hs hf hv hvb hx=>IH.out W4 P ab body aB cB VX aX cX vX sX s1 (HBd.out.kf H.out HQ.out hf) (HQ.out.keep H.out hf) hv hvb hs hx)
 have FI2:Hid (∀ (W5:World) (v5:Value),KS c W5 v5 s1.bd (Kn.fkn s1.ns s1.bd) s1.at'→Kf c vv w v5 W5→
   Calls Tryz.prog 66 #[.pointer (some ⟨c.g,0,none⟩),.slice aL els.length cL,.slice none 0 0] W5 (EndW c v5 W5 s')):=hide (fun W5 v5 hs hf=>IH.out W5 P ab els aL cL [] none 0 v5 s1 s' (HEl.out.kf H.out HQ.out hf) (HQ.out.keep H.out hf) (VR.nil _) (fun g o e=>by cases e) hs H2.out)
 by_cases hd:d=11∨d=12
 ·rw [if_pos hd] at H1
  have CF:=hide (FIN.out _ vv ⟨ns,bd,t+1⟩ V aV cV S3.out F3.out HV3.out HN3.out H1.out)
  have F4:=F3
  have X4:=X3
  rcases hd with rfl|rfl
  all_goals
   go_wp2_with fail
   refine CF.out.mono ?_
   rintro e w5 ⟨rfl,v5,h5,k5⟩
   have KA:Hid (Kp [] w5 (w5.alloc (.cells #[.int .i64 0,.int .i64 0] 28))):=hide ((Kp.refl _ _).alloc _)
   have X5:=hide (X4.out.go k5)
   have X5a:=hide (X5.out.kp KA.out)
   have F5:=hide ((F4.out.trans k5).trans (Kf.of_kp KA.out))
   have CF2:=hide (FI2.out _ v5 (h5.kp KA.out) F5.out)
   obtain ⟨⟨y0,y1,y2,y3,y4,y5,y6,y7,y8⟩,z0,z1,v0,v1,-,-⟩:=X5.out
   obtain ⟨⟨j0,j1,j2,j3,j4,j5,j6,j7,j8⟩,j9,j10,j11,j12,-,-⟩:=X5a.out
   clear h5 k5
   go_wp2_with fail
   refine CF2.out.mono ?_
   rintro e w6 ⟨rfl,v6,h6,k6⟩
   have X6:=hide (X5a.out.go k6)
   have S6:=hide h6
   have F6:=hide (F5.out.trans k6)
   obtain ⟨-,a0,a1,b0,b1,-,-⟩:=X6.out
   clear h6 k6
   go_wp2
   refine bodyPost_ret (v:= .agg #[.int .i64 0,.int .i64 0]) (by simp [results,Tryz.results94,go_sem,a0,a1]) rfl ?_
   have KE:Kp [w.heap.size+1] w6 ((w6.setCell ⟨w.heap.size+1,0,none⟩ (.int .i64 0)).setCell ⟨w.heap.size+1,1,none⟩ (.int .i64 0)):=((Kp.refl [w.heap.size+1] w6).rb 0 _).rb 1 _
   exact ⟨rfl,v6,S6.out.keepB KE X6.out.br a0,F6.out.endN KE (Nat.le_succ _)⟩
 ·rw [if_neg hd] at H1
  have d11:(d !=11)=true:=by simp;omega
  have d12:(d !=12)=true:=by simp;omega
  have CB4:=hide (kBind_any c _ vv bd ns (t+1) V aV cV S3.out HV3.out (fun g o e=>⟨(HN3.out g o e).n1,(HN3.out g o e).n2,(HN3.out g o e).n3,(HN3.out g o e).n4,(HN3.out g o e).lt⟩) hbl (fun v hv=>⟨Nat.le_trans (HZV.out v hv).1 (by decide),Nat.le_trans (HZV.out v hv).2 (by decide)⟩) HTW.out)
  go_wp2_with fail
  refine CB4.out.mono ?_
  rintro e w4 ⟨rfl,v4,h4,k4⟩
  have X4:=hide (X3.out.go k4)
  have F4:=hide (F3.out.trans k4)
  have CF:=hide (FIN.out _ v4 ⟨ns++V,bd++V,t+1⟩ [] none 0 h4 F4.out (VR.nil _) (fun g o e=>by cases e) H1.out)
  obtain ⟨⟨o0,o1,o2,o3,o4,o5,o6,o7,o8⟩,oa,ob,oc,od,-,-⟩:=X4.out
  clear h4 k4
  go_wp2_with fail
  refine CF.out.mono ?_
  rintro e w5 ⟨rfl,v5,h5,k5⟩
  have KA:Hid (Kp [] w5 (w5.alloc (.cells #[.int .i64 0,.int .i64 0] 28))):=hide ((Kp.refl _ _).alloc _)
  have X5:=hide (X4.out.go k5)
  have X5a:=hide (X5.out.kp KA.out)
  have F5:=hide ((F4.out.trans k5).trans (Kf.of_kp KA.out))
  have CF2:=hide (FI2.out _ v5 (h5.kp KA.out) F5.out)
  obtain ⟨⟨y0,y1,y2,y3,y4,y5,y6,y7,y8⟩,z0,z1,v0,v1,-,-⟩:=X5.out
  obtain ⟨⟨j0,j1,j2,j3,j4,j5,j6,j7,j8⟩,j9,j10,j11,j12,-,-⟩:=X5a.out
  clear h5 k5
  go_wp2_with fail
  refine CF2.out.mono ?_
  rintro e w6 ⟨rfl,v6,h6,k6⟩
  have X6:=hide (X5a.out.go k6)
  have S6:=hide h6
  have F6:=hide (F5.out.trans k6)
  obtain ⟨-,a0,a1,b0,b1,-,-⟩:=X6.out
  clear h6 k6
  go_wp2
  refine bodyPost_ret (v:= .agg #[.int .i64 0,.int .i64 0]) (by simp [results,Tryz.results94,go_sem,a0,a1]) rfl ?_
  have KE:Kp [w.heap.size+1] w6 ((w6.setCell ⟨w.heap.size+1,0,none⟩ (.int .i64 0)).setCell ⟨w.heap.size+1,1,none⟩ (.int .i64 0)):=((Kp.refl [w.heap.size+1] w6).rb 0 _).rb 1 _
  exact ⟨rfl,v6,S6.out.keepB KE X6.out.br a0,F6.out.endN KE (Nat.le_succ _)⟩
structure DX (c:Kg) (vv:Value) (w:World) (r first:Nat):Prop where
 r0:w.cell? ⟨r,0,none⟩=some (.int .i64 0)
 r1:w.cell? ⟨r,1,none⟩=some (.int .i64 0)
 f0:w.frozen? ⟨r,0,none⟩=false
 f1:w.frozen? ⟨r,1,none⟩=false
 p0:w.cell? ⟨r+1,0,none⟩=some (.pointer (some ⟨c.g,0,none⟩))
 q0:w.cell? ⟨r+2,0,none⟩=some (.int .i64 first)
 br:Bs c vv w r
 bp:Bs c vv w (r+1)
 bq:Bs c vv w (r+2)
theorem DX.go {c:Kg} {vv vv':Value} {w w':World} {r first:Nat} (h:DX c vv w r first) (k:Kf c vv w vv' w'):DX c vv' w' r first:=
 ⟨k.kp.some h.r0 h.br.not,k.kp.some h.r1 h.br.not,(k.kp.frozen (p:=⟨r,0,none⟩) h.br.lt h.br.not).trans h.f0,(k.kp.frozen (p:=⟨r,1,none⟩) h.br.lt h.br.not).trans h.f1,k.kp.some h.p0 h.bp.not,k.kp.some h.q0 h.bq.not,h.br.go k,h.bp.go k,h.bq.go k⟩
theorem DX.kp {c:Kg} {vv:Value} {w w':World} {r first:Nat} (h:DX c vv w r first) (k:Kp [] w w'):DX c vv w' r first:=h.go (Kf.of_kp k)
structure MB (c:Kg) (vv:Value) (w:World) (k:Nat) (n:Nat) (ab:List Sx.Tr) (rest:List Sx.Tr) (s2:Kn.St) (vr:Value) (s:Kn.St) (wr:World):Prop where
 st:KS c wr vr s.bd (Kn.fkn s.ns s.bd) s.at'
 kf:Kf c vv w vr wr
 dx:DX c vr wr w.heap.size k
 eq:Kc.go n ab (Kc.blk n ab) s rest=some s2
theorem door_any (c:Kg) (vv vr:Value) (w w4 w5:World) (bd BD:List Kn.Nv) (fk:List UInt8→Option Value) (tE:Nat) (x y:Int) (u:FrameMode) (hs:KS c w4 vr BD fk tE) (hf:Kf c vv w vr w4) (hd:DX c vr w4 w.heap.size bd.length) (hk:Kp [w.heap.size] w4 w5)
  (h0:w5.cell? ⟨w.heap.size,0,none⟩=some (.int .i64 x)) (h1:w5.cell? ⟨w.heap.size,1,none⟩=some (.int .i64 y)) (hl:bd.length≤BD.length):
  CallsD Tryz.prog 123 #[.pointer (some ⟨w.heap.size+1,0,none⟩),.pointer (some ⟨w.heap.size+1+1,0,none⟩)] u w5 fun e u' w'=>u'=u∧e= .returned (.tuple #[])∧KS c w' vr BD (Kn.dels fk (BD.drop bd.length)) tE∧Kf c vv w vr w'∧w'.cell? ⟨w.heap.size,0,none⟩=some (.int .i64 x)∧w'.cell? ⟨w.heap.size,1,none⟩=some (.int .i64 y):=by
 have hS5:=hs.keepB hk hd.br hd.r0
 have hp:w5.cell? ⟨w.heap.size+1,0,none⟩=some (.pointer (some ⟨c.g,0,none⟩)):=hk.some hd.p0 (by simp)
 have hq:w5.cell? ⟨w.heap.size+1+1,0,none⟩=some (.int .i64 bd.length):=hk.some hd.q0 (by simp;omega)
 refine (kOpenC_any c w5 vr BD fk tE (w.heap.size+1) (w.heap.size+1+1) bd.length u hS5 hp hq hl).mono ?_
 rintro e u' w' ⟨h2,h3,h4,h5⟩
 have hb:Bs c vr w5 w.heap.size:=⟨Nat.lt_of_lt_of_le hd.br.lt hk.size,hd.br.n1,hd.br.n2,hd.br.n3,hd.br.n4⟩
 exact ⟨h2,h3,h4,(hf.endN hk (Nat.le_refl _)).trans h5,h5.kp.some h0 hb.not,h5.kp.some h1 hb.not⟩
set_option maxRecDepth 100000 in
set_option maxHeartbeats 4000000 in
theorem kBlk_ok (c:Kg) (n:Nat) (sm:SmT c n):BlT c (n+1):=by
 intro w P ab l a cap V aV cV vv s s' hS hq hV hVb h hx
 rcases oif hx with ⟨⟨htw,hbl,hz,hlen⟩,hx⟩|⟨_,hx⟩
 rotate_left
 ·cases hx
 obtain ⟨s2,h2,hx⟩:=obind hx
 rcases oif hx with ⟨⟨hen,hle⟩,hx⟩|⟨_,hx⟩
 rotate_left
 ·cases hx
 cases hx
 obtain ⟨ns,bd,t⟩:=s
 dsimp only at *
 have H:=hide h
 have SM:=hide sm
 have HS:=hide hS
 have HQ:=hide hq
 have HEN:=hide (Kc.end_of hen)
 have hgl:=h.lt
 have hlb:bd.length≤1000:=h.lb
 have hmf: ∀ (fn:Fn) (first cap:Array Value) (w:World),(Instr.makeFunc fn first cap).run Tryz.prog w= .ok (.func fn first cap) w:=fun _ _ _ _=>rfl
 have K0:Hid (Kp [] w (w.alloc (.cells #[.int .i64 0,.int .i64 0] 28))):=hide ((Kp.refl _ _).alloc _)
 have CO:=hide (kOpen_any c _ vv bd (Kn.fkn ns bd) t (h.kp K0.out))
 have K2:Hid (Kp [] w (((w.alloc (.cells #[.int .i64 0,.int .i64 0] 28)).alloc (.cells #[.pointer (some ⟨c.g,0,none⟩)] 157)).alloc (.cells #[.int .i64 bd.length] 3))):=hide ((((Kp.refl _ _).alloc _).alloc _).alloc _)
 have CB:=hide (kBind_any c _ vv bd ns t V aV cV (h.kp K2.out) (hV.kpb (fun g o n cp k u hs hc=>K2.out.some hc (by simp))) (fun g o e=>⟨(hVb g o e).n1,(hVb g o e).n2,(hVb g o e).n3,(hVb g o e).n4,Nat.lt_of_lt_of_le (hVb g o e).lt K2.out.size⟩) hbl (fun v hv=>⟨Nat.le_trans (hz v hv).1 (by decide),Nat.le_trans (hz v hv).2 (by decide)⟩) htw)
 have D0:Hid (DX c vv (((w.alloc (.cells #[.int .i64 0,.int .i64 0] 28)).alloc (.cells #[.pointer (some ⟨c.g,0,none⟩)] 157)).alloc (.cells #[.int .i64 bd.length] 3)) w.heap.size bd.length):=
  hide ⟨by simp [go_sem],by simp [go_sem],by simp [go_sem],by simp [go_sem],by simp [go_sem],by simp [go_sem],Bs.new h (Nat.le_refl _) (by simp;omega),Bs.new h (Nat.le_succ _) (by simp),Bs.new h (by omega) (by simp)⟩
 have H2:=hide h2
 clear h sm hS hq hV hVb htw hz h2 hen
 go_enter_defers Tryz.func66,Tryz.ntmps66
 go_wp2_with fail
 refine CO.out.mono ?_
 rintro e w1 ⟨rfl,rfl⟩
 go_wp2_with fail
 refine CB.out.mono ?_
 rintro e w3 ⟨rfl,v3,h3,k3⟩
 have M0:Hid (MB c vv w bd.length n ab (l.drop 0) s2 v3 ⟨ns++V,bd++V,t⟩ w3):=hide ⟨h3,(Kf.of_kp K2.out).trans k3,D0.out.go k3,H2.out⟩
 clear h3 k3 CO CB D0 K2 K0
 go_wp2
 go_loopw [21] (fun iv wr=> ∃ i:Nat,i≤l.length∧iv= .int .i64 i∧Hid (∃ vr s,MB c vv w bd.length n ab (l.drop i) s2 vr s wr)) (fun iv _=>l.length - (intOf iv).toNat)
 case atStart=>exact ⟨0,Nat.zero_le _,rfl,hide ⟨_,_,M0.out⟩⟩
 case round=>
  obtain ⟨i,hil,rfl,HD⟩:=hrel
  obtain ⟨vr,s,hM⟩:=HD.out
  have HM:=hide hM
  clear HD hM M0
  by_cases hlt:i<l.length
  ·have d1:decide ((i:Int)<(l.length:Int))=true:=by simp;omega
   obtain ⟨b,off,D,at',A,B,T,N,E,body,els,uE,uB,uL,rfl,hPb,hd,v0,v1,v2,v3',v4,v5,v6,v7,v8,hE,hBd,hEl⟩:=(HS.out.kf H.out HQ.out HM.out.kf).nth i hlt
   obtain ⟨aE,cE,rfl⟩:=hE.slice
   obtain ⟨aB,cB,rfl⟩:=hBd.slice
   obtain ⟨aL,cL,rfl⟩:=hEl.slice
   have heq:=HM.out.eq
   rw [show l.drop i=Sx.tS D at' A B T N E body els::l.drop (i+1) from drop_nth hd] at heq
   obtain ⟨s5,h5,h6⟩:=obind heq
   have HRT:=hide (HQ.out.keep H.out HM.out.kf)
   have HC:=hide (fun w' (hk:Kp [] wr w')=>SM.out w' P ab D at' A B T N E body els aE aB aL cE cB cL vr s s5 (hE.keep hk (by simp)) (hBd.keep hk (by simp)) (hEl.keep hk (by simp)) (HRT.out.kp hk) (HM.out.st.kp hk) h5)
   have H6:=hide h6
   have hk0:(0:Int)≤(i:Int):=by omega
   have hk1:(i:Int)<(l.length:Int):=by omega
   clear hE hBd hEl hd heq h5 h6
   go_wp2_with fail
   refine (HC.out _ ((Kp.refl _ _).alloc _)).mono ?_
   rintro e w4 ⟨rfl,v4',h4,k4⟩
   have KA:Hid (Kp [] wr (wr.alloc (.cells #[.int .i64 D,.int .i64 at',.string (bs A),.string (bs B),.string (bs T),.int .i64 N,.slice aE E.length cE,.slice aB body.length cB,.slice aL els.length cL] 131))):=hide ((Kp.refl _ _).alloc _)
   have KB:Hid (Kp [] w4 (w4.alloc (.cells #[.int .i64 0,.int .i64 0] 28))):=hide ((Kp.refl _ _).alloc _)
   have M5:Hid (MB c vv w bd.length n ab (l.drop (i+1)) s2 v4' s5 (w4.alloc (.cells #[.int .i64 0,.int .i64 0] 28))):=hide ⟨h4.kp KB.out,((HM.out.kf.trans (Kf.of_kp KA.out)).trans k4).trans (Kf.of_kp KB.out),((HM.out.dx.kp KA.out).go k4).kp KB.out,H6.out⟩
   clear h4 k4
   go_wp2
   go_roundw
   case rel=>exact ⟨i+1,by omega,by go_num,hide ⟨_,_,M5.out⟩⟩
   case measure=>simp [intOf];omega
  ·obtain rfl:i=l.length:=by omega
   have d1:decide ((l.length:Int)<(l.length:Int))=false:=by simp
   obtain ⟨r0,r1,f0,f1,p0,q0,-,-,-⟩:=HM.out.dx
   have heq:=HM.out.eq
   rw [List.drop_length] at heq
   cases heq
   go_wp2
   have KE:Kp [w.heap.size] wr ((wr.setCell ⟨w.heap.size,0,none⟩ (.int .i64 0)).setCell ⟨w.heap.size,1,none⟩ (.int .i64 0)):=((Kp.refl [w.heap.size] wr).rb 0 _).rb 1 _
   refine leaves_cons (f:=123) (args:= #[.pointer (some ⟨w.heap.size+1,0,none⟩),.pointer (some ⟨w.heap.size+1+1,0,none⟩)]) (by simp) (by simp [go_sem]) ?_
   refine (door_any c vv vr w wr _ bd _ _ _ 0 0 _ HM.out.st HM.out.kf HM.out.dx KE (by simp [go_sem,r0]) (by simp [go_sem,r1]) hle).mono ?_
   rintro e u' w9 ⟨rfl,rfl,hks,hkf,x0,x1⟩
   refine ⟨.agg #[.int .i64 0,.int .i64 0],by simp [results,Tryz.results66,go_sem,x0,x1],rfl,vr,?_,hkf⟩
   rw [HEN.out] at hks
   exact hks
theorem kBlk_all (c:Kg) (n:Nat):BlT c n:=by
 induction n with
 |zero=>intro w P ab l a cap V aV cV vv s s' hS;cases hS
 |succ n ih=>
  refine kBlk_ok c n ?_
  cases n with
  |zero=>intro w P ab d at' A B T N E body els aE aB aL cE cB cL vv s s' hE;cases hE
  |succ m=>exact kStmt_ok c m ih
set_option maxRecDepth 100000 in
set_option maxHeartbeats 2000000 in
theorem paramVars_any (w:World) (P:Nat→Prop) (nm:List UInt8) (at':Int) (ps:List Sx.Tr) (aP:Option Addr) (cP:Nat) (uB:Value) (hl:ps.length≤1000) (hS:Sl RP w P ps (.slice aP ps.length cP)):
  Calls Tryz.prog 64 #[.agg #[.string (bs nm),.int .i64 at',.slice aP ps.length cP,uB]] w fun e w'=> ∃ a cap,e= .returned (.slice a (ps.map fun p=>((Sx.pH p).1,(Sx.pH p).2)).length cap)∧(∀ g o,a=some ⟨g,o,none⟩→w.heap.size≤g∧g<w'.heap.size)∧Kp [] w w'∧VR w' (.slice a (ps.map fun p=>((Sx.pH p).1,(Sx.pH p).2)).length cap) (ps.map fun p=>((Sx.pH p).1,(Sx.pH p).2)):=by
 obtain ⟨i0,hi0,hz0,hz1,hz2⟩:=info_parts Tryz.infoVar
 have HS:=hide hS
 have HL:Hid ((ps.map fun p=>((Sx.pH p).1,(Sx.pH p).2)).length=ps.length):=hide (by simp)
 clear hS
 go_enter Tryz.func64,Tryz.ntmps64
 go_wp2
 go_loopw [3,9] (fun tv iv wr=> ∃ i:Nat,i≤ps.length∧iv= .int .i64 i∧Hid (wr.ownsRow w.heap.size 57 2 tv i (vcells ((ps.map fun p=>((Sx.pH p).1,(Sx.pH p).2)).take i)))∧Hid (Kp [] w wr)) (fun _ iv _=>ps.length - (intOf iv).toNat)
 case atStart=>exact ⟨0,Nat.zero_le _,rfl,hide ⟨rfl,.inl ⟨rfl,rfl⟩⟩,hide ((Kp.refl _ _).alloc _)⟩
 case round=>
  obtain ⟨i,hil,rfl,HO,HK⟩:=hrel
  by_cases hlt:i<ps.length
  ·have d1:decide ((i:Int)<(ps.length:Int))=true:=by simp;omega
   obtain ⟨b,off,nm1,T1,rfl,hd,m0,m1⟩:=(HS.out.keep HK.out (by simp) (fun d c h=>h)).nth' i hlt
   have HTK:Hid ((ps.map fun p=>((Sx.pH p).1,(Sx.pH p).2)).take (i+1)=(ps.map fun p=>((Sx.pH p).1,(Sx.pH p).2)).take i++[(nm1,T1)]):=hide (by rw [List.take_add_one,List.getElem?_map,hd];rfl)
   have hk0:(0:Int)≤(i:Int):=by omega
   have hk1:(i:Int)<(ps.length:Int):=by omega
   have hsz:w.heap.size≤wr.heap.size:=HK.out.size
   clear hd
   go_wp2_with (at_builtin;refine wpList_append_lies _ rfl _ _ 39 rfl w.heap.size 57 i0 (.agg #[.string ⟨#[]⟩,.string ⟨#[]⟩]) 2 32 Tryz.underlying39 hi0 hz0 hz1 hz2 rfl (by decide) _ _ _ rfl (by exact (HO.out.alloc _).alloc _) ⟨wr.heap.size+1,0,none⟩ 1 1 [.string (bs nm1),.string (bs T1)] rfl rfl (by have:=vcells_new (wr.alloc (.cells #[.string (bs nm1),.string (bs T1)] 105)) (.string (bs nm1)) (.string (bs T1)) 57;simpa using this) (by intro u hu;simp at hu;rcases hu with rfl|rfl<;> rfl) (by decide) (by unfold maxLen;omega) (by omega) (by simp;omega) _ rfl ?_;intro gg cap2 w1 hown hgrow hat hlt1)
   have HO2:Hid (w1.ownsRow w.heap.size 57 2 (.slice (some ⟨gg,0,none⟩) (i+1) cap2) (i+1) (vcells ((ps.map fun p=>((Sx.pH p).1,(Sx.pH p).2)).take (i+1)))):=hide (by rw [HTK.out,vcells_app];exact hown)
   have HK2:Hid (Kp [] w w1):=hide (((HK.out.alloc _).alloc _).grown hgrow (fun k hk=> .inl (HO.out.lt k hk).1))
   clear hown hgrow hat
   go_wp2
   go_roundw
   case rel=>exact ⟨i+1,by omega,by go_num,HO2,HK2⟩
   case measure=>simp [intOf];omega
  ·obtain rfl:i=ps.length:=by omega
   have d1:decide ((ps.length:Int)<(ps.length:Int))=false:=by simp
   have HO':Hid (wr.ownsRow w.heap.size 57 2 u3 (ps.map fun p=>((Sx.pH p).1,(Sx.pH p).2)).length (vcells (ps.map fun p=>((Sx.pH p).1,(Sx.pH p).2)))):=hide (by
    have:=HO.out
    rw [List.take_of_length_le (by simp)] at this
    rw [HL.out];exact this)
   obtain ⟨aa,cc,hu3,-⟩:=vr_own HO'.out
   subst hu3
   go_wp2
   go_ret
   exact ⟨aa,cc,rfl,fun g o e=>HO'.out.lt g (by subst e;rfl),HK.out,vr_own HO'.out⟩
end Go.Proofs.YtbhhkaobkdeolaaGreatDoor
