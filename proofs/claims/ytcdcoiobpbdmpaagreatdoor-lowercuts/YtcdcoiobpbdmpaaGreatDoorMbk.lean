import Derived.Test.YtcdcoiobpbdmpaaGreatDoorMbj
namespace Go.Proofs.YtcdcoiobpbdmpaaGreatDoor
open Go.RowKit Go.Maps Go.ChangeMaps
theorem Kn.cs_len (n:Nat) (l:List Sx.Tr):l.length≤Kn.cs (n+1) l:=by
 show l.length≤(l.map fun t=>1+Kn.cs n (Sx.sB t)+Kn.cs n (Sx.sO t)).sum
 induction l with
 |nil=>exact Nat.le_refl _
 |cons t r ih=>simp only [List.map_cons,List.sum_cons,List.length_cons];omega
theorem Kn.bud5 {l a b u:Nat} (h:l+2 * (1+a+b+u)≤1000):l+2 * (1+a+b)≤1000∧a+b≤1000:=by omega
theorem Kn.bud6 {t a b u:Nat} (h:t+(1+a+b+u)≤100000):t+(1+a+b)≤100000∧t<100000:=by omega
theorem Kn.bud7 {l l' t t' a b u:Nat} (h:l+2 * (1+a+b+u)≤1000) (h':t+(1+a+b+u)≤100000) (g:l'≤l+2 * (1+a+b)) (g':t'=t+(1+a+b)):l'+2 * u≤1000∧t'+u≤100000:=by omega
theorem smt_of (c:Kg): ∀ n,BlT c n→SmT c n:=by
 intro n h
 cases n with
 |zero=>intro w P ab d at' A B T N E body els aE aB aL cE cB cL vv ns bd t hE hB;cases hB
 |succ m=>exact kStmt_step c m h
structure DX (c:Kg) (vv:Value) (w:World) (r first:Nat):Prop where
 r0:w.cell? ⟨r,0,none⟩=some (.int .i64 0)
 r1:w.cell? ⟨r,1,none⟩=some (.int .i64 0)
 f0:w.frozen? ⟨r,0,none⟩=false
 f1:w.frozen? ⟨r,1,none⟩=false
 p0:w.cell? ⟨r+1,0,none⟩=some (.pointer (some ⟨c.g,0,none⟩))
 q0:w.cell? ⟨r+2,0,none⟩=some (.int .i64 first)
 br:Bs c vv w r
 bp:Bs c vv w (r+1)
 bq:Bs c vv w (r+2)
theorem DX.go {c:Kg} {vv vv':Value} {w w':World} {r first:Nat} (h:DX c vv w r first) (k:Kf c vv w vv' w'):DX c vv' w' r first:=
 ⟨k.kp.some h.r0 h.br.not,k.kp.some h.r1 h.br.not,(k.kp.frozen (p:=⟨r,0,none⟩) h.br.lt h.br.not).trans h.f0,(k.kp.frozen (p:=⟨r,1,none⟩) h.br.lt h.br.not).trans h.f1,k.kp.some h.p0 h.bp.not,k.kp.some h.q0 h.bq.not,h.br.go k,h.bp.go k,h.bq.go k⟩
theorem DX.kp {c:Kg} {vv:Value} {w w':World} {r first:Nat} (h:DX c vv w r first) (k:Kp [] w w'):DX c vv w' r first:=h.go (Kf.of_kp k)
structure MB (c:Kg) (vv:Value) (w:World) (ns bd V:List Kn.Nv) (t n:Nat) (ab:List Sx.Tr) (R:Kn.Rs) (rest:List Sx.Tr) (vr:Value) (s:Kn.St) (wr:World):Prop where
 st:KS c wr vr s.bd (Kn.fkn s.ns s.bd) s.at'
 kf:Kf c vv w vr wr
 dx:DX c vr wr w.heap.size bd.length
 eq:R=Kn.goK (fun s t=>Kn.one n ab (Kn.sts n ab) s t) s rest
 iv:Kn.Inv s
 gx:Kn.Gx ⟨ns++V,bd++V,t⟩ s
 fw:s.bd.length+2 * (rest.map fun t=>1+Kn.cs n (Sx.sB t)+Kn.cs n (Sx.sO t)).sum≤1000
 ft:s.at'+(rest.map fun t=>1+Kn.cs n (Sx.sB t)+Kn.cs n (Sx.sO t)).sum≤100000
theorem door_any (c:Kg) (vv vr:Value) (w w4 w5:World) (bd BD:List Kn.Nv) (fk:List UInt8→Option Value) (tE:Nat) (x y:Int) (u:FrameMode) (hs:KS c w4 vr BD fk tE) (hf:Kf c vv w vr w4) (hd:DX c vr w4 w.heap.size bd.length) (hk:Kp [w.heap.size] w4 w5)
  (h0:w5.cell? ⟨w.heap.size,0,none⟩=some (.int .i64 x)) (h1:w5.cell? ⟨w.heap.size,1,none⟩=some (.int .i64 y)) (hl:bd.length≤BD.length):
  CallsD Tryz.prog 105 #[.pointer (some ⟨w.heap.size+1,0,none⟩),.pointer (some ⟨w.heap.size+1+1,0,none⟩)] u w5 fun e u' w'=>u'=u∧e= .returned (.tuple #[])∧KS c w' vr BD (Kn.dels fk (BD.drop bd.length)) tE∧Kf c vv w vr w'∧w'.cell? ⟨w.heap.size,0,none⟩=some (.int .i64 x)∧w'.cell? ⟨w.heap.size,1,none⟩=some (.int .i64 y):=by
 have hS5:=hs.keepB hk hd.br hd.r0
 have hp:w5.cell? ⟨w.heap.size+1,0,none⟩=some (.pointer (some ⟨c.g,0,none⟩)):=hk.some hd.p0 (by simp)
 have hq:w5.cell? ⟨w.heap.size+1+1,0,none⟩=some (.int .i64 bd.length):=hk.some hd.q0 (by simp;omega)
 refine (kOpenC_any c w5 vr BD fk tE (w.heap.size+1) (w.heap.size+1+1) bd.length u hS5 hp hq hl).mono ?_
 rintro e u' w' ⟨h2,h3,h4,h5⟩
 have hb:Bs c vr w5 w.heap.size:=⟨Nat.lt_of_lt_of_le hd.br.lt hk.size,hd.br.n1,hd.br.n2,hd.br.n3,hd.br.n4⟩
 exact ⟨h2,h3,h4,(hf.endN hk (Nat.le_refl _)).trans h5,h5.kp.some h0 hb.not,h5.kp.some h1 hb.not⟩
set_option maxRecDepth 100000 in
set_option maxHeartbeats 4000000 in
theorem kBlk_step (c:Kg) (n:Nat) (sm:SmT c n):BlT c (n+1):=by
 intro w P ab l a cap V aV cV vv ns bd t hS hok hlen hq hV hVb htw htv hi hfw hft h
 have H:=hide h
 have SM:=hide sm
 have HS:=hide hS
 have HOK:=hide hok
 have HQ:=hide hq
 have HI:=hide hi
 have hgl:=h.lt
 have hlb:bd.length≤1000:=h.lb
 have hmf: ∀ (fn:Fn) (first cap:Array Value) (w:World),(Instr.makeFunc fn first cap).run Tryz.prog w= .ok (.func fn first cap) w:=fun _ _ _ _=>rfl
 have K0:Hid (Kp [] w (w.alloc (.cells #[.int .i64 0,.int .i64 0] 31))):=hide ((Kp.refl _ _).alloc _)
 have CO:=hide (kOpen_any c _ vv bd (Kn.fkn ns bd) t (h.kp K0.out))
 have K2:Hid (Kp [] w (((w.alloc (.cells #[.int .i64 0,.int .i64 0] 31)).alloc (.cells #[.pointer (some ⟨c.g,0,none⟩)] 145)).alloc (.cells #[.int .i64 bd.length] 3))):=hide ((((Kp.refl _ _).alloc _).alloc _).alloc _)
 have CB:=hide (kBind_any c _ vv bd ns t V aV cV (h.kp K2.out) (hV.kpb (fun g o n cp k u hs hc=>K2.out.some hc (by simp))) (fun g o e=>⟨(hVb g o e).1,(hVb g o e).2.1,(hVb g o e).2.2.1,(hVb g o e).2.2.2.1,Nat.lt_of_lt_of_le (hVb g o e).2.2.2.2 K2.out.size⟩) (by omega) (fun v hv=>by have:=htv v hv;exact ⟨Nat.le_trans this.2.2 (by decide),Nat.le_trans this.2.1 (by decide)⟩) htw)
 have HIV:=hide (hi.bind htw htv t)
 have D0:Hid (DX c vv (((w.alloc (.cells #[.int .i64 0,.int .i64 0] 31)).alloc (.cells #[.pointer (some ⟨c.g,0,none⟩)] 145)).alloc (.cells #[.int .i64 bd.length] 3)) w.heap.size bd.length):=
  hide ⟨by simp [go_sem],by simp [go_sem],by simp [go_sem],by simp [go_sem],by simp [go_sem],by simp [go_sem],Bs.new h (Nat.le_refl _) (by simp;omega),Bs.new h (Nat.le_succ _) (by simp),Bs.new h (by omega) (by simp)⟩
 have HRQ:Hid (Kn.sts (n+1) ab ⟨ns++V,bd++V,t⟩ l=Kn.goK (fun s t=>Kn.one n ab (Kn.sts n ab) s t) ⟨ns++V,bd++V,t⟩ (l.drop 0)):=rfl
 have HFW:Hid ((bd++V).length+2 * (l.map fun t=>1+Kn.cs n (Sx.sB t)+Kn.cs n (Sx.sO t)).sum≤1000):=hide (by rw [List.length_append];exact hfw)
 have HFT:Hid (t+(l.map fun t=>1+Kn.cs n (Sx.sB t)+Kn.cs n (Sx.sO t)).sum≤100000):=hide hft
 generalize Kn.sts (n+1) ab ⟨ns++V,bd++V,t⟩ l=R at *
 clear h sm hS hok hq hi hV hVb htw htv hfw hft
 go_enter_defers Tryz.func42,Tryz.ntmps42
 go_wp2_with fail
 refine CO.out.mono ?_
 rintro e w1 ⟨rfl,rfl⟩
 go_wp2_with fail
 refine CB.out.mono ?_
 rintro e w3 ⟨rfl,v3,h3,k3⟩
 have M0:Hid (MB c vv w ns bd V t n ab R (l.drop 0) v3 ⟨ns++V,bd++V,t⟩ w3):=hide ⟨h3,(Kf.of_kp K2.out).trans k3,D0.out.go k3,HRQ.out,HIV.out,Kn.Gx.refl _,HFW.out,HFT.out⟩
 clear h3 k3 HFW HFT HRQ CO CB D0 K2 K0
 go_wp2
 go_loopw [21] (fun iv wr=> ∃ i:Nat,i≤l.length∧iv= .int .i64 i∧Hid (∃ vr s,MB c vv w ns bd V t n ab R (l.drop i) vr s wr)) (fun iv _=>l.length - (intOf iv).toNat)
 case atStart=>exact ⟨0,Nat.zero_le _,rfl,hide ⟨_,_,M0.out⟩⟩
 case round=>
  obtain ⟨i,hil,rfl,HD⟩:=hrel
  obtain ⟨vr,s,hM⟩:=HD.out
  have HM:=hide hM
  clear HD hM M0
  by_cases hlt:i<l.length
  ·have d1:decide ((i:Int)<(l.length:Int))=true:=by simp;omega
   have hdis: ∀ k,k ∈ Kf.S c vv→ ¬ P k:=fun k hk hp=>by have:=H.out.S_ge k hk;have:=HQ.out.pg k hp;omega
   obtain ⟨b,off,D,at',A,B,T,N,E,body,els,uE,uB,uL,rfl,hPb,hd,v0,v1,v2,v3',v4,v5,v6,v7,v8,hE,hBd,hEl⟩:=(HS.out.keep HM.out.kf.kp hdis).nth i hlt
   obtain ⟨aE,cE,rfl⟩:=hE.slice
   obtain ⟨aB,cB,rfl⟩:=hBd.slice
   obtain ⟨aL,cL,rfl⟩:=hEl.slice
   have hmem:=List.mem_of_getElem? hd
   obtain ⟨⟨deep,o1⟩,o2,o3⟩:=Rn.okB_each HOK.out _ hmem
   have hdr:l.drop i=Sx.tS D at' A B T N E body els::l.drop (i+1):=drop_nth hd
   have hfw:=HM.out.fw
   have hft:=HM.out.ft
   rw [hdr] at hfw hft
   simp only [List.map_cons,List.sum_cons] at hfw hft
   change s.bd.length+2 * (1+Kn.cs n body+Kn.cs n els+_)≤1000 at hfw
   change s.at'+(1+Kn.cs n body+Kn.cs n els+_)≤100000 at hft
   generalize hsum:((l.drop (i+1)).map fun t=>1+Kn.cs n (Sx.sB t)+Kn.cs n (Sx.sO t)).sum=SU at *
   have hfw0:=hide hfw
   have hft0:=hide hft
   obtain ⟨hb1,hb2⟩:=Kn.bud5 hfw
   obtain ⟨hb3,hb4⟩:=Kn.bud6 hft
   have hlenB:body.length≤1000000∧els.length≤1000000:=by
    cases n with
    |zero=>cases hBd
    |succ n=>
     have:=Kn.cs_len n body
     have:=Kn.cs_len n els
     exact ⟨by omega,by omega⟩
   have HRT:=hide (HQ.out.keep H.out HM.out.kf)
   have HE:=hide hE
   have HBd:=hide hBd
   have HEl:=hide hEl
   have HC:=hide (fun w' (hk:Kp [] wr w')=>SM.out w' P ab D at' A B T N E body els aE aB aL cE cB cL vr s.ns s.bd s.at' (HE.out.keep hk (by simp)) (HBd.out.keep hk (by simp)) (HEl.out.keep hk (by simp)) (Rn.okf o1) o2 o3 hlenB.1 hlenB.2 (HRT.out.kp hk) (Kn.Inv.at_any HM.out.iv _) hb1 hb3 (HM.out.st.kp hk))
   have HRq:Hid (R=Kn.thn (Kn.one n ab (Kn.sts n ab) s (Sx.tS D at' A B T N E body els)) fun s'=>Kn.goK (fun s t=>Kn.one n ab (Kn.sts n ab) s t) s' (l.drop (i+1))):=hide (by rw [HM.out.eq,hdr];rfl)
   have HON:Hid (∀ s',Kn.one n ab (Kn.sts n ab) s (Sx.tS D at' A B T N E body els)= .inl s'→Kn.Inv s'∧Kn.Gx s s'∧s'.bd.length≤s.bd.length+2 * (1+Kn.cs n body+Kn.cs n els)∧s'.at'=s.at'+(1+Kn.cs n body+Kn.cs n els)):=hide (fun s' h=>by
    obtain ⟨g1,g2⟩:=Kn.one_inv n ab (Kn.sts n ab) (Rn.okf o1) (fun s s' hi h=>Kn.sts_inv ab n s body s' (SL.wh _ HBd.out) o2 hi h) (fun s s' hi h=>Kn.sts_inv ab n s els s' (SL.wh _ HEl.out) o3 hi h) s s' HM.out.iv h
    have g3:=Kn.one_go n ab (Kn.sts n ab) (Kn.cs n) (fun s l s' h=>Kn.sts_go n ab s l s' h) s _ s' h
    exact ⟨g1,g2,g3.fw,g3.at'⟩)
   have hk0:(0:Int)≤(i:Int):=by omega
   have hk1:(i:Int)<(l.length:Int):=by omega
   obtain ⟨sns,sbd,sat⟩:=s
   generalize Kn.one n ab (Kn.sts n ab) ⟨sns,sbd,sat⟩ (Sx.tS D at' A B T N E body els)=RO at *
   clear hE hBd hEl hd hdr hmem hdis hfw hft o1 o2 o3
   go_wp2_with fail
   refine (HC.out _ ((Kp.refl _ _).alloc _)).mono ?_
   intro e w4 hp
   cases RO with
   |inr f=>
    obtain ⟨rfl,hf0,v4',z4,fk4,t4,h4,k4⟩:=hp
    have KA:Hid (Kp [] wr (wr.alloc (.cells #[.int .i64 D,.int .i64 at',.string (bs A),.string (bs B),.string (bs T),.int .i64 N,.slice aE E.length cE,.slice aB body.length cB,.slice aL els.length cL] 75))):=hide ((Kp.refl _ _).alloc _)
    have D4:=hide ((HM.out.dx.kp KA.out).go k4)
    have F4:=hide ((HM.out.kf.trans (Kf.of_kp KA.out)).trans k4)
    have S4:=hide h4
    have HRf:Hid (R= .inr f):=hide HRq.out
    obtain ⟨y,z,e1,e2,-⟩:=HM.out.gx.gx
    have HZ:Hid (sbd++z4=bd++(V++z++z4)):=hide (by rw [show sbd=bd++V++z from e2];simp)
    obtain ⟨r0,r1,f0,f1,-,-,-,-,-⟩:=D4.out
    have hbr:=D4.out.br.lt
    have qf:(f.1 !=0)=true:=by simpa using hf0
    clear h4 k4 e1 e2 HON HRq
    go_wp2
    have KE:Kp [w.heap.size] w4 (((w4.setCell ⟨w.heap.size,0,none⟩ (.int .i64 f.1)).setCell ⟨w.heap.size,1,none⟩ (.int .i64 f.2)).alloc (.cells #[.int .i64 f.1,.int .i64 f.2] 31)):=(((Kp.refl [w.heap.size] w4).rb 0 _).rb 1 _).alloc _
    refine leaves_cons (f:=105) (args:= #[.pointer (some ⟨w.heap.size+1,0,none⟩),.pointer (some ⟨w.heap.size+1+1,0,none⟩)]) (by simp) (by simp [go_sem]) ?_
    refine (door_any c vv v4' w w4 _ bd _ fk4 t4 f.1 f.2 _ (by exact S4.out) F4.out D4.out KE (by simp [go_sem,r0,hbr]) (by simp [go_sem,r1,hbr]) (by rw [HZ.out];simp)).mono ?_
    rintro e u' w9 ⟨rfl,rfl,hks,hkf,x0,x1⟩
    refine ⟨.agg #[.int .i64 f.1,.int .i64 f.2],by simp [results,Tryz.results42,go_sem,x0,x1],?_⟩
    rw [HRf.out]
    rw [HZ.out] at hks
    exact ⟨rfl,hf0,v4',_,_,t4,hks,hkf⟩
   |inl s'=>
    obtain ⟨rfl,v4',h4,k4⟩:=hp
    have KA:Hid (Kp [] wr (wr.alloc (.cells #[.int .i64 D,.int .i64 at',.string (bs A),.string (bs B),.string (bs T),.int .i64 N,.slice aE E.length cE,.slice aB body.length cB,.slice aL els.length cL] 75))):=hide ((Kp.refl _ _).alloc _)
    have KB:Hid (Kp [] w4 (w4.alloc (.cells #[.int .i64 0,.int .i64 0] 31))):=hide ((Kp.refl _ _).alloc _)
    obtain ⟨g1,g2,g3,g4⟩:=HON.out s' rfl
    obtain ⟨hc1,hc2⟩:=Kn.bud7 hfw0.out hft0.out g3 g4
    have M5:Hid (MB c vv w ns bd V t n ab R (l.drop (i+1)) v4' s' (w4.alloc (.cells #[.int .i64 0,.int .i64 0] 31))):=hide ⟨h4.kp KB.out,((HM.out.kf.trans (Kf.of_kp KA.out)).trans k4).trans (Kf.of_kp KB.out),((HM.out.dx.kp KA.out).go k4).kp KB.out,HRq.out,g1,HM.out.gx.trans g2,by rw [hsum];exact hc1,by rw [hsum];exact hc2⟩
    clear h4 k4 g1 g2 g3 g4 hc1 hc2 HON HRq hsum
    go_wp2
    go_roundw
    case rel=>exact ⟨i+1,by omega,by go_num,hide ⟨_,_,M5.out⟩⟩
    case measure=>simp [intOf];omega
  ·obtain rfl:i=l.length:=by omega
   have d1:decide ((l.length:Int)<(l.length:Int))=false:=by simp
   obtain ⟨r0,r1,f0,f1,p0,q0,-,-,-⟩:=HM.out.dx
   go_wp2
   have KE:Kp [w.heap.size] wr ((wr.setCell ⟨w.heap.size,0,none⟩ (.int .i64 0)).setCell ⟨w.heap.size,1,none⟩ (.int .i64 0)):=((Kp.refl [w.heap.size] wr).rb 0 _).rb 1 _
   obtain ⟨y,z,e1,e2,e3⟩:=HM.out.gx.gx
   have e1':s.ns=ns++V++y:=e1
   have e2':s.bd=bd++V++z:=e2
   refine leaves_cons (f:=105) (args:= #[.pointer (some ⟨w.heap.size+1,0,none⟩),.pointer (some ⟨w.heap.size+1+1,0,none⟩)]) (by simp) (by simp [go_sem]) ?_
   refine (door_any c vv vr w wr _ bd s.bd _ s.at' 0 0 _ HM.out.st HM.out.kf HM.out.dx KE (by simp [go_sem,r0]) (by simp [go_sem,r1]) (by rw [e2'];simp)).mono ?_
   rintro e u' w9 ⟨rfl,rfl,hks,hkf,x0,x1⟩
   refine ⟨.agg #[.int .i64 0,.int .i64 0],by simp [results,Tryz.results42,go_sem,x0,x1],?_⟩
   have hR:=HM.out.eq
   rw [List.drop_length] at hR
   rw [hR]
   refine ⟨rfl,vr,?_,hkf⟩
   have hfe:=Kn.fkn_end (ns:=ns) (bd:=bd) (V:=V) (y:=y) (z:=z) (by rw [←e2'];exact HM.out.iv.sb.nd) HI.out.sb.sub e3
   rw [e1',e2',hfe] at hks
   rw [e2']
   exact hks
theorem kBlk_any (c:Kg) (n:Nat):BlT c n:=by
 induction n with
 |zero=>intro w P ab l a cap V aV cV vv ns bd t hS;cases hS
 |succ n ih=>exact kBlk_step c n (smt_of c n ih)
set_option maxRecDepth 100000 in
set_option maxHeartbeats 2000000 in
theorem paramVars_any (w:World) (P:Nat→Prop) (nm:List UInt8) (at':Int) (ps:List Sx.Tr) (aP:Option Addr) (cP:Nat) (uB:Value) (hl:ps.length≤1000) (hS:Sl RP w P ps (.slice aP ps.length cP)):
  Calls Tryz.prog 40 #[.agg #[.string (bs nm),.int .i64 at',.slice aP ps.length cP,uB]] w fun e w'=> ∃ a cap,e= .returned (.slice a (ps.map fun p=>((Sx.pH p).1,(Sx.pH p).2)).length cap)∧(∀ g o,a=some ⟨g,o,none⟩→w.heap.size≤g∧g<w'.heap.size)∧Kp [] w w'∧VR w' (.slice a (ps.map fun p=>((Sx.pH p).1,(Sx.pH p).2)).length cap) (ps.map fun p=>((Sx.pH p).1,(Sx.pH p).2)):=by
 obtain ⟨i0,hi0,hz0,hz1,hz2⟩:=info_parts Tryz.infoVar
 have HS:=hide hS
 have HL:Hid ((ps.map fun p=>((Sx.pH p).1,(Sx.pH p).2)).length=ps.length):=hide (by simp)
 clear hS
 go_enter Tryz.func40,Tryz.ntmps40
 go_wp2
 go_loopw [3,9] (fun tv iv wr=> ∃ i:Nat,i≤ps.length∧iv= .int .i64 i∧Hid (wr.ownsRow w.heap.size 98 2 tv i (vcells ((ps.map fun p=>((Sx.pH p).1,(Sx.pH p).2)).take i)))∧Hid (Kp [] w wr)) (fun _ iv _=>ps.length - (intOf iv).toNat)
 case atStart=>exact ⟨0,Nat.zero_le _,rfl,hide ⟨rfl,.inl ⟨rfl,rfl⟩⟩,hide ((Kp.refl _ _).alloc _)⟩
 case round=>
  obtain ⟨i,hil,rfl,HO,HK⟩:=hrel
  by_cases hlt:i<ps.length
  ·have d1:decide ((i:Int)<(ps.length:Int))=true:=by simp;omega
   obtain ⟨b,off,nm1,T1,rfl,hd,m0,m1⟩:=(HS.out.keep HK.out (by simp) (fun d c h=>h)).nth' i hlt
   have HTK:Hid ((ps.map fun p=>((Sx.pH p).1,(Sx.pH p).2)).take (i+1)=(ps.map fun p=>((Sx.pH p).1,(Sx.pH p).2)).take i++[(nm1,T1)]):=hide (by rw [List.take_add_one,List.getElem?_map,hd];rfl)
   have hk0:(0:Int)≤(i:Int):=by omega
   have hk1:(i:Int)<(ps.length:Int):=by omega
   have hsz:w.heap.size≤wr.heap.size:=HK.out.size
   clear hd
   go_wp2_with (at_builtin;refine wpList_append_lies _ rfl _ _ 35 rfl w.heap.size 98 i0 (.agg #[.string ⟨#[]⟩,.string ⟨#[]⟩]) 2 32 Tryz.underlying35 hi0 hz0 hz1 hz2 rfl (by decide) _ _ _ rfl (by exact (HO.out.alloc _).alloc _) ⟨wr.heap.size+1,0,none⟩ 1 1 [.string (bs nm1),.string (bs T1)] rfl rfl (by have:=vcells_new (wr.alloc (.cells #[.string (bs nm1),.string (bs T1)] 55)) (.string (bs nm1)) (.string (bs T1)) 98;simpa using this) (by intro u hu;simp at hu;rcases hu with rfl|rfl<;> rfl) (by decide) (by unfold maxLen;omega) (by omega) (by simp;omega) _ rfl ?_;intro gg cap2 w1 hown hgrow hat hlt1)
   have HO2:Hid (w1.ownsRow w.heap.size 98 2 (.slice (some ⟨gg,0,none⟩) (i+1) cap2) (i+1) (vcells ((ps.map fun p=>((Sx.pH p).1,(Sx.pH p).2)).take (i+1)))):=hide (by rw [HTK.out,vcells_app];exact hown)
   have HK2:Hid (Kp [] w w1):=hide (((HK.out.alloc _).alloc _).grown hgrow (fun k hk=> .inl (HO.out.lt k hk).1))
   clear hown hgrow hat
   go_wp2
   go_roundw
   case rel=>exact ⟨i+1,by omega,by go_num,HO2,HK2⟩
   case measure=>simp [intOf];omega
  ·obtain rfl:i=ps.length:=by omega
   have d1:decide ((ps.length:Int)<(ps.length:Int))=false:=by simp
   have HO':Hid (wr.ownsRow w.heap.size 98 2 u3 (ps.map fun p=>((Sx.pH p).1,(Sx.pH p).2)).length (vcells (ps.map fun p=>((Sx.pH p).1,(Sx.pH p).2)))):=hide (by
    have:=HO.out
    rw [List.take_of_length_le (by simp)] at this
    rw [HL.out];exact this)
   obtain ⟨aa,cc,hu3,-⟩:=vr_own HO'.out
   subst hu3
   go_wp2
   go_ret
   exact ⟨aa,cc,rfl,fun g o e=>HO'.out.lt g (by subst e;rfl),HK.out,vr_own HO'.out⟩
end Go.Proofs.YtcdcoiobpbdmpaaGreatDoor
