import Derived.Test.YthcapfojofahkaaGreatDoorMbl
namespace Go.Proofs.YthcapfojofahkaaGreatDoor
open Go.RowKit
set_option maxRecDepth 100000 in
set_option maxHeartbeats 16000000 in
theorem sts_step (c:Ng) (n:Nat) (ih:StsT c n):StsT c (n+1):=by
 intro w P l a cap nv bv ns bd t q hS hG hi hll hps hPg hok hlen hle hfw hft hns
 have HS:=hide hS
 have HG:=hide hG
 have HK:=hide hok
 have IH:=hide ih
 have hg:=hns.lt
 have HNS:=hide hns
 have M0:Hid (Kn.Mid c nv bv w ns (Kn.sts (n+1) (c.l.take c.i) ⟨ns,bd,t⟩ l) n (l.drop 0) nv bv ⟨ns,bd,t⟩ w):=hide ⟨hns,Nf.refl _ _ _ _,rfl,⟨[],by simp⟩,hle,hfw,hft⟩
 have hPn: ¬ P c.g:=fun h=>by have:=hPg _ h;omega
 generalize Kn.sts (n+1) (c.l.take c.i) ⟨ns,bd,t⟩ l=R at *
 clear hS hG hok ih hns hfw hft hle
 go_enter Tryz.func27,Tryz.ntmps27
 go_wp2
 go_loopw [4] (fun iv wr=> ∃ i:Nat,i≤l.length∧iv= .int .i64 i∧Hid ((∃ nv' bv' s,Kn.Mid c nv bv w ns R n (l.drop i) nv' bv' s wr)∨(∃ e:Int × Int,R= .inr e∧e.1 ≠ 0∧ ∃ nv' bv' x bd' t',NS c wr nv' bv' (ns++x) bd' t' e∧Nf c nv bv w nv' bv' wr))) (fun iv _=>l.length - (intOf iv).toNat)
 case atStart=>exact ⟨0,Nat.zero_le _,rfl,hide (.inl ⟨_,_,_,M0.out⟩)⟩
 case round=>
  obtain ⟨i,hil,rfl,HD⟩:=hrel
  rcases HD.out with ⟨nv',bv',s,hM⟩|⟨e,rfl,he,nv',bv',x,bd',t',hN,hF⟩
  ·clear HD
   have HM:=hide hM
   have c5:=hM.st.c5
   clear hM
   by_cases hlt:i<l.length
   ·have d1:decide ((i:Int)<(l.length:Int))=true:=by simp;omega
    have hdis: ∀ k,k ∈ Nf.S c nv bv→ ¬ P k:=fun k hk hp=>by have:=Nf.S_ge HNS.out k hk;have:=hPg k hp;omega
    obtain ⟨b,off,D,at',A,B,T,N,E,body,els,uE,uB,uL,rfl,hPb,hd,v0,v1,v2,v3,v4,v5,v6,v7,v8,hE,hBd,hEl⟩:=(HS.out.keep HM.out.nf.kp hdis).nth i hlt
    have hGr:=HG.out.keep HM.out.nf.kp hdis (fun d c h=>h.keep HM.out.nf.kp hdis)
    obtain ⟨aE,cE,rfl⟩:=hE.slice
    obtain ⟨aB,cB,rfl⟩:=hBd.slice
    obtain ⟨aL,cL,rfl⟩:=hEl.slice
    obtain ⟨o1,o2,o3,o4,o5,o6,o7,o8,o9⟩:=HK.out i _ hd
    change 1≤D at o1
    change D≤14 at o2
    change D<11→body=[]∧els=[] at o3
    change D=6→E ≠ [] at o4
    change T.length≤1000000 at o5
    change E.length≤1000000 at o6
    have HE:=hide hE
    have HBd:=hide hBd
    have HEl:=hide hEl
    have HGr:=hide hGr
    have O7:=hide o7
    have O8:=hide o8
    have O9:=hide o9
    have HC:=hide (fun w' (hk:Kp [] wr w')=>stt_any D o1 o2 c n q w' P at' A B T N E body els aE cE (.slice aB body.length cB) (.slice aL els.length cL) nv' bv' s.ns s.bd s.at' (0,0) (HE.out.keep hk (by simp)) (HGr.out.keep hk (by simp) (fun d c h=>h.keep hk (by simp))) hi hll hPn O7.out o6 hps o5 rfl o4 (HM.out.st.keep hk (by simp)))
    have hRq:Hid (R=Kn.thn (Kn.one n (c.l.take c.i) (Kn.sts n (c.l.take c.i)) s (Sx.tS D at' A B T N E body els)) fun s'=>Kn.goK (fun s t=>Kn.one n (c.l.take c.i) (Kn.sts n (c.l.take c.i)) s t) s' (l.drop (i+1))):=hide (HM.out.eq.trans (Kn.goK_at _ _ _ _ _ hd))
    have hdr:Hid (l.drop i=Sx.tS D at' A B T N E body els::l.drop (i+1)):=hide (drop_nth hd)
    have hgr:=HM.out.st.lt
    have hk0:(0:Int)≤(i:Int):=by omega
    have hk1:(i:Int)<(l.length:Int):=by omega
    clear hE hBd hEl hGr o7 o8 o9 hd
    go_wp2_with fail
    refine (HC.out _ ((Kp.refl _ _).alloc _)).mono ?_
    rintro e w1 ⟨so,rfl,hso,h1,k1⟩
    have kk:Kp [c.g] wr w1:=((Kp.refl _ _).alloc _).trans k1
    have N1:=hide (HM.out.nf.trans (Nf.of_kp (nv:=nv') (bv:=bv') kk))
    have NR1:=hide (Nf.of_kp (nv:=nv') (bv:=bv') kk)
    have hdis2:Hid (∀ k,k ∈ Nf.S c nv' bv'→ ¬ P k):=hide (fun k hk hp=>by have:=Nf.S_ge HM.out.st k hk;have:=hPg k hp;omega)
    have SB1:Hid (NmB c wr.heap.size nv' bv' w1 D N A B T (.slice aE E.length cE) (.slice aB body.length cB) (.slice aL els.length cL)):=by
     have hno:wr.heap.size ∉ [c.g]:=by simp only [List.mem_singleton];omega
     exact hide ⟨Nat.lt_of_lt_of_le (by simp) k1.size,by omega,fun e=>by have:=(HM.out.st.on.lt _ e).2;omega,fun e=>by have:=(HM.out.st.ob.lt _ e).2;omega,⟨k1.some (by simp [go_sem]) hno,k1.some (by simp [go_sem]) hno,k1.some (by simp [go_sem]) hno,k1.some (by simp [go_sem]) hno,k1.some (by simp [go_sem]) hno,k1.some (by simp [go_sem]) hno⟩,k1.some (by simp [go_sem]) hno,k1.some (by simp [go_sem]) hno⟩
    by_cases hC:Kn.sc n (c.l.take c.i) s.ns s.bd (Sx.tS D at' A B T N E body els)=0
    ·rw [hC,Kn.flt_zero] at h1
     have HMt:=hide (HM.out)
     rw [hdr.out] at HMt
     have x2:=h1.c2
     have x4:=h1.c4
     have x5:=h1.c5
     have g4:=h1.fz 4
     have hbt:=h1.lat
     obtain ⟨an,cn,hnv,-⟩:=vr_own h1.on
     have hfw:=HMt.out.fw
     have hft:=HMt.out.ft
     have hle:=HMt.out.le
     simp only [List.map_cons,List.sum_cons] at hfw hft
     have hat:s.at'<100000:=Nat.lt_of_lt_of_le (Nat.lt_add_of_pos_right (by clear hft hfw hbt;omega)) hft
     have hl3:s.bd.length<1000:=by omega
     have hl4:s.ns.length<1000:=by omega
     have hwr:wrap64 ((s.at':Int)+1)=((s.at'+1:Nat):Int):=by simp only [wrap64];omega
     have H2:=hide (h1.next hat)
     have N2:=hide (N1.out.trans (Nf.of_kp (nv:=nv') (bv:=bv') ((Kp.refl [c.g] w1).rb 4 (.int .i64 ((s.at'+1:Nat):Int)))))
     have NR2:=hide (NR1.out.trans (Nf.of_kp (nv:=nv') (bv:=bv') ((Kp.refl [c.g] w1).rb 4 (.int .i64 ((s.at'+1:Nat):Int)))))
     have SB2:=hide (SB1.out.go (Nf.of_kp (nv:=nv') (bv:=bv') ((Kp.refl [c.g] w1).rb 4 (.int .i64 ((s.at'+1:Nat):Int)))))
     have y0:=SB1.out.x.q0
     obtain rfl:=hso hC
     clear hso h1 k1 kk hfw hft
     by_cases hn:D=2∨D=3∨(6≤D∧D≤10)
     ·have e1:(D == 1)=false:=by simp;omega
      have e4:(D == 4)=false:=by simp;omega
      have e5:(D == 5)=false:=by simp;omega
      have e11:(D == 11)=false:=by simp;omega
      have e12:(D == 12)=false:=by simp;omega
      have e13:(D == 13)=false:=by simp;omega
      have e14:(D == 14)=false:=by simp;omega
      have hb:Kn.bnds s.ns (Sx.tS D at' A B T N E body els)=[]:=by
       show (if D=1 then _ else if D=4 then _ else if D=5 then _ else if D=11∨D=12 then _ else [])=_
       rw [if_neg (by omega),if_neg (by omega),if_neg (by omega),if_neg (by omega)]
      have HX:=hide (HMt.out.flat (nv2:=nv') (bv2:=bv') hC (o3 (by omega)).1 (o3 (by omega)).2 (by show D<11;omega) (by rw [hb,List.append_nil,List.append_nil];exact H2.out) N2.out)
      subst hnv
      go_wp2
      go_roundw
      case rel=>exact ⟨i+1,by omega,by go_num,hide (.inl ⟨_,_,_,HX.out⟩)⟩
      case measure=>simp [intOf];omega
     ·rcases (show D=1∨D=4∨D=5∨D=11∨D=12∨D=13∨D=14 by omega) with rfl|rfl|rfl|rfl|rfl|rfl|rfl
      ·as_aux_lemma=>
       clear o1 o2
       have y2:=SB1.out.x.q2
       have hb:Hid (Kn.bnds s.ns (Sx.tS 1 at' A B T N E body els)=[(A,[105])]):=hide rfl
       have oB:=hide (o3 (by decide))
       have HB:=hide (fun w' h=>nmBind_any c w' nv' bv' s.ns s.bd (s.at'+1) (0,0) A [105] h (by omega) (by omega))
       subst hnv
       go_wp2_with fail
       refine (HB.out _ H2.out).mono ?_
       rintro e w3 ⟨rfl,nv3,bv3,h3,n3⟩
       have HX:=hide (HMt.out.flat hC oB.out.1 oB.out.2 (by show (1:Int)<11;decide) (by rw [hb.out];exact h3) (N2.out.trans n3))
       clear h3 n3
       go_wp2
       go_roundw
       case rel=>exact ⟨i+1,by omega,by go_num,hide (.inl ⟨_,_,_,HX.out⟩)⟩
       case measure=>simp [intOf];omega
      ·as_aux_lemma=>
       clear o1 o2
       have y2:=SB1.out.x.q2
       have hb:Hid (Kn.bnds s.ns (Sx.tS 4 at' A B T N E body els)=[(A,115::T),(B,114::T)]):=hide rfl
       have oB:=hide (o3 (by decide))
       have zT:(bs T).size≤1000000:=by rw [bsz];exact o5
       have HB:=hide (fun w' h=>by have:=nmBind_any c w' nv' bv' s.ns s.bd (s.at'+1) (0,0) A (115::T) h (by omega) (by omega);rw [←bs_cns 115 T] at this;exact this)
       have HB2:=hide (fun nv3 bv3 w' h=>by have:=nmBind_any c w' nv3 bv3 (s.ns++[(A,115::T)]) (s.bd++[(A,115::T)]) (s.at'+1) (0,0) B (114::T) h (by simp only [List.length_append,List.length_cons,List.length_nil];have:=HMt.out.body.2.2.2.1;omega) (by simp only [List.length_append,List.length_cons,List.length_nil];have:=HMt.out.body.2.2.2.2;omega);rw [←bs_cns 114 T] at this;exact this)
       have y4:=SB1.out.x.q4
       subst hnv
       go_wp2_with fail
       refine (HB.out _ H2.out).mono ?_
       rintro e w3 ⟨rfl,nv3,bv3,h3,n3⟩
       have SB3:=hide (SB2.out.go n3)
       have z3:=SB3.out.x.q3
       have z4:=SB3.out.x.q4
       have H3:=hide h3
       have n3:=hide n3
       clear h3
       go_wp2_with fail
       refine (HB2.out _ _ _ H3.out).mono ?_
       rintro e w4 ⟨rfl,nv4,bv4,h4,n4⟩
       have HX:=hide (HMt.out.flat hC oB.out.1 oB.out.2 (by show (4:Int)<11;decide) (by rw [hb.out];simpa only [List.append_assoc,List.cons_append,List.nil_append] using h4) ((N2.out.trans n3.out).trans n4))
       clear h4 n4
       go_wp2
       go_roundw
       case rel=>exact ⟨i+1,by omega,by go_num,hide (.inl ⟨_,_,_,HX.out⟩)⟩
       case measure=>simp [intOf];omega
      ·as_aux_lemma=>
       clear o1 o2
       have y2:=SB1.out.x.q2
       have hb:Hid (Kn.bnds s.ns (Sx.tS 5 at' A B T N E body els)=[(A,Kn.typ s.ns B)]):=hide rfl
       have oB:=hide (o3 (by decide))
       have HB:=hide (fun w' h=>nmBind_any c w' nv' bv' s.ns s.bd (s.at'+1) (0,0) A (Kn.oft s.ns 5 A B) h (by omega) (by omega))
       have hof:Hid (Kn.oft s.ns 5 A B=Kn.typ s.ns B):=hide rfl
       generalize Kn.oft s.ns 5 A B=ty at *
       subst hnv
       go_wp2_with fail
       refine (HB.out _ H2.out).mono ?_
       rintro e w3 ⟨rfl,nv3,bv3,h3,n3⟩
       have HX:=hide (HMt.out.flat hC oB.out.1 oB.out.2 (by show (5:Int)<11;decide) (by rw [hb.out,←hof.out];exact h3) (N2.out.trans n3))
       clear h3 n3
       go_wp2
       go_roundw
       case rel=>exact ⟨i+1,by omega,by go_num,hide (.inl ⟨_,_,_,HX.out⟩)⟩
       case measure=>simp [intOf];omega
      ·as_aux_lemma=>
       clear o1 o2
       have y2:=SB1.out.x.q2
       have hm:Kn.mst s.ns B 114=0:=by
        have h:=hC
        unfold Kn.sc at h
        split at h
        ·cases h
        ·split at h
         ·rename_i h1;exact absurd h h1
         ·rename_i h1;exact Decidable.not_not.1 h1
       obtain ⟨y,r,hy⟩: ∃ y r,Kn.typ s.ns B=y::r:=by
        refine List.exists_cons_of_ne_nil (fun hn=> ?_)
        unfold Kn.mst at hm
        rw [if_pos hn] at hm
        exact absurd hm (by decide)
       have hb:Hid (Kn.bnds s.ns (Sx.tS 11 at' A B T N E body els)=[(A,r)]):=hide (by show [(A,(Kn.typ s.ns B).tail)]=_;rw [hy];rfl)
       have hof:Kn.oft s.ns 11 A B=y::r:=hy
       have HBK:=hide (nmBind_kp c _ nv' bv' s.ns s.bd (s.at'+1) (0,0) A r H2.out (by omega) (by omega))
       have y2':=SB2.out.x.q2
       rw [hof]
       have ez:((bs (y::r)).size:Int)=(r.length:Int)+1:=by rw [bsz];rfl
       have ex:(bs (y::r)).extract 1 (bs (y::r)).size=bs r:=by
        have:=bs_idK ((bs (y::r)).extract 1 (bs (y::r)).size)
        rw [←this]
        congr 1
        rw [←Lib.toList_data,bsx,bsz]
        simp
       have z1':(0:Int)≤1:=by decide
       have z2:(1:Int)≤(r.length:Int)+1:=by omega
       clear hof hm hy
       generalize bs (y::r)=sz at *
       have hBo:=hide (HMt.out.body)
       have hEo:=hide (fun x1 bd1 t1 f1 h1 hf=>HMt.out.els (x1:=x1) (bd1:=bd1) (t1:=t1) (f1:=f1) h1 hf)
       have SL3:=hide (fun w' nv3 bv3 (k:Nf c nv' bv' wr nv3 bv3 w')=>HBd.out.keep k.kp hdis2.out)
       have SLe:=hide (fun w' nv3 bv3 (k:Nf c nv' bv' wr nv3 bv3 w')=>HEl.out.keep k.kp hdis2.out)
       have SLg:=hide (fun w' nv3 bv3 (k:Nf c nv' bv' wr nv3 bv3 w')=>HGr.out.keep k.kp hdis2.out (fun d c h=>h.keep k.kp hdis2.out))
       have hlB:Hid (body.length≤1000000):=hide (Sts_len HBd.out hBo.out.2.1)
       have hlE:Hid (els.length≤1000000):=hide (HMt.out.elen HEl.out)
       subst hnv
       go_wp2_with fail
       go_region_held3 (fun w'=>w'.cell? ⟨wr.heap.size,2,none⟩=some (.string (bs A))) ((first|assumption|go_keep))
        ((go_at_call 26;refine (HBK.out _ (by exact ⟨rfl,rfl,rfl,Nat.le_refl _,fun _ _ _=>rfl⟩)).mono ?_;rintro e w3 ⟨rfl,nv3,bv3,h3,n3⟩;have H3:Hid (NS c w3 nv3 bv3 (s.ns++Kn.bnds s.ns (Sx.tS 11 at' A B T N E body els)) (s.bd++Kn.bnds s.ns (Sx.tS 11 at' A B T N E body els)) (s.at'+1) (0,0)):=hide (by rw [hb.out];exact h3);have NR3:=hide (NR2.out.trans n3);have N3:=hide (N2.out.trans n3);have SB3:=hide (SB2.out.go n3);have v7:=SB3.out.q7;have y3':=SB3.out.x.q2;clear h3 n3))
       all_goals
        go_wp2_with fail
        refine (blk_stt IH.out (SL3.out _ _ _ NR3.out) (SLg.out _ _ _ NR3.out) hi hll hps hPg O8.out hlB.out (.inl rfl) (fun _=>⟨hBo.out.1,hBo.out.2.1,hBo.out.2.2.1⟩) H3.out).mono ?_
        rintro e w4 ⟨rfl,nv4,bv4,x1,bd1,t1,f1,h4,n4,e4,z4⟩
        have NR4:=hide (NR3.out.trans n4)
        have N4:=hide (N3.out.trans n4)
        have SB4:=hide (SB3.out.go n4)
        have v8:=SB4.out.q8
        have E4:=hide e4
        have Z4:=hide z4
        have u2:=h4.c2
        have g2:=h4.fz 2
        have HL4:=hide h4.lt
        rcases NS.cutTo (ns:=s.ns) h4 (List.append_assoc ..) with ⟨rfl,hn0,h5,n5⟩|⟨g,m,cap,rfl,hm1,hm2,h5,n5⟩
        ·have H5:=hide h5
         have N5:=hide (N4.out.trans n5)
         have NR5:=hide (NR4.out.trans n5)
         clear h4 h5 n4 n5 e4 z4
         have q0:s.ns.length=0:=by rw [hn0];rfl
         have q1:((s.ns.length:Nat):Int)=0:=by rw [q0];rfl
         simp only [q1]
         go_wp2_with fail
         refine (blk_stt IH.out (SLe.out _ _ _ NR5.out) (SLg.out _ _ _ NR5.out) hi hll hps hPg O9.out hlE.out Z4.out (fun hf=>hEo.out _ _ _ _ E4.out hf) H5.out).mono ?_
         rintro e w6 ⟨rfl,nv6,bv6,x2,bd2,t2,f2,h6,n6,e6,z6⟩
         have u6:=h6.c2
         have g6:=h6.fz 2
         have HL6:=hide h6.lt
         have E6:=hide e6
         rcases NS.cutTo (ns:=s.ns) h6 rfl with ⟨rfl,hn0,h7,n7⟩|⟨g',m',cap',rfl,hm1',hm2',h7,n7⟩
         ·have HX:=hide (HMt.out.nest hC (by show (11:Int)≤11;decide) E4.out E6.out h7 ((N5.out.trans n6).trans n7))
          clear h6 h7 n6 n7 e6 z6
          go_wp2
          go_roundw
          case rel=>exact ⟨i+1,by omega,by go_num,hide (HX.out)⟩
          case measure=>simp [intOf];omega
         ·rw [q0] at h7 n7
          have HX:=hide (HMt.out.nest hC (by show (11:Int)≤11;decide) E4.out E6.out h7 ((N5.out.trans n6).trans n7))
          clear h6 h7 n6 n7 e6 z6
          have q3:(0:Int)≤(s.ns.length:Int):=by omega
          have q4:(s.ns.length:Int)≤(cap':Int):=by omega
          go_wp2
          go_roundw
          case rel=>exact ⟨i+1,by omega,by go_num,hide (HX.out)⟩
          case measure=>simp [intOf];omega
        ·have H5:=hide h5
         have N5:=hide (N4.out.trans n5)
         have NR5:=hide (NR4.out.trans n5)
         clear h4 h5 n4 n5 e4 z4
         have q1:(0:Int)≤(s.ns.length:Int):=by omega
         have q2:(s.ns.length:Int)≤(cap:Int):=by omega
         go_wp2_with fail
         refine (blk_stt IH.out (SLe.out _ _ _ NR5.out) (SLg.out _ _ _ NR5.out) hi hll hps hPg O9.out hlE.out Z4.out (fun hf=>hEo.out _ _ _ _ E4.out hf) H5.out).mono ?_
         rintro e w6 ⟨rfl,nv6,bv6,x2,bd2,t2,f2,h6,n6,e6,z6⟩
         have u6:=h6.c2
         have g6:=h6.fz 2
         have HL6:=hide h6.lt
         have E6:=hide e6
         rcases NS.cutTo (ns:=s.ns) h6 rfl with ⟨rfl,hn0,h7,n7⟩|⟨g',m',cap',rfl,hm1',hm2',h7,n7⟩
         ·have HX:=hide (HMt.out.nest hC (by show (11:Int)≤11;decide) E4.out E6.out h7 ((N5.out.trans n6).trans n7))
          clear h6 h7 n6 n7 e6 z6
          have q0:s.ns.length=0:=by rw [hn0];rfl
          have q1:((s.ns.length:Nat):Int)=0:=by rw [q0];rfl
          simp only [q1]
          go_wp2
          go_roundw
          case rel=>exact ⟨i+1,by omega,by go_num,hide (HX.out)⟩
          case measure=>simp [intOf];omega
         ·have HX:=hide (HMt.out.nest hC (by show (11:Int)≤11;decide) E4.out E6.out h7 ((N5.out.trans n6).trans n7))
          clear h6 h7 n6 n7 e6 z6
          have q3:(0:Int)≤(s.ns.length:Int):=by omega
          have q4:(s.ns.length:Int)≤(cap':Int):=by omega
          go_wp2
          go_roundw
          case rel=>exact ⟨i+1,by omega,by go_num,hide (HX.out)⟩
          case measure=>simp [intOf];omega
      ·as_aux_lemma=>
       clear o1 o2
       have y2:=SB1.out.x.q2
       have hm:Kn.mst s.ns B 114=0:=by
        have h:=hC
        unfold Kn.sc at h
        split at h
        ·cases h
        ·split at h
         ·rename_i h1;exact absurd h h1
         ·rename_i h1;exact Decidable.not_not.1 h1
       obtain ⟨y,r,hy⟩: ∃ y r,Kn.typ s.ns B=y::r:=by
        refine List.exists_cons_of_ne_nil (fun hn=> ?_)
        unfold Kn.mst at hm
        rw [if_pos hn] at hm
        exact absurd hm (by decide)
       have hb:Hid (Kn.bnds s.ns (Sx.tS 12 at' A B T N E body els)=[(A,r)]):=hide (by show [(A,(Kn.typ s.ns B).tail)]=_;rw [hy];rfl)
       have hof:Kn.oft s.ns 12 A B=y::r:=hy
       have HBK:=hide (nmBind_kp c _ nv' bv' s.ns s.bd (s.at'+1) (0,0) A r H2.out (by omega) (by omega))
       have y2':=SB2.out.x.q2
       rw [hof]
       have ez:((bs (y::r)).size:Int)=(r.length:Int)+1:=by rw [bsz];rfl
       have ex:(bs (y::r)).extract 1 (bs (y::r)).size=bs r:=by
        have:=bs_idK ((bs (y::r)).extract 1 (bs (y::r)).size)
        rw [←this]
        congr 1
        rw [←Lib.toList_data,bsx,bsz]
        simp
       have z1':(0:Int)≤1:=by decide
       have z2:(1:Int)≤(r.length:Int)+1:=by omega
       clear hof hm hy
       generalize bs (y::r)=sz at *
       have hBo:=hide (HMt.out.body)
       have hEo:=hide (fun x1 bd1 t1 f1 h1 hf=>HMt.out.els (x1:=x1) (bd1:=bd1) (t1:=t1) (f1:=f1) h1 hf)
       have SL3:=hide (fun w' nv3 bv3 (k:Nf c nv' bv' wr nv3 bv3 w')=>HBd.out.keep k.kp hdis2.out)
       have SLe:=hide (fun w' nv3 bv3 (k:Nf c nv' bv' wr nv3 bv3 w')=>HEl.out.keep k.kp hdis2.out)
       have SLg:=hide (fun w' nv3 bv3 (k:Nf c nv' bv' wr nv3 bv3 w')=>HGr.out.keep k.kp hdis2.out (fun d c h=>h.keep k.kp hdis2.out))
       have hlB:Hid (body.length≤1000000):=hide (Sts_len HBd.out hBo.out.2.1)
       have hlE:Hid (els.length≤1000000):=hide (HMt.out.elen HEl.out)
       subst hnv
       go_wp2_with fail
       go_region_held3 (fun w'=>w'.cell? ⟨wr.heap.size,2,none⟩=some (.string (bs A))) ((first|assumption|go_keep))
        ((go_at_call 26;refine (HBK.out _ (by exact ⟨rfl,rfl,rfl,Nat.le_refl _,fun _ _ _=>rfl⟩)).mono ?_;rintro e w3 ⟨rfl,nv3,bv3,h3,n3⟩;have H3:Hid (NS c w3 nv3 bv3 (s.ns++Kn.bnds s.ns (Sx.tS 12 at' A B T N E body els)) (s.bd++Kn.bnds s.ns (Sx.tS 12 at' A B T N E body els)) (s.at'+1) (0,0)):=hide (by rw [hb.out];exact h3);have NR3:=hide (NR2.out.trans n3);have N3:=hide (N2.out.trans n3);have SB3:=hide (SB2.out.go n3);have v7:=SB3.out.q7;have y3':=SB3.out.x.q2;clear h3 n3))
       all_goals
        go_wp2_with fail
        refine (blk_stt IH.out (SL3.out _ _ _ NR3.out) (SLg.out _ _ _ NR3.out) hi hll hps hPg O8.out hlB.out (.inl rfl) (fun _=>⟨hBo.out.1,hBo.out.2.1,hBo.out.2.2.1⟩) H3.out).mono ?_
        rintro e w4 ⟨rfl,nv4,bv4,x1,bd1,t1,f1,h4,n4,e4,z4⟩
        have NR4:=hide (NR3.out.trans n4)
        have N4:=hide (N3.out.trans n4)
        have SB4:=hide (SB3.out.go n4)
        have v8:=SB4.out.q8
        have E4:=hide e4
        have Z4:=hide z4
        have u2:=h4.c2
        have g2:=h4.fz 2
        have HL4:=hide h4.lt
        rcases NS.cutTo (ns:=s.ns) h4 (List.append_assoc ..) with ⟨rfl,hn0,h5,n5⟩|⟨g,m,cap,rfl,hm1,hm2,h5,n5⟩
        ·have H5:=hide h5
         have N5:=hide (N4.out.trans n5)
         have NR5:=hide (NR4.out.trans n5)
         clear h4 h5 n4 n5 e4 z4
         have q0:s.ns.length=0:=by rw [hn0];rfl
         have q1:((s.ns.length:Nat):Int)=0:=by rw [q0];rfl
         simp only [q1]
         go_wp2_with fail
         refine (blk_stt IH.out (SLe.out _ _ _ NR5.out) (SLg.out _ _ _ NR5.out) hi hll hps hPg O9.out hlE.out Z4.out (fun hf=>hEo.out _ _ _ _ E4.out hf) H5.out).mono ?_
         rintro e w6 ⟨rfl,nv6,bv6,x2,bd2,t2,f2,h6,n6,e6,z6⟩
         have u6:=h6.c2
         have g6:=h6.fz 2
         have HL6:=hide h6.lt
         have E6:=hide e6
         rcases NS.cutTo (ns:=s.ns) h6 rfl with ⟨rfl,hn0,h7,n7⟩|⟨g',m',cap',rfl,hm1',hm2',h7,n7⟩
         ·have HX:=hide (HMt.out.nest hC (by show (11:Int)≤12;decide) E4.out E6.out h7 ((N5.out.trans n6).trans n7))
          clear h6 h7 n6 n7 e6 z6
          go_wp2
          go_roundw
          case rel=>exact ⟨i+1,by omega,by go_num,hide (HX.out)⟩
          case measure=>simp [intOf];omega
         ·rw [q0] at h7 n7
          have HX:=hide (HMt.out.nest hC (by show (11:Int)≤12;decide) E4.out E6.out h7 ((N5.out.trans n6).trans n7))
          clear h6 h7 n6 n7 e6 z6
          have q3:(0:Int)≤(s.ns.length:Int):=by omega
          have q4:(s.ns.length:Int)≤(cap':Int):=by omega
          go_wp2
          go_roundw
          case rel=>exact ⟨i+1,by omega,by go_num,hide (HX.out)⟩
          case measure=>simp [intOf];omega
        ·have H5:=hide h5
         have N5:=hide (N4.out.trans n5)
         have NR5:=hide (NR4.out.trans n5)
         clear h4 h5 n4 n5 e4 z4
         have q1:(0:Int)≤(s.ns.length:Int):=by omega
         have q2:(s.ns.length:Int)≤(cap:Int):=by omega
         go_wp2_with fail
         refine (blk_stt IH.out (SLe.out _ _ _ NR5.out) (SLg.out _ _ _ NR5.out) hi hll hps hPg O9.out hlE.out Z4.out (fun hf=>hEo.out _ _ _ _ E4.out hf) H5.out).mono ?_
         rintro e w6 ⟨rfl,nv6,bv6,x2,bd2,t2,f2,h6,n6,e6,z6⟩
         have u6:=h6.c2
         have g6:=h6.fz 2
         have HL6:=hide h6.lt
         have E6:=hide e6
         rcases NS.cutTo (ns:=s.ns) h6 rfl with ⟨rfl,hn0,h7,n7⟩|⟨g',m',cap',rfl,hm1',hm2',h7,n7⟩
         ·have HX:=hide (HMt.out.nest hC (by show (11:Int)≤12;decide) E4.out E6.out h7 ((N5.out.trans n6).trans n7))
          clear h6 h7 n6 n7 e6 z6
          have q0:s.ns.length=0:=by rw [hn0];rfl
          have q1:((s.ns.length:Nat):Int)=0:=by rw [q0];rfl
          simp only [q1]
          go_wp2
          go_roundw
          case rel=>exact ⟨i+1,by omega,by go_num,hide (HX.out)⟩
          case measure=>simp [intOf];omega
         ·have HX:=hide (HMt.out.nest hC (by show (11:Int)≤12;decide) E4.out E6.out h7 ((N5.out.trans n6).trans n7))
          clear h6 h7 n6 n7 e6 z6
          have q3:(0:Int)≤(s.ns.length:Int):=by omega
          have q4:(s.ns.length:Int)≤(cap':Int):=by omega
          go_wp2
          go_roundw
          case rel=>exact ⟨i+1,by omega,by go_num,hide (HX.out)⟩
          case measure=>simp [intOf];omega
      ·as_aux_lemma=>
       clear o1 o2
       have y2:=SB1.out.x.q2
       have hb:Hid (Kn.bnds s.ns (Sx.tS 13 at' A B T N E body els)=[]):=hide rfl
       have hBo:=hide (HMt.out.body)
       have hEo:=hide (fun x1 bd1 t1 f1 h1 hf=>HMt.out.els (x1:=x1) (bd1:=bd1) (t1:=t1) (f1:=f1) h1 hf)
       have SL3:=hide (fun w' nv3 bv3 (k:Nf c nv' bv' wr nv3 bv3 w')=>HBd.out.keep k.kp hdis2.out)
       have SLe:=hide (fun w' nv3 bv3 (k:Nf c nv' bv' wr nv3 bv3 w')=>HEl.out.keep k.kp hdis2.out)
       have SLg:=hide (fun w' nv3 bv3 (k:Nf c nv' bv' wr nv3 bv3 w')=>HGr.out.keep k.kp hdis2.out (fun d c h=>h.keep k.kp hdis2.out))
       have hlB:Hid (body.length≤1000000):=hide (Sts_len HBd.out hBo.out.2.1)
       have hlE:Hid (els.length≤1000000):=hide (HMt.out.elen HEl.out)
       have H3:Hid (NS c (w1.setCell ⟨c.g,4,none⟩ (.int .i64 ((s.at'+1:Nat):Int))) nv' bv' (s.ns++Kn.bnds s.ns (Sx.tS 13 at' A B T N E body els)) (s.bd++Kn.bnds s.ns (Sx.tS 13 at' A B T N E body els)) (s.at'+1) (0,0)):=hide (by rw [hb.out,List.append_nil,List.append_nil];exact H2.out)
       have NR3:=NR2
       have N3:=N2
       have SB3:=SB2
       have v7:=SB1.out.q7
       subst hnv
       go_wp2_with fail
       refine (blk_stt IH.out (SL3.out _ _ _ NR3.out) (SLg.out _ _ _ NR3.out) hi hll hps hPg O8.out hlB.out (.inl rfl) (fun _=>⟨hBo.out.1,hBo.out.2.1,hBo.out.2.2.1⟩) H3.out).mono ?_
       rintro e w4 ⟨rfl,nv4,bv4,x1,bd1,t1,f1,h4,n4,e4,z4⟩
       have NR4:=hide (NR3.out.trans n4)
       have N4:=hide (N3.out.trans n4)
       have SB4:=hide (SB3.out.go n4)
       have v8:=SB4.out.q8
       have E4:=hide e4
       have Z4:=hide z4
       have u2:=h4.c2
       have g2:=h4.fz 2
       have HL4:=hide h4.lt
       rcases NS.cutTo (ns:=s.ns) h4 (List.append_assoc ..) with ⟨rfl,hn0,h5,n5⟩|⟨g,m,cap,rfl,hm1,hm2,h5,n5⟩
       ·have H5:=hide h5
        have N5:=hide (N4.out.trans n5)
        have NR5:=hide (NR4.out.trans n5)
        clear h4 h5 n4 n5 e4 z4
        have q0:s.ns.length=0:=by rw [hn0];rfl
        have q1:((s.ns.length:Nat):Int)=0:=by rw [q0];rfl
        simp only [q1]
        go_wp2_with fail
        refine (blk_stt IH.out (SLe.out _ _ _ NR5.out) (SLg.out _ _ _ NR5.out) hi hll hps hPg O9.out hlE.out Z4.out (fun hf=>hEo.out _ _ _ _ E4.out hf) H5.out).mono ?_
        rintro e w6 ⟨rfl,nv6,bv6,x2,bd2,t2,f2,h6,n6,e6,z6⟩
        have u6:=h6.c2
        have g6:=h6.fz 2
        have HL6:=hide h6.lt
        have E6:=hide e6
        rcases NS.cutTo (ns:=s.ns) h6 rfl with ⟨rfl,hn0,h7,n7⟩|⟨g',m',cap',rfl,hm1',hm2',h7,n7⟩
        ·have HX:=hide (HMt.out.nest hC (by show (11:Int)≤13;decide) E4.out E6.out h7 ((N5.out.trans n6).trans n7))
         clear h6 h7 n6 n7 e6 z6
         go_wp2
         go_roundw
         case rel=>exact ⟨i+1,by omega,by go_num,hide (HX.out)⟩
         case measure=>simp [intOf];omega
        ·rw [q0] at h7 n7
         have HX:=hide (HMt.out.nest hC (by show (11:Int)≤13;decide) E4.out E6.out h7 ((N5.out.trans n6).trans n7))
         clear h6 h7 n6 n7 e6 z6
         have q3:(0:Int)≤(s.ns.length:Int):=by omega
         have q4:(s.ns.length:Int)≤(cap':Int):=by omega
         go_wp2
         go_roundw
         case rel=>exact ⟨i+1,by omega,by go_num,hide (HX.out)⟩
         case measure=>simp [intOf];omega
       ·have H5:=hide h5
        have N5:=hide (N4.out.trans n5)
        have NR5:=hide (NR4.out.trans n5)
        clear h4 h5 n4 n5 e4 z4
        have q1:(0:Int)≤(s.ns.length:Int):=by omega
        have q2:(s.ns.length:Int)≤(cap:Int):=by omega
        go_wp2_with fail
        refine (blk_stt IH.out (SLe.out _ _ _ NR5.out) (SLg.out _ _ _ NR5.out) hi hll hps hPg O9.out hlE.out Z4.out (fun hf=>hEo.out _ _ _ _ E4.out hf) H5.out).mono ?_
        rintro e w6 ⟨rfl,nv6,bv6,x2,bd2,t2,f2,h6,n6,e6,z6⟩
        have u6:=h6.c2
        have g6:=h6.fz 2
        have HL6:=hide h6.lt
        have E6:=hide e6
        rcases NS.cutTo (ns:=s.ns) h6 rfl with ⟨rfl,hn0,h7,n7⟩|⟨g',m',cap',rfl,hm1',hm2',h7,n7⟩
        ·have HX:=hide (HMt.out.nest hC (by show (11:Int)≤13;decide) E4.out E6.out h7 ((N5.out.trans n6).trans n7))
         clear h6 h7 n6 n7 e6 z6
         have q0:s.ns.length=0:=by rw [hn0];rfl
         have q1:((s.ns.length:Nat):Int)=0:=by rw [q0];rfl
         simp only [q1]
         go_wp2
         go_roundw
         case rel=>exact ⟨i+1,by omega,by go_num,hide (HX.out)⟩
         case measure=>simp [intOf];omega
        ·have HX:=hide (HMt.out.nest hC (by show (11:Int)≤13;decide) E4.out E6.out h7 ((N5.out.trans n6).trans n7))
         clear h6 h7 n6 n7 e6 z6
         have q3:(0:Int)≤(s.ns.length:Int):=by omega
         have q4:(s.ns.length:Int)≤(cap':Int):=by omega
         go_wp2
         go_roundw
         case rel=>exact ⟨i+1,by omega,by go_num,hide (HX.out)⟩
         case measure=>simp [intOf];omega
      ·as_aux_lemma=>
       clear o1 o2
       have y2:=SB1.out.x.q2
       have hb:Hid (Kn.bnds s.ns (Sx.tS 14 at' A B T N E body els)=[]):=hide rfl
       have hBo:=hide (HMt.out.body)
       have hEo:=hide (fun x1 bd1 t1 f1 h1 hf=>HMt.out.els (x1:=x1) (bd1:=bd1) (t1:=t1) (f1:=f1) h1 hf)
       have SL3:=hide (fun w' nv3 bv3 (k:Nf c nv' bv' wr nv3 bv3 w')=>HBd.out.keep k.kp hdis2.out)
       have SLe:=hide (fun w' nv3 bv3 (k:Nf c nv' bv' wr nv3 bv3 w')=>HEl.out.keep k.kp hdis2.out)
       have SLg:=hide (fun w' nv3 bv3 (k:Nf c nv' bv' wr nv3 bv3 w')=>HGr.out.keep k.kp hdis2.out (fun d c h=>h.keep k.kp hdis2.out))
       have hlB:Hid (body.length≤1000000):=hide (Sts_len HBd.out hBo.out.2.1)
       have hlE:Hid (els.length≤1000000):=hide (HMt.out.elen HEl.out)
       have H3:Hid (NS c (w1.setCell ⟨c.g,4,none⟩ (.int .i64 ((s.at'+1:Nat):Int))) nv' bv' (s.ns++Kn.bnds s.ns (Sx.tS 14 at' A B T N E body els)) (s.bd++Kn.bnds s.ns (Sx.tS 14 at' A B T N E body els)) (s.at'+1) (0,0)):=hide (by rw [hb.out,List.append_nil,List.append_nil];exact H2.out)
       have NR3:=NR2
       have N3:=N2
       have SB3:=SB2
       have v7:=SB1.out.q7
       subst hnv
       go_wp2_with fail
       refine (blk_stt IH.out (SL3.out _ _ _ NR3.out) (SLg.out _ _ _ NR3.out) hi hll hps hPg O8.out hlB.out (.inl rfl) (fun _=>⟨hBo.out.1,hBo.out.2.1,hBo.out.2.2.1⟩) H3.out).mono ?_
       rintro e w4 ⟨rfl,nv4,bv4,x1,bd1,t1,f1,h4,n4,e4,z4⟩
       have NR4:=hide (NR3.out.trans n4)
       have N4:=hide (N3.out.trans n4)
       have SB4:=hide (SB3.out.go n4)
       have v8:=SB4.out.q8
       have E4:=hide e4
       have Z4:=hide z4
       have u2:=h4.c2
       have g2:=h4.fz 2
       have HL4:=hide h4.lt
       rcases NS.cutTo (ns:=s.ns) h4 (List.append_assoc ..) with ⟨rfl,hn0,h5,n5⟩|⟨g,m,cap,rfl,hm1,hm2,h5,n5⟩
       ·have H5:=hide h5
        have N5:=hide (N4.out.trans n5)
        have NR5:=hide (NR4.out.trans n5)
        clear h4 h5 n4 n5 e4 z4
        have q0:s.ns.length=0:=by rw [hn0];rfl
        have q1:((s.ns.length:Nat):Int)=0:=by rw [q0];rfl
        simp only [q1]
        go_wp2_with fail
        refine (blk_stt IH.out (SLe.out _ _ _ NR5.out) (SLg.out _ _ _ NR5.out) hi hll hps hPg O9.out hlE.out Z4.out (fun hf=>hEo.out _ _ _ _ E4.out hf) H5.out).mono ?_
        rintro e w6 ⟨rfl,nv6,bv6,x2,bd2,t2,f2,h6,n6,e6,z6⟩
        have u6:=h6.c2
        have g6:=h6.fz 2
        have HL6:=hide h6.lt
        have E6:=hide e6
        rcases NS.cutTo (ns:=s.ns) h6 rfl with ⟨rfl,hn0,h7,n7⟩|⟨g',m',cap',rfl,hm1',hm2',h7,n7⟩
        ·have HX:=hide (HMt.out.nest hC (by show (11:Int)≤14;decide) E4.out E6.out h7 ((N5.out.trans n6).trans n7))
         clear h6 h7 n6 n7 e6 z6
         go_wp2
         go_roundw
         case rel=>exact ⟨i+1,by omega,by go_num,hide (HX.out)⟩
         case measure=>simp [intOf];omega
        ·rw [q0] at h7 n7
         have HX:=hide (HMt.out.nest hC (by show (11:Int)≤14;decide) E4.out E6.out h7 ((N5.out.trans n6).trans n7))
         clear h6 h7 n6 n7 e6 z6
         have q3:(0:Int)≤(s.ns.length:Int):=by omega
         have q4:(s.ns.length:Int)≤(cap':Int):=by omega
         go_wp2
         go_roundw
         case rel=>exact ⟨i+1,by omega,by go_num,hide (HX.out)⟩
         case measure=>simp [intOf];omega
       ·have H5:=hide h5
        have N5:=hide (N4.out.trans n5)
        have NR5:=hide (NR4.out.trans n5)
        clear h4 h5 n4 n5 e4 z4
        have q1:(0:Int)≤(s.ns.length:Int):=by omega
        have q2:(s.ns.length:Int)≤(cap:Int):=by omega
        go_wp2_with fail
        refine (blk_stt IH.out (SLe.out _ _ _ NR5.out) (SLg.out _ _ _ NR5.out) hi hll hps hPg O9.out hlE.out Z4.out (fun hf=>hEo.out _ _ _ _ E4.out hf) H5.out).mono ?_
        rintro e w6 ⟨rfl,nv6,bv6,x2,bd2,t2,f2,h6,n6,e6,z6⟩
        have u6:=h6.c2
        have g6:=h6.fz 2
        have HL6:=hide h6.lt
        have E6:=hide e6
        rcases NS.cutTo (ns:=s.ns) h6 rfl with ⟨rfl,hn0,h7,n7⟩|⟨g',m',cap',rfl,hm1',hm2',h7,n7⟩
        ·have HX:=hide (HMt.out.nest hC (by show (11:Int)≤14;decide) E4.out E6.out h7 ((N5.out.trans n6).trans n7))
         clear h6 h7 n6 n7 e6 z6
         have q0:s.ns.length=0:=by rw [hn0];rfl
         have q1:((s.ns.length:Nat):Int)=0:=by rw [q0];rfl
         simp only [q1]
         go_wp2
         go_roundw
         case rel=>exact ⟨i+1,by omega,by go_num,hide (HX.out)⟩
         case measure=>simp [intOf];omega
        ·have HX:=hide (HMt.out.nest hC (by show (11:Int)≤14;decide) E4.out E6.out h7 ((N5.out.trans n6).trans n7))
         clear h6 h7 n6 n7 e6 z6
         have q3:(0:Int)≤(s.ns.length:Int):=by omega
         have q4:(s.ns.length:Int)≤(cap':Int):=by omega
         go_wp2
         go_roundw
         case rel=>exact ⟨i+1,by omega,by go_num,hide (HX.out)⟩
         case measure=>simp [intOf];omega
    ·rw [Kn.flt_one rfl hC] at h1
     have hR:R= .inr (Kn.sc n (c.l.take c.i) s.ns s.bd (Sx.tS D at' A B T N E body els),(s.at':Int)):=by rw [hRq.out,Kn.one_bad _ _ _ _ _ hC];rfl
     generalize Kn.sc n (c.l.take c.i) s.ns s.bd (Sx.tS D at' A B T N E body els)=C at *
     have x5:=h1.c5
     have H1:=hide h1
     have qe:(C == 0)=false:=by simpa using hC
     obtain ⟨y,hy⟩:=HM.out.pre
     clear h1 k1 kk hso
     go_wp2
     refine bodyPost_ret (v:= .tuple #[]) (by simp [results,Tryz.results27,go_sem]) rfl ?_
     refine ⟨rfl,?_⟩
     rw [hR]
     exact ⟨hC,_,_,y,_,_,by rw [←hy];exact H1.out,N1.out⟩
   ·obtain rfl:i=l.length:=by omega
    have d1:decide ((l.length:Int)<(l.length:Int))=false:=by simp
    go_wp2
    go_end0
    refine ⟨rfl,?_⟩
    have h:=HM.out
    have e:=h.eq
    rw [List.drop_length] at e
    rw [e]
    exact ⟨_,_,h.st,h.nf⟩
  ·clear HD
   have c5:=hN.c5
   have qe:(e.1 == 0)=false:=by simpa using he
   have HN:=hide hN
   have HF:=hide hF
   clear hN hF
   by_cases hlt:i<l.length
   ·have d1:decide ((i:Int)<(l.length:Int))=true:=by simp;omega
    go_wp2
    go_end0
    exact ⟨rfl,he,_,_,_,_,_,HN.out,HF.out⟩
   ·have d1:decide ((i:Int)<(l.length:Int))=false:=by simp;omega
    go_wp2
    go_end0
    exact ⟨rfl,he,_,_,_,_,_,HN.out,HF.out⟩
theorem sts_any (c:Ng): ∀ n,StsT c n
 |0=>fun w P l a cap nv bv ns bd t q hS=>by cases hS
 |n+1=>sts_step c n (sts_any c n)
end Go.Proofs.YthcapfojofahkaaGreatDoor
