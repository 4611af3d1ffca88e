import Derived.Test.YtbhhkaobkdeolaaGreatDoorMch
namespace Go.Proofs.YtbhhkaobkdeolaaGreatDoor
open Go.RowKit
set_option maxRecDepth 100000 in
set_option maxHeartbeats 8000000 in
theorem rIns_spawn (l:List Cd.Pr) (m:Int) (ua:Option Addr) (uc k:Nat) (p:Cd.Pr) (x:Cd.In) (ae:Option Addr) (ce:Nat) (aa:Option Addr) (ca:Nat) (w:World) (hu:CoR w (.slice ua l.length uc) l) (hk:l[k]? =some p) (h1:ER w (.slice ae x.e.length ce) x.e) (h2:AgR w (.slice aa x.args.length ca) x.args) (hA:AbOK (l.take k)) (hI:InOK x) (hT:TyOK p) (hty:Ck.types p.vars=true) (h10:x.op=10):
  Calls Tryz.prog 26 #[.agg #[.slice ua l.length uc,.int .i64 m],.int .i64 (k:Int),.agg (icl x ae ce aa ca)] w fun e w'=>e= .returned (.bool (Ck.fits (l.take k) p x))∧Below w.heap.size w w':=by
 have hkl:=(List.getElem?_eq_some_iff.1 hk).1
 obtain ⟨ua',uc',e1,hr⟩:=hu
 obtain ⟨rfl,rfl⟩:ua=ua'∧uc=uc':=by simpa using e1
 obtain ⟨g,o,rfl,hc⟩:=hr (List.ne_nil_of_mem (List.mem_of_getElem? hk))
 obtain ⟨q,hq,h⟩:=hc k p hk
 have HC:=hide hc
 have HRX:=hide (RX.new w l m g o uc q p x ae ce aa ca h1 h2)
 have HB:=hide (b_three w (.cells #[.slice (some ⟨g,o,none⟩) l.length uc,.int .i64 m] 24) (.cells (icl x ae ce aa ca) 47) (.cells (q.cells p) 43))
 have y0:=bsome (b_two w (.cells #[.slice (some ⟨g,o,none⟩) l.length uc,.int .i64 m] 24) (.cells (icl x ae ce aa ca) 47)) (hq 0 _ rfl)
 have y1:=bsome (b_two w (.cells #[.slice (some ⟨g,o,none⟩) l.length uc,.int .i64 m] 24) (.cells (icl x ae ce aa ca) 47)) (hq 1 _ rfl)
 have y2:=bsome (b_two w (.cells #[.slice (some ⟨g,o,none⟩) l.length uc,.int .i64 m] 24) (.cells (icl x ae ce aa ca) 47)) (hq 2 _ rfl)
 have y3:=bsome (b_two w (.cells #[.slice (some ⟨g,o,none⟩) l.length uc,.int .i64 m] 24) (.cells (icl x ae ce aa ca) 47)) (hq 3 _ rfl)
 have y4:=bsome (b_two w (.cells #[.slice (some ⟨g,o,none⟩) l.length uc,.int .i64 m] 24) (.cells (icl x ae ce aa ca) 47)) (hq 4 _ rfl)
 rw [Nat.add_zero] at y0
 have CTy:Hid (∀ (v:Int) (w':World),Below w.heap.size w w'→Calls Tryz.prog 50 #[.agg (q.cells p),.int .i64 v] w' fun e w''=>e= .returned (.string (Cd.typ p v))∧Below w'.heap.size w' w''):=hide (fun v w' hb=>typ_any q p v w' (h.keep hb))
 have CS:Hid (∀ (v:Value) (L:List (Int × Int)) (w':World),Below w.heap.size w w'→ER w' v L→L.length≤1000000→Calls Tryz.prog 51 #[.agg (q.cells p),v] w' fun e w''=>e= .returned (.bool (Ck.num p 0 L))∧Below w'.heap.size w' w''):=hide (fun v L w' hb hE hn=>rStack_any q p v L w' (h.keep hb) hE hn)
 have CN:Hid (∀ (w':World),Below w.heap.size w w'→Calls Tryz.prog 51 #[.agg (q.cells p),.slice ae x.e.length ce] w' fun e w''=>e= .returned (.bool (Ck.num p 0 x.e))∧Below w'.heap.size w' w''):=hide (fun w' hb=>CS.out _ x.e w' hb (h1.keep hb) hI.2.1)
 have CI:=hide (fun w'=>rIsTy_any x.t 2 w' hI.1)
 have za:(Cd.typ p x.a).size≤100:=hT.typ _
 have zb:(Cd.typ p x.b).size≤100:=hT.typ _
 have zt:x.t.size≤1000:=by have:=hI.1;omega
 have HTa:=hide (Ck.types_typ hty x.a)
 have HTb:=hide (Ck.types_typ hty x.b)
 have HE:Hid (Ck.fits (l.take k) p x=_):=hide (by unfold Ck.fits;rfl)
 have HCE:=hide (fun (n:Int)=>Ck.chan_eq (p:=p) (xa:=x.a) (xb:=x.b) (xn:=n) (xt:=x.t) HTa.out)
 have HSP:Hid (Ck.spawn (l.take k) p x=_):=hide (by unfold Ck.spawn;rfl)
 generalize Ck.fits (l.take k) p x=R at *
 generalize Ck.spawn (l.take k) p x=SP at *
 have HGO:Hid (Ck.isI p x.to=(decide (0≤x.to) && decide (x.to<(p.ins.length:Int)))):=hide rfl
 generalize Ck.isI p x.to=GO at *
 generalize Ck.num p 0 x.e=NU at *
 have CA:=hide (CTy.out x.a)
 have CB:=hide (CTy.out x.b)
 have CBA:=hide (fun b w'=>rBegins_any (Cd.typ p x.a) b w')
 have CBB:=hide (fun b w'=>rBegins_any (Cd.typ p x.b) b w')
 generalize Cd.typ p x.a=A at *
 generalize Cd.typ p x.b=B at *
 generalize Rn.isT x.t.data.toList 2=IT at *
 have hxI:=hI
 clear e1 hr hc hq hT hty h1 h2 hI h
 obtain ⟨op,xa,xb,xn,xto,xt,xe,xg,xbk,xlp,xat⟩:=x
 dsimp only at *
 unfold PV.cells icl at *
 have H10:=hide h10
 clear h10
 go_enter Tryz.func26,Tryz.ntmps26
 go_wp2
 generalize (((w.alloc (.cells #[.slice (some ⟨g,o,none⟩) l.length uc,.int .i64 m] 24)).alloc (.cells #[.int .i64 op,.int .i64 xa,.int .i64 xb,.int .i64 xn,.int .i64 xto,.string xt,.slice ae xe.length ce,.slice aa xg.length ca,.int .i64 xbk,.int .i64 xlp,.int .i64 xat] 47)).alloc (.cells #[.string p.name,.slice q.av p.vars.length q.cv,.int .i64 p.params,.slice q.ab p.blocks.length q.cb,.slice q.ai p.ins.length q.ci] 43))=w1 at *
 go_cut [8,9] from 13 (fun v8 v9 wx=>v8= .string A∧v9= .string B∧Hid (Below w1.heap.size w1 wx))
 case first=>
  have kc1:Hid (Below w.heap.size w w1.drew):=hide (below_drewN HB.out 1)
  have kd1:Hid (Below w1.heap.size w1 w1.drew):=hide (below_drewN (Below.refl _ _) 1)
  obtain ⟨k0,k1,⟨i0,i1,i2,i3,i4,i5,i6,i7,i8,i9,i10,-,-⟩,t0,t1,t2,t3,t4⟩:=HRX.out
  as_aux_lemma=>
   go_region_held_law (fun w'=>w'.cell? ⟨w.heap.size+1+1,0,none⟩=some (.string p.name)∧w'.cell? ⟨w.heap.size+1+1,1,none⟩=some (.slice q.av p.vars.length q.cv)∧w'.cell? ⟨w.heap.size+1+1,2,none⟩=some (.int .i64 p.params)∧w'.cell? ⟨w.heap.size+1+1,3,none⟩=some (.slice q.ab p.blocks.length q.cb)∧w'.cell? ⟨w.heap.size+1+1,4,none⟩=some (.slice q.ai p.ins.length q.ci)∧w'.cell? ⟨w.heap.size+1,1,none⟩=some (.int .i64 xa)∧w'.cell? ⟨w.heap.size+1,2,none⟩=some (.int .i64 xb)) (first|exact ⟨by assumption,by assumption,by assumption,by assumption,by assumption,by assumption,by assumption⟩|go_keep) ((go_at_call 50;first|((with_reducible refine (CA.out _ (by first|exact kc2.out|exact kc1.out)).mono ?_);rintro e w3 ⟨rfl,hb3⟩;have kc2:=hide (btrans (by first|exact kc2.out|exact kc1.out) hb3);have kd2:=hide (btrans (by first|exact kd2.out|exact kd1.out) hb3);have r0:=bsome kd2.out t0;have r1:=bsome kd2.out t1;have r2:=bsome kd2.out t2;have r3:=bsome kd2.out t3;have r4:=bsome kd2.out t4;have j1:=bsome kd2.out i1;have j2:=bsome kd2.out i2;clear hb3)|((with_reducible refine (CB.out _ (by first|exact kc2.out|exact kc1.out)).mono ?_);rintro e w3 ⟨rfl,hb3⟩;have kc2:=hide (btrans (by first|exact kc2.out|exact kc1.out) hb3);have kd2:=hide (btrans (by first|exact kd2.out|exact kd1.out) hb3);have r0:=bsome kd2.out t0;have r1:=bsome kd2.out t1;have r2:=bsome kd2.out t2;have r3:=bsome kd2.out t3;have r4:=bsome kd2.out t4;have j1:=bsome kd2.out i1;have j2:=bsome kd2.out i2;clear hb3)))
   all_goals
    go_wp2
    go_meet
    case rel=>exact ⟨rfl,rfl,hide kd2.out⟩
 case rest=>
  obtain ⟨rfl,rfl,HB2⟩:=hcut
  have HX2:=hide (HRX.out.keep HB2.out)
  have HB3:=hide (btrans HB.out HB2.out)
  clear HB2 HRX HB y0 y1 y2 y3 y4
  obtain ⟨k0,k1,⟨i0,i1,i2,i3,i4,i5,i6,i7,i8,i9,i10,hae,hag⟩,t0,t1,t2,t3,t4⟩:=HX2.out
  have HAG:=hide hag
  clear hae hag
  dsimp only at *
  go_upto_region 3 with fail
  go_cut [10] from 13 (fun v10 wx=>v10= .bool GO∧wx=wc)
  case first=>
   cases dd:decide (0≤xto) with
   |true=>
    rw [dd] at HGO
    have HG2:Hid (decide (xto<(p.ins.length:Int))=GO):=hide HGO.out.symm
    go_wp2
    go_meet
    case rel=>exact ⟨by rw [←HG2.out],rfl⟩
   |false=>
    rw [dd] at HGO
    have HG2:Hid (GO=false):=hide HGO.out
    go_wp2
    go_meet
    case rel=>exact ⟨by rw [HG2.out],rfl⟩
  case rest=>
   obtain ⟨rfl,rfl⟩:=hcut
   have h10:=H10.out
   subst h10
   have HE2:Hid (R=SP):=hide HE.out
   clear HE
   have HE3:Hid (R=SP):=HE2
   clear HE2
   by_cases g0:0≤xa
   ·have d0:decide (xa<0)=false:=by simp;omega
    by_cases g1:xa<(k:Int)
    ·obtain ⟨i,rfl⟩: ∃ i:Nat,xa=(i:Int):=⟨xa.toNat,by omega⟩
     have d0n:decide ((i:Int)<0)=false:=by simp
     have d1:decide ((k:Int)≤(i:Int))=false:=by simp;omega
     have d1n:decide (k≤i)=false:=by simp;omega
     have hil:i<l.length:=by omega
     obtain ⟨st,hst⟩: ∃ st,l[i]? =some st:=⟨_,List.getElem?_eq_getElem hil⟩
     have hst2:(l.take k)[i]? =some st:=by rw [List.getElem?_take,if_pos (by omega)];exact hst
     obtain ⟨qs,hqs,hpst⟩:=HC.out i st hst
     have z1:=bsome HB3.out (hqs 1 _ rfl)
     have z2:=bsome HB3.out (hqs 2 _ rfl)
     have HE4:Hid (R=(decide ((xg.length:Int)=st.params) && Ck.args p xg st.vars)):=hide (by
      rw [HE3.out,HSP.out,decide_eq_true g0,Int.toNat_natCast,hst2]
      rfl)
     have hpa:st.params≤(st.vars.length:Int):=hA st (List.mem_of_getElem? hst2)
     by_cases g2:(xg.length:Int)=st.params
     ·have d2:((xg.length:Int) !=st.params)=false:=by rw [g2];simp
      have HE5:Hid (R=Ck.args p xg st.vars):=hide (by rw [HE4.out,decide_eq_true g2];rfl)
      have hlv:xg.length≤st.vars.length:=by omega
      have HGL:Hid (∀ y ∈ xg,y.1.length≤1000000):=hide hxI.2.2.2
      have hxl:xg.length≤1000000:=hxI.2.2.1
      obtain ⟨sa,sc,sb,sd,si,se⟩:=qs
      have HVR:=(hpst.keep HB3.out).vars
      dsimp only at *
      clear HE3 HE4 HSP g0 g1 g2 hst hst2 hqs hpst hpa hxI
      go_wp2
      go_quiet (fail)
      rename_i nq
      have hbq:Below wc.heap.size wc (wc.drewN nq):=below_drewN (Below.refl _ _) nq
      have HXq:=hide (HX2.out.keep hbq)
      have HB4:=hide (btrans HB3.out hbq)
      have z1:=bsome hbq z1
      have HAGq:=(HAG.out).keep hbq
      have HVRq:=HVR.keep hbq
      generalize wc.drewN nq=w4 at *
      clear hbq HX2 HB3 HAG HVR
      obtain ⟨va',vc',e8,HVR⟩:=HVRq
      obtain ⟨rfl,rfl⟩:sa=va'∧sc=vc':=by simpa using e8
      obtain ⟨aa',ca',e7,HAR⟩:=HAGq
      obtain ⟨rfl,rfl⟩:aa=aa'∧ca=ca':=by simpa using e7
      have HZ:=hide z1
      obtain ⟨k0,k1,⟨i0,i1,i2,i3,i4,i5,i6,i7,i8,i9,i10,-,-⟩,t0,t1,t2,t3,t4⟩:=HXq.out
      dsimp only at *
      clear e7 e8
      by_cases hx0:0<xg.length
      ·obtain ⟨gv,ov,rfl,hvv⟩:=HVR (List.ne_nil_of_length_pos (by omega))
       obtain ⟨ga,oa,rfl,haa⟩:=HAR (List.ne_nil_of_length_pos hx0)
       have HVV:=hide hvv
       have HAA:=hide haa
       clear HVR HAR hvv haa
       go_wp2
       go_loopw [11] (fun iv wr=> ∃ j:Nat,j≤xg.length∧iv= .int .i64 j∧Hid (Below w4.heap.size w4 wr∧R=Ck.args p (xg.drop j) (st.vars.drop j))) (fun iv _=>xg.length - (intOf iv).toNat)
       case atStart=>exact ⟨0,Nat.zero_le _,rfl,hide ⟨Below.refl _ _,HE5.out⟩⟩
       case round=>
        clear k0 k1 i0 i1 i2 i3 i4 i5 i6 i7 i8 i9 i10 t0 t1 t2 t3 t4 z1
        obtain ⟨j,hj,rfl,HI⟩:=hrel
        obtain ⟨k0,k1,⟨i0,i1,i2,i3,i4,i5,i6,i7,i8,i9,i10,-,-⟩,t0,t1,t2,t3,t4⟩:=HXq.out.keep HI.out.1
        dsimp only at *
        have z1:=bsome HI.out.1 HZ.out
        by_cases hlt:j<xg.length
        ·obtain ⟨⟨ye,yv⟩,hy⟩: ∃ y,xg[j]? =some y:=⟨_,List.getElem?_eq_getElem hlt⟩
         obtain ⟨⟨vn,vt⟩,hv⟩: ∃ v,st.vars[j]? =some v:=⟨_,List.getElem?_eq_getElem (by omega)⟩
         obtain ⟨⟨be,ke,y0,hye⟩,y1⟩:=HAA.out j _ hy
         have v1:=(HVV.out j _ hv).2
         dsimp only at *
         have hjv:j<st.vars.length:=by omega
         have HN:Hid (R=((if Ck.eqT vt Ck.ti then Ck.num p 0 ye else ye.isEmpty && Ck.eqT (Cd.typ p yv) vt) && Ck.args p (xg.drop (j+1)) (st.vars.drop (j+1)))):=hide (by
          rw [HI.out.2,List.drop_eq_getElem_cons hlt,List.drop_eq_getElem_cons hjv]
          rw [List.getElem?_eq_getElem hlt,Option.some.injEq] at hy
          rw [List.getElem?_eq_getElem hjv,Option.some.injEq] at hv
          rw [hy,hv]
          rfl)
         rw [show Ck.eqT vt Ck.ti=(vt.toList == [105]) from Ck.eqT_lit _ _] at HN
         have hnl:ye.length≤1000000:=HGL.out _ (List.mem_of_getElem? hy)
         have CS2:=hide (fun (n:Nat)=>CS.out (.slice be ye.length ke) ye (wr.drewN n) (btrans HB4.out (btrans HI.out.1 (below_drewN (Below.refl _ _) n))) ((hye.keep HI.out.1).keep (below_drewN (Below.refl _ _) n)) hnl)
         have CT2:=hide (fun (n:Nat)=>CTy.out yv ((wr.drewN n).drewN 1) (btrans HB4.out (btrans HI.out.1 (below_drewN (below_drewN (Below.refl _ _) n) 1))))
         have y0:=bsome HI.out.1 y0
         have y1:=bsome HI.out.1 y1
         have v1:=bsome HI.out.1 v1
         have HBR:=hide HI.out.1
         generalize Ck.num p 0 ye=NY at *
         clear hy hv hye HI
         cases dt:(vt.toList == [105]) with
         |true=>
          rw [dt] at HN
          have dn:(vt.toList !=[105])=false:=by simp [bne,dt]
          cases NY with
          |true=>
           as_aux_lemma=>
            go_wp2
            go_region_held_law (fun w'=>w'.cell? ⟨w.heap.size+1+1,0,none⟩=some (.string p.name)∧w'.cell? ⟨w.heap.size+1+1,1,none⟩=some (.slice q.av p.vars.length q.cv)∧w'.cell? ⟨w.heap.size+1+1,2,none⟩=some (.int .i64 p.params)∧w'.cell? ⟨w.heap.size+1+1,3,none⟩=some (.slice q.ab p.blocks.length q.cb)∧w'.cell? ⟨w.heap.size+1+1,4,none⟩=some (.slice q.ai p.ins.length q.ci)∧w'.cell? ⟨w.heap.size+1,7,none⟩=some (.slice (some ⟨ga,oa,none⟩) xg.length ca)∧w'.cell? ⟨ga,oa+j * 2,none⟩=some (.slice be ye.length ke)∧w'.cell? ⟨ga,oa+j * 2+1,none⟩=some (.int .i64 yv)) (first|exact ⟨by assumption,by assumption,by assumption,by assumption,by assumption,by assumption,by assumption,by assumption⟩|go_keep) ((go_at_call 51;refine (CS2.out 1).mono ?_;rintro e w6 ⟨rfl,hb6⟩;have kc:=btrans (below_drewN (Below.refl wr.heap.size wr) 1) hb6;have q0:=bsome kc t0;have q1:=bsome kc t1;have q2:=bsome kc t2;have q3:=bsome kc t3;have q4:=bsome kc t4;have q5:=bsome kc i7;have q6:=bsome kc y0;have q7:=bsome kc y1;have KC:=hide kc;clear kc hb6))
            go_wp2
            go_quiet (fail)
            go_wp2
            go_roundw
            case rel=>exact ⟨j+1,by omega,by go_num,hide ⟨btrans HBR.out (btrans KC.out (below_drewN (Below.refl _ _) _)),by rw [HN.out];rfl⟩⟩
            case measure=>simp [intOf];omega
          |false=>
           as_aux_lemma=>
            have HE7:Hid (R=false):=hide (by rw [HN.out];rfl)
            go_wp2
            go_region_held_law (fun w'=>w'.cell? ⟨w.heap.size+1+1,0,none⟩=some (.string p.name)∧w'.cell? ⟨w.heap.size+1+1,1,none⟩=some (.slice q.av p.vars.length q.cv)∧w'.cell? ⟨w.heap.size+1+1,2,none⟩=some (.int .i64 p.params)∧w'.cell? ⟨w.heap.size+1+1,3,none⟩=some (.slice q.ab p.blocks.length q.cb)∧w'.cell? ⟨w.heap.size+1+1,4,none⟩=some (.slice q.ai p.ins.length q.ci)∧w'.cell? ⟨w.heap.size+1,7,none⟩=some (.slice (some ⟨ga,oa,none⟩) xg.length ca)∧w'.cell? ⟨ga,oa+j * 2,none⟩=some (.slice be ye.length ke)∧w'.cell? ⟨ga,oa+j * 2+1,none⟩=some (.int .i64 yv)) (first|exact ⟨by assumption,by assumption,by assumption,by assumption,by assumption,by assumption,by assumption,by assumption⟩|go_keep) ((go_at_call 51;refine (CS2.out 1).mono ?_;rintro e w6 ⟨rfl,hb6⟩;have kc:=btrans (below_drewN (Below.refl wr.heap.size wr) 1) hb6;have q0:=bsome kc t0;have q1:=bsome kc t1;have q2:=bsome kc t2;have q3:=bsome kc t3;have q4:=bsome kc t4;have q5:=bsome kc i7;have q6:=bsome kc y0;have q7:=bsome kc y1;have KC:=hide kc;clear kc hb6))
            go_wp2
            go_ret
            exact ⟨by rw [HE7.out];rfl,btrans HB4.out (btrans HBR.out KC.out)⟩
         |false=>
          rw [dt] at HN
          have dn:(vt.toList !=[105])=true:=by simp [bne,dt]
          cases de:ye.isEmpty with
          |true=>
           have d5:((ye.length:Int) !=0)=false:=by rw [List.isEmpty_iff.1 de];rfl
           have d5n:(ye.length !=0)=false:=by rw [List.isEmpty_iff.1 de];rfl
           rw [de,show Ck.eqT (Cd.typ p yv) vt=((Cd.typ p yv).toList == vt.toList) from rfl] at HN
           generalize Cd.typ p yv=TT at *
           clear de
           cases du:(TT.toList == vt.toList) with
           |true=>
            as_aux_lemma=>
             rw [du] at HN
             have dm:(TT.toList !=vt.toList)=false:=by simp [bne,du]
             go_wp2
             go_quiet (fail)
             rename_i nq
             have hb5:Below wr.heap.size wr (wr.drewN nq):=below_drewN (Below.refl _ _) nq
             have t0:=bsome hb5 t0
             have t1:=bsome hb5 t1
             have t2:=bsome hb5 t2
             have t3:=bsome hb5 t3
             have t4:=bsome hb5 t4
             have i7:=bsome hb5 i7
             have y0:=bsome hb5 y0
             have y1:=bsome hb5 y1
             have CT3:=hide (CT2.out nq)
             have HBR5:=hide (btrans HBR.out hb5)
             clear hb5 CT2
             generalize wr.drewN nq=w5 at *
             go_wp2
             go_region_held_law (fun w'=>w'.cell? ⟨w.heap.size+1+1,0,none⟩=some (.string p.name)∧w'.cell? ⟨w.heap.size+1+1,1,none⟩=some (.slice q.av p.vars.length q.cv)∧w'.cell? ⟨w.heap.size+1+1,2,none⟩=some (.int .i64 p.params)∧w'.cell? ⟨w.heap.size+1+1,3,none⟩=some (.slice q.ab p.blocks.length q.cb)∧w'.cell? ⟨w.heap.size+1+1,4,none⟩=some (.slice q.ai p.ins.length q.ci)∧w'.cell? ⟨w.heap.size+1,7,none⟩=some (.slice (some ⟨ga,oa,none⟩) xg.length ca)∧w'.cell? ⟨ga,oa+j * 2,none⟩=some (.slice be ye.length ke)∧w'.cell? ⟨ga,oa+j * 2+1,none⟩=some (.int .i64 yv)) (first|exact ⟨by assumption,by assumption,by assumption,by assumption,by assumption,by assumption,by assumption,by assumption⟩|go_keep) ((go_at_call 50;refine CT3.out.mono ?_;rintro e w6 ⟨rfl,hb6⟩;have kc:=btrans (below_drewN (Below.refl w5.heap.size w5) 1) hb6;have q0:=bsome kc t0;have q1:=bsome kc t1;have q2:=bsome kc t2;have q3:=bsome kc t3;have q4:=bsome kc t4;have q5:=bsome kc i7;have q6:=bsome kc y0;have q7:=bsome kc y1;have KC:=hide kc;clear kc hb6))
             go_wp2
             go_roundw
             case rel=>exact ⟨j+1,by omega,by go_num,hide ⟨btrans HBR5.out KC.out,by rw [HN.out];rfl⟩⟩
             case measure=>simp [intOf];omega
           |false=>
            as_aux_lemma=>
             rw [du] at HN
             have dm:(TT.toList !=vt.toList)=true:=by simp [bne,du]
             have HE7:Hid (R=false):=hide (by rw [HN.out];rfl)
             go_wp2
             go_quiet (fail)
             rename_i nq
             have hb5:Below wr.heap.size wr (wr.drewN nq):=below_drewN (Below.refl _ _) nq
             have t0:=bsome hb5 t0
             have t1:=bsome hb5 t1
             have t2:=bsome hb5 t2
             have t3:=bsome hb5 t3
             have t4:=bsome hb5 t4
             have i7:=bsome hb5 i7
             have y0:=bsome hb5 y0
             have y1:=bsome hb5 y1
             have CT3:=hide (CT2.out nq)
             have HBR5:=hide (btrans HBR.out hb5)
             clear hb5 CT2
             generalize wr.drewN nq=w5 at *
             go_wp2
             go_region_held_law (fun w'=>w'.cell? ⟨w.heap.size+1+1,0,none⟩=some (.string p.name)∧w'.cell? ⟨w.heap.size+1+1,1,none⟩=some (.slice q.av p.vars.length q.cv)∧w'.cell? ⟨w.heap.size+1+1,2,none⟩=some (.int .i64 p.params)∧w'.cell? ⟨w.heap.size+1+1,3,none⟩=some (.slice q.ab p.blocks.length q.cb)∧w'.cell? ⟨w.heap.size+1+1,4,none⟩=some (.slice q.ai p.ins.length q.ci)∧w'.cell? ⟨w.heap.size+1,7,none⟩=some (.slice (some ⟨ga,oa,none⟩) xg.length ca)∧w'.cell? ⟨ga,oa+j * 2,none⟩=some (.slice be ye.length ke)∧w'.cell? ⟨ga,oa+j * 2+1,none⟩=some (.int .i64 yv)) (first|exact ⟨by assumption,by assumption,by assumption,by assumption,by assumption,by assumption,by assumption,by assumption⟩|go_keep) ((go_at_call 50;refine CT3.out.mono ?_;rintro e w6 ⟨rfl,hb6⟩;have kc:=btrans (below_drewN (Below.refl w5.heap.size w5) 1) hb6;have q0:=bsome kc t0;have q1:=bsome kc t1;have q2:=bsome kc t2;have q3:=bsome kc t3;have q4:=bsome kc t4;have q5:=bsome kc i7;have q6:=bsome kc y0;have q7:=bsome kc y1;have KC:=hide kc;clear kc hb6))
             go_wp2
             go_ret
             exact ⟨by rw [HE7.out];rfl,btrans HB4.out (btrans HBR5.out KC.out)⟩
          |false=>
           as_aux_lemma=>
            have hyp:ye ≠ []:=by intro e;rw [e] at de;cases de
            have hyl:=List.length_pos_iff.2 hyp
            have d5:((ye.length:Int) !=0)=true:=by simp;omega
            have d5n:(ye.length !=0)=true:=by simp;omega
            have HE7:Hid (R=false):=hide (by rw [HN.out,de];rfl)
            go_wp2
            go_quiet (fail)
            go_wp2
            go_quiet (fail)
            go_wp2
            go_ret
            exact ⟨by rw [HE7.out];rfl,btrans HB4.out (btrans HBR.out (below_drewN (below_drewN (Below.refl _ _) _) _))⟩
        ·obtain rfl:j=xg.length:=by omega
         have HE6:Hid (R=true):=hide (by rw [HI.out.2,List.drop_length];rfl)
         have HB5:=hide (btrans HB4.out HI.out.1)
         clear HI
         go_wp2
         go_ret
         exact ⟨by rw [HE6.out];rfl,HB5.out⟩
      ·have hx1:xg=[]:=List.eq_nil_of_length_eq_zero (by omega)
       subst hx1
       have HE6:Hid (R=true):=hide (by rw [HE5.out];rfl)
       go_wp2
       go_loopw [11] (fun iv wr=>iv= .int .i64 0∧Hid (Below w4.heap.size w4 wr)) (fun iv _=>0)
       case atStart=>exact ⟨rfl,hide (Below.refl _ _)⟩
       case round=>
        obtain ⟨rfl,HI⟩:=hrel
        obtain ⟨k0,k1,⟨i0,i1,i2,i3,i4,i5,i6,i7,i8,i9,i10,-,-⟩,t0,t1,t2,t3,t4⟩:=HXq.out.keep HI.out
        dsimp only at *
        have HB5:=hide (btrans HB4.out HI.out)
        clear HI
        go_wp2
        go_ret
        exact ⟨by rw [HE6.out];rfl,HB5.out⟩
     ·have d2:((xg.length:Int) !=st.params)=true:=by simpa using g2
      have HE5:Hid (R=false):=hide (by rw [HE4.out,decide_eq_false g2];rfl)
      clear HE3 HE4 HSP g0 g1 g2 hst hst2 hqs hpst hpa
      go_wp2
      go_quiet (fail)
      go_wp2
      go_ret
      exact ⟨by rw [HE5.out];rfl,below_drewN HB3.out _⟩
    ·have d1:decide ((k:Int)≤xa)=true:=by simp;omega
     have HE5:Hid (R=false):=hide (by
      rw [HE3.out,HSP.out,List.getElem?_eq_none (by rw [List.length_take];omega)]
      simp)
     clear HE3 HSP g0 g1
     go_wp2
     go_quiet (fail)
     go_wp2
     go_ret
     exact ⟨by rw [HE5.out];rfl,below_drewN HB3.out _⟩
   ·have d0:decide (xa<0)=true:=by simp;omega
    have HE5:Hid (R=false):=hide (by rw [HE3.out,HSP.out,decide_eq_false g0];rfl)
    clear HE3 HSP g0
    go_wp2
    go_quiet (fail)
    go_wp2
    go_ret
    exact ⟨by rw [HE5.out];rfl,below_drewN HB3.out _⟩
end Go.Proofs.YtbhhkaobkdeolaaGreatDoor
