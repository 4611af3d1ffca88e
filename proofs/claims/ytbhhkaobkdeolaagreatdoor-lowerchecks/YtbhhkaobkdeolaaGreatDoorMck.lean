import Derived.Test.YtbhhkaobkdeolaaGreatDoorMch
namespace Go.Proofs.YtbhhkaobkdeolaaGreatDoor
open Go.RowKit
set_option maxRecDepth 100000 in
set_option maxHeartbeats 8000000 in
theorem rIns_rest (l:List Cd.Pr) (m:Int) (ua:Option Addr) (uc k:Nat) (p:Cd.Pr) (x:Cd.In) (ae:Option Addr) (ce:Nat) (aa:Option Addr) (ca:Nat) (w:World) (hu:CoR w (.slice ua l.length uc) l) (hk:l[k]? =some p) (h1:ER w (.slice ae x.e.length ce) x.e) (h2:AgR w (.slice aa x.args.length ca) x.args) (_hA:AbOK (l.take k)) (hI:InOK x) (hT:TyOK p) (hty:Ck.types p.vars=true) (h10: ¬ x.op=10):
  Calls Tryz.prog 26 #[.agg #[.slice ua l.length uc,.int .i64 m],.int .i64 (k:Int),.agg (icl x ae ce aa ca)] w fun e w'=>e= .returned (.bool (Ck.fits (l.take k) p x))∧Below w.heap.size w w':=by
 have hkl:=(List.getElem?_eq_some_iff.1 hk).1
 obtain ⟨ua',uc',e1,hr⟩:=hu
 obtain ⟨rfl,rfl⟩:ua=ua'∧uc=uc':=by simpa using e1
 obtain ⟨g,o,rfl,hc⟩:=hr (List.ne_nil_of_mem (List.mem_of_getElem? hk))
 obtain ⟨q,hq,h⟩:=hc k p hk
 have HC:=hide hc
 have HRX:=hide (RX.new w l m g o uc q p x ae ce aa ca h1 h2)
 have HB:=hide (b_three w (.cells #[.slice (some ⟨g,o,none⟩) l.length uc,.int .i64 m] 24) (.cells (icl x ae ce aa ca) 47) (.cells (q.cells p) 43))
 have y0:=bsome (b_two w (.cells #[.slice (some ⟨g,o,none⟩) l.length uc,.int .i64 m] 24) (.cells (icl x ae ce aa ca) 47)) (hq 0 _ rfl)
 have y1:=bsome (b_two w (.cells #[.slice (some ⟨g,o,none⟩) l.length uc,.int .i64 m] 24) (.cells (icl x ae ce aa ca) 47)) (hq 1 _ rfl)
 have y2:=bsome (b_two w (.cells #[.slice (some ⟨g,o,none⟩) l.length uc,.int .i64 m] 24) (.cells (icl x ae ce aa ca) 47)) (hq 2 _ rfl)
 have y3:=bsome (b_two w (.cells #[.slice (some ⟨g,o,none⟩) l.length uc,.int .i64 m] 24) (.cells (icl x ae ce aa ca) 47)) (hq 3 _ rfl)
 have y4:=bsome (b_two w (.cells #[.slice (some ⟨g,o,none⟩) l.length uc,.int .i64 m] 24) (.cells (icl x ae ce aa ca) 47)) (hq 4 _ rfl)
 rw [Nat.add_zero] at y0
 have CTy:Hid (∀ (v:Int) (w':World),Below w.heap.size w w'→Calls Tryz.prog 50 #[.agg (q.cells p),.int .i64 v] w' fun e w''=>e= .returned (.string (Cd.typ p v))∧Below w'.heap.size w' w''):=hide (fun v w' hb=>typ_any q p v w' (h.keep hb))
 have CS:Hid (∀ (v:Value) (L:List (Int × Int)) (w':World),Below w.heap.size w w'→ER w' v L→L.length≤1000000→Calls Tryz.prog 51 #[.agg (q.cells p),v] w' fun e w''=>e= .returned (.bool (Ck.num p 0 L))∧Below w'.heap.size w' w''):=hide (fun v L w' hb hE hn=>rStack_any q p v L w' (h.keep hb) hE hn)
 have CN:Hid (∀ (w':World),Below w.heap.size w w'→Calls Tryz.prog 51 #[.agg (q.cells p),.slice ae x.e.length ce] w' fun e w''=>e= .returned (.bool (Ck.num p 0 x.e))∧Below w'.heap.size w' w''):=hide (fun w' hb=>CS.out _ x.e w' hb (h1.keep hb) hI.2.1)
 have CI:=hide (fun w'=>rIsTy_any x.t 2 w' hI.1)
 have za:(Cd.typ p x.a).size≤100:=hT.typ _
 have zb:(Cd.typ p x.b).size≤100:=hT.typ _
 have zt:x.t.size≤1000:=by have:=hI.1;omega
 have HTa:=hide (Ck.types_typ hty x.a)
 have HTb:=hide (Ck.types_typ hty x.b)
 have HE:Hid (Ck.fits (l.take k) p x=_):=hide (by unfold Ck.fits;rfl)
 have HCE:=hide (fun (n:Int)=>Ck.chan_eq (p:=p) (xa:=x.a) (xb:=x.b) (xn:=n) (xt:=x.t) HTa.out)
 have HSP:Hid (Ck.spawn (l.take k) p x=_):=hide (by unfold Ck.spawn;rfl)
 generalize Ck.fits (l.take k) p x=R at *
 generalize Ck.spawn (l.take k) p x=SP at *
 have HGO:Hid (Ck.isI p x.to=(decide (0≤x.to) && decide (x.to<(p.ins.length:Int)))):=hide rfl
 generalize Ck.isI p x.to=GO at *
 generalize Ck.num p 0 x.e=NU at *
 have CA:=hide (CTy.out x.a)
 have CB:=hide (CTy.out x.b)
 have CBA:=hide (fun b w'=>rBegins_any (Cd.typ p x.a) b w')
 have CBB:=hide (fun b w'=>rBegins_any (Cd.typ p x.b) b w')
 generalize Cd.typ p x.a=A at *
 generalize Cd.typ p x.b=B at *
 generalize Rn.isT x.t.data.toList 2=IT at *
 have hxI:=hI
 clear e1 hr hc hq hT hty h1 h2 hI h
 obtain ⟨op,xa,xb,xn,xto,xt,xe,xg,xbk,xlp,xat⟩:=x
 dsimp only at *
 unfold PV.cells icl at *
 go_enter Tryz.func26,Tryz.ntmps26
 go_wp2
 generalize (((w.alloc (.cells #[.slice (some ⟨g,o,none⟩) l.length uc,.int .i64 m] 24)).alloc (.cells #[.int .i64 op,.int .i64 xa,.int .i64 xb,.int .i64 xn,.int .i64 xto,.string xt,.slice ae xe.length ce,.slice aa xg.length ca,.int .i64 xbk,.int .i64 xlp,.int .i64 xat] 47)).alloc (.cells #[.string p.name,.slice q.av p.vars.length q.cv,.int .i64 p.params,.slice q.ab p.blocks.length q.cb,.slice q.ai p.ins.length q.ci] 43))=w1 at *
 go_cut [8,9] from 13 (fun v8 v9 wx=>v8= .string A∧v9= .string B∧Hid (Below w1.heap.size w1 wx))
 case first=>
  have kc1:Hid (Below w.heap.size w w1.drew):=hide (below_drewN HB.out 1)
  have kd1:Hid (Below w1.heap.size w1 w1.drew):=hide (below_drewN (Below.refl _ _) 1)
  obtain ⟨k0,k1,⟨i0,i1,i2,i3,i4,i5,i6,i7,i8,i9,i10,-,-⟩,t0,t1,t2,t3,t4⟩:=HRX.out
  as_aux_lemma=>
   go_region_held_law (fun w'=>w'.cell? ⟨w.heap.size+1+1,0,none⟩=some (.string p.name)∧w'.cell? ⟨w.heap.size+1+1,1,none⟩=some (.slice q.av p.vars.length q.cv)∧w'.cell? ⟨w.heap.size+1+1,2,none⟩=some (.int .i64 p.params)∧w'.cell? ⟨w.heap.size+1+1,3,none⟩=some (.slice q.ab p.blocks.length q.cb)∧w'.cell? ⟨w.heap.size+1+1,4,none⟩=some (.slice q.ai p.ins.length q.ci)∧w'.cell? ⟨w.heap.size+1,1,none⟩=some (.int .i64 xa)∧w'.cell? ⟨w.heap.size+1,2,none⟩=some (.int .i64 xb)) (first|exact ⟨by assumption,by assumption,by assumption,by assumption,by assumption,by assumption,by assumption⟩|go_keep) ((go_at_call 50;first|((with_reducible refine (CA.out _ (by first|exact kc2.out|exact kc1.out)).mono ?_);rintro e w3 ⟨rfl,hb3⟩;have kc2:=hide (btrans (by first|exact kc2.out|exact kc1.out) hb3);have kd2:=hide (btrans (by first|exact kd2.out|exact kd1.out) hb3);have r0:=bsome kd2.out t0;have r1:=bsome kd2.out t1;have r2:=bsome kd2.out t2;have r3:=bsome kd2.out t3;have r4:=bsome kd2.out t4;have j1:=bsome kd2.out i1;have j2:=bsome kd2.out i2;clear hb3)|((with_reducible refine (CB.out _ (by first|exact kc2.out|exact kc1.out)).mono ?_);rintro e w3 ⟨rfl,hb3⟩;have kc2:=hide (btrans (by first|exact kc2.out|exact kc1.out) hb3);have kd2:=hide (btrans (by first|exact kd2.out|exact kd1.out) hb3);have r0:=bsome kd2.out t0;have r1:=bsome kd2.out t1;have r2:=bsome kd2.out t2;have r3:=bsome kd2.out t3;have r4:=bsome kd2.out t4;have j1:=bsome kd2.out i1;have j2:=bsome kd2.out i2;clear hb3)))
   all_goals
    go_wp2
    go_meet
    case rel=>exact ⟨rfl,rfl,hide kd2.out⟩
 case rest=>
  obtain ⟨rfl,rfl,HB2⟩:=hcut
  have HX2:=hide (HRX.out.keep HB2.out)
  have HB3:=hide (btrans HB.out HB2.out)
  clear HB2 HRX HB y0 y1 y2 y3 y4
  obtain ⟨k0,k1,⟨i0,i1,i2,i3,i4,i5,i6,i7,i8,i9,i10,hae,hag⟩,t0,t1,t2,t3,t4⟩:=HX2.out
  have HAG:=hide hag
  clear hae hag
  dsimp only at *
  go_upto_region 3 with fail
  go_cut [10] from 13 (fun v10 wx=>v10= .bool GO∧wx=wc)
  case first=>
   cases dd:decide (0≤xto) with
   |true=>
    rw [dd] at HGO
    have HG2:Hid (decide (xto<(p.ins.length:Int))=GO):=hide HGO.out.symm
    go_wp2
    go_meet
    case rel=>exact ⟨by rw [←HG2.out],rfl⟩
   |false=>
    rw [dd] at HGO
    have HG2:Hid (GO=false):=hide HGO.out
    go_wp2
    go_meet
    case rel=>exact ⟨by rw [HG2.out],rfl⟩
  case rest=>
   obtain ⟨rfl,rfl⟩:=hcut
   have f10:(op == 10)=false:=by simpa using h10
   by_cases e1:op=1
   ·subst e1
    have HE2:Hid (R=(Ck.eqT A Ck.ti && NU)):=hide (HE.out)
    clear HE
    have HE2:=hide (HE2.out.trans (congrArg (· && _) (Ck.eqT_lit A #[105])))
    change Hid (R=((A.toList == [105]) && _)) at HE2
    cases dc:(A.toList == [105]) with
    |true=>
     rw [dc] at HE2
     go_wp2_with fail
     refine (CN.out _ HB3.out).mono ?_
     rintro e w6 ⟨rfl,hb6⟩
     have HB6:=hide (btrans HB3.out hb6)
     clear hb6
     go_wp2
     go_ret
     exact ⟨by rw [HE2.out];(first|rfl|simp),HB6.out⟩
    |false=>
     rw [dc] at HE2
     go_wp2
     go_ret
     exact ⟨by rw [HE2.out];(first|rfl|simp),HB3.out⟩
   by_cases e12:op=12
   ·subst e12
    have HE2:Hid (R=(Ck.eqT A Ck.ti && NU)):=hide (HE.out)
    clear HE
    have HE2:=hide (HE2.out.trans (congrArg (· && _) (Ck.eqT_lit A #[105])))
    change Hid (R=((A.toList == [105]) && _)) at HE2
    cases dc:(A.toList == [105]) with
    |true=>
     rw [dc] at HE2
     go_wp2_with fail
     refine (CN.out _ HB3.out).mono ?_
     rintro e w6 ⟨rfl,hb6⟩
     have HB6:=hide (btrans HB3.out hb6)
     clear hb6
     go_wp2
     go_ret
     exact ⟨by rw [HE2.out];(first|rfl|simp),HB6.out⟩
    |false=>
     rw [dc] at HE2
     go_wp2
     go_ret
     exact ⟨by rw [HE2.out];(first|rfl|simp),HB3.out⟩
   by_cases e2:op=2
   ·subst e2
    have HE2:Hid (R=(NU)):=hide (HE.out)
    clear HE
    go_wp2_with fail
    refine (CN.out _ HB3.out).mono ?_
    rintro e w6 ⟨rfl,hb6⟩
    have HB6:=hide (btrans HB3.out hb6)
    clear hb6
    go_wp2
    go_ret
    exact ⟨by rw [HE2.out];(first|rfl|simp),HB6.out⟩
   by_cases e3:op=3
   ·subst e3
    have HE2:Hid (R=((xa !=xb) && IT && Ck.eqT A (⟨#[115]⟩++xt) && Ck.eqT B (⟨#[114]⟩++xt) && decide (1≤xn) && decide (xn≤5))):=hide (HE.out.trans (HCE.out xn))
    clear HE
    unfold Ck.eqT at HE2
    cases dc:(xa !=xb) with
    |true=>
     rw [dc] at HE2
     cases IT with
     |true=>
      cases dc:(A.toList == ((⟨#[115]⟩:ByteArray)++xt).toList) with
      |true=>
       rw [dc] at HE2
       cases dc:(B.toList == ((⟨#[114]⟩:ByteArray)++xt).toList) with
       |true=>
        rw [dc] at HE2
        cases dc:decide (1≤xn) with
        |true=>
         rw [dc] at HE2
         go_wp2_with fail
         refine (CI.out _).mono ?_
         rintro e w6 ⟨rfl,rfl⟩
         go_wp2
         go_ret
         exact ⟨by rw [HE2.out];(first|rfl|simp),HB3.out⟩
        |false=>
         rw [dc] at HE2
         go_wp2_with fail
         refine (CI.out _).mono ?_
         rintro e w6 ⟨rfl,rfl⟩
         go_wp2
         go_ret
         exact ⟨by rw [HE2.out];(first|rfl|simp),HB3.out⟩
       |false=>
        rw [dc] at HE2
        go_wp2_with fail
        refine (CI.out _).mono ?_
        rintro e w6 ⟨rfl,rfl⟩
        go_wp2
        go_ret
        exact ⟨by rw [HE2.out];(first|rfl|simp),HB3.out⟩
      |false=>
       rw [dc] at HE2
       go_wp2_with fail
       refine (CI.out _).mono ?_
       rintro e w6 ⟨rfl,rfl⟩
       go_wp2
       go_ret
       exact ⟨by rw [HE2.out];(first|rfl|simp),HB3.out⟩
     |false=>
      go_wp2_with fail
      refine (CI.out _).mono ?_
      rintro e w6 ⟨rfl,rfl⟩
      go_wp2
      go_ret
      exact ⟨by rw [HE2.out];(first|rfl|simp),HB3.out⟩
    |false=>
     rw [dc] at HE2
     go_wp2
     go_ret
     exact ⟨by rw [HE2.out];(first|rfl|simp),HB3.out⟩
   by_cases e4:op=4
   ·subst e4
    have HE2:Hid (R=((xa !=xb) && Ck.eqT A B && Ck.pfx 115 B)):=hide (HE.out)
    clear HE
    unfold Ck.eqT at HE2
    cases dc:(xa !=xb) with
    |true=>
     rw [dc] at HE2
     cases dp:Ck.pfx 115 B with
     |true=>
      rw [dp] at HE2
      have CQ:=hide (CBB.out 115)
      rw [Ck.beg HTb.out 115 (by decide),dp] at CQ
      go_wp2_with fail
      refine (CQ.out _).mono ?_
      rintro e w6 ⟨rfl,rfl⟩
      go_wp2
      go_ret
      exact ⟨by rw [HE2.out];(first|rfl|simp),HB3.out⟩
     |false=>
      rw [dp] at HE2
      have CQ:=hide (CBB.out 115)
      rw [Ck.beg HTb.out 115 (by decide),dp] at CQ
      go_wp2_with fail
      refine (CQ.out _).mono ?_
      rintro e w6 ⟨rfl,rfl⟩
      go_wp2
      go_ret
      exact ⟨by rw [HE2.out];(first|rfl|simp),HB3.out⟩
    |false=>
     rw [dc] at HE2
     go_wp2
     go_ret
     exact ⟨by rw [HE2.out];(first|rfl|simp),HB3.out⟩
   by_cases e5:op=5
   ·subst e5
    have HE2:Hid (R=(Ck.eqT A ⟨#[115,105]⟩ && NU)):=hide (HE.out)
    clear HE
    have HE2:=hide (HE2.out.trans (congrArg (· && _) (Ck.eqT_lit A #[115,105])))
    change Hid (R=((A.toList == [115,105]) && _)) at HE2
    cases dc:(A.toList == [115,105]) with
    |true=>
     rw [dc] at HE2
     go_wp2_with fail
     refine (CN.out _ HB3.out).mono ?_
     rintro e w6 ⟨rfl,hb6⟩
     have HB6:=hide (btrans HB3.out hb6)
     clear hb6
     go_wp2
     go_ret
     exact ⟨by rw [HE2.out];(first|rfl|simp),HB6.out⟩
    |false=>
     rw [dc] at HE2
     go_wp2
     go_ret
     exact ⟨by rw [HE2.out];(first|rfl|simp),HB3.out⟩
   by_cases e6:op=6
   ·subst e6
    have HE2:Hid (R=(Ck.pfx 115 A && (!Ck.eqT A ⟨#[115,105]⟩) && (B.toList == (A.extract 1 A.size).toList))):=hide (HE.out.trans (Ck.give_eq HTa.out).symm)
    clear HE
    have CQ:=hide (CBA.out 115)
    rw [Ck.beg HTa.out 115 (by decide)] at CQ
    have HL:Hid (Ck.eqT A ⟨#[115,105]⟩=(A.toList == [115,105])):=hide (Ck.eqT_lit _ _)
    rw [HL.out] at HE2
    cases dp:Ck.pfx 115 A with
    |true=>
     rw [dp] at HE2 CQ
     have h1:1≤A.size:=by
      have:=Ck.beg HTa.out 115 (by decide)
      rw [dp,Bool.and_true,decide_eq_true_eq] at this
      omega
     cases dq:(A.toList == [115,105]) with
     |true=>
      rw [dq] at HE2
      have dn:(A.toList !=[115,105])=false:=by simp [bne,dq]
      go_wp2_with fail
      refine (CQ.out _).mono ?_
      rintro e w6 ⟨rfl,rfl⟩
      go_wp2
      go_ret
      exact ⟨by rw [HE2.out];(first|rfl|simp),HB3.out⟩
     |false=>
      rw [dq] at HE2
      have dn:(A.toList !=[115,105])=true:=by simp [bne,dq]
      go_wp2_with fail
      refine (CQ.out _).mono ?_
      rintro e w6 ⟨rfl,rfl⟩
      go_wp2
      go_ret
      exact ⟨by rw [HE2.out];(first|rfl|simp),HB3.out⟩
    |false=>
     rw [dp] at HE2 CQ
     go_wp2_with fail
     refine (CQ.out _).mono ?_
     rintro e w6 ⟨rfl,rfl⟩
     go_wp2
     go_ret
     exact ⟨by rw [HE2.out];(first|rfl|simp),HB3.out⟩
   by_cases e7:op=7
   ·subst e7
    have HE2:Hid (R=(Ck.pfx 115 A)):=hide (HE.out)
    clear HE
    have CQ:=hide (CBA.out 115)
    rw [Ck.beg HTa.out 115 (by decide)] at CQ
    generalize Ck.pfx 115 A=D at *
    go_wp2_with fail
    refine (CQ.out _).mono ?_
    rintro e w6 ⟨rfl,rfl⟩
    go_wp2
    go_ret
    exact ⟨by rw [HE2.out];(first|rfl|simp),HB3.out⟩
   by_cases e8:op=8
   ·subst e8
    have HE2:Hid (R=(Ck.pfx 114 A)):=hide (HE.out)
    clear HE
    have CQ:=hide (CBA.out 114)
    rw [Ck.beg HTa.out 114 (by decide)] at CQ
    generalize Ck.pfx 114 A=D at *
    go_wp2_with fail
    refine (CQ.out _).mono ?_
    rintro e w6 ⟨rfl,rfl⟩
    go_wp2
    go_ret
    exact ⟨by rw [HE2.out];(first|rfl|simp),HB3.out⟩
   by_cases e9:op=9
   ·subst e9
    have HE2:Hid (R=(Ck.pfx 114 A)):=hide (HE.out)
    clear HE
    have CQ:=hide (CBA.out 114)
    rw [Ck.beg HTa.out 114 (by decide)] at CQ
    generalize Ck.pfx 114 A=D at *
    go_wp2_with fail
    refine (CQ.out _).mono ?_
    rintro e w6 ⟨rfl,rfl⟩
    go_wp2
    go_ret
    exact ⟨by rw [HE2.out];(first|rfl|simp),HB3.out⟩
   by_cases e11:op=11
   ·subst e11
    have HE2:Hid (R=((Ck.pfx 114 B && (A.toList == (B.extract 1 B.size).toList)) && GO)):=hide (HE.out.trans (congrArg (· && GO) (Ck.take_eq A B).symm))
    clear HE
    have CQ:=hide (CBB.out 114)
    rw [Ck.beg HTb.out 114 (by decide)] at CQ
    cases dp:Ck.pfx 114 B with
    |true=>
     rw [dp] at HE2 CQ
     have h1:1≤B.size:=by
      have:=Ck.beg HTb.out 114 (by decide)
      rw [dp,Bool.and_true,decide_eq_true_eq] at this
      omega
     cases dq:(A.toList == (B.extract 1 B.size).toList) with
     |true=>
      rw [dq] at HE2
      go_wp2_with fail
      refine (CQ.out _).mono ?_
      rintro e w6 ⟨rfl,rfl⟩
      go_wp2
      go_ret
      exact ⟨by rw [HE2.out];(first|rfl|simp),HB3.out⟩
     |false=>
      rw [dq] at HE2
      go_wp2_with fail
      refine (CQ.out _).mono ?_
      rintro e w6 ⟨rfl,rfl⟩
      go_wp2
      go_ret
      exact ⟨by rw [HE2.out];(first|rfl|simp),HB3.out⟩
    |false=>
     rw [dp] at HE2 CQ
     go_wp2_with fail
     refine (CQ.out _).mono ?_
     rintro e w6 ⟨rfl,rfl⟩
     go_wp2
     go_ret
     exact ⟨by rw [HE2.out];(first|rfl|simp),HB3.out⟩
   by_cases e13:op=13
   ·subst e13
    have HE2:Hid (R=(Ck.eqT A Ck.ti && GO)):=hide (HE.out)
    clear HE
    have HE2:=hide (HE2.out.trans (congrArg (· && _) (Ck.eqT_lit A #[105])))
    change Hid (R=((A.toList == [105]) && _)) at HE2
    cases dc:(A.toList == [105]) with
    |true=>
     rw [dc] at HE2
     go_wp2
     go_ret
     exact ⟨by rw [HE2.out];(first|rfl|simp),HB3.out⟩
    |false=>
     rw [dc] at HE2
     go_wp2
     go_ret
     exact ⟨by rw [HE2.out];(first|rfl|simp),HB3.out⟩
   by_cases e14:op=14
   ·subst e14
    have HE2:Hid (R=(NU && GO)):=hide (HE.out)
    clear HE
    cases NU with
    |true=>
     go_wp2_with fail
     refine (CN.out _ HB3.out).mono ?_
     rintro e w6 ⟨rfl,hb6⟩
     have HB6:=hide (btrans HB3.out hb6)
     clear hb6
     go_wp2
     go_ret
     exact ⟨by rw [HE2.out];(first|rfl|simp),HB6.out⟩
    |false=>
     go_wp2_with fail
     refine (CN.out _ HB3.out).mono ?_
     rintro e w6 ⟨rfl,hb6⟩
     have HB6:=hide (btrans HB3.out hb6)
     clear hb6
     go_wp2
     go_ret
     exact ⟨by rw [HE2.out];(first|rfl|simp),HB6.out⟩
   by_cases e15:op=15
   ·subst e15
    have HE2:Hid (R=(GO)):=hide (HE.out)
    clear HE
    go_wp2
    go_ret
    exact ⟨by rw [HE2.out];(first|rfl|simp),HB3.out⟩
   by_cases e16:op=16
   ·subst e16
    have HE2:Hid (R=(decide (1<A.size))):=hide (HE.out.trans (Ck.over_eq HTa.out).symm)
    clear HE
    have dz:decide ((1:Int)<(A.size:Int))=decide (1<A.size):=by
     by_cases e:1<A.size
     ·rw [decide_eq_true e];simp;omega
     ·rw [decide_eq_false e];simp;omega
    generalize decide (1<A.size)=D at *
    go_wp2
    go_ret
    exact ⟨by rw [HE2.out];(first|rfl|simp),HB3.out⟩
   have HE2:Hid (R=(op == 17)):=hide (by
    rw [HE.out]
    simp only [e1,e12,e2,e3,e4,e5,e6,e7,e8,e9,h10,e11,e13,e14,e15,e16,or_false,if_false])
   clear HE
   have f1:(op == 1)=false:=by simpa using e1
   have f12:(op == 12)=false:=by simpa using e12
   have f2:(op == 2)=false:=by simpa using e2
   have f3:(op == 3)=false:=by simpa using e3
   have f4:(op == 4)=false:=by simpa using e4
   have f5:(op == 5)=false:=by simpa using e5
   have f6:(op == 6)=false:=by simpa using e6
   have f7:(op == 7)=false:=by simpa using e7
   have f8:(op == 8)=false:=by simpa using e8
   have f9:(op == 9)=false:=by simpa using e9
   have f11:(op == 11)=false:=by simpa using e11
   have f13:(op == 13)=false:=by simpa using e13
   have f14:(op == 14)=false:=by simpa using e14
   have f15:(op == 15)=false:=by simpa using e15
   have f16:(op == 16)=false:=by simpa using e16
   clear e1 e12 e2 e3 e4 e5 e6 e7 e8 e9 e11 e13 e14 e15 e16
   go_wp2
   go_ret
   exact ⟨by rw [HE2.out];(first|rfl|simp),HB3.out⟩
end Go.Proofs.YtbhhkaobkdeolaaGreatDoor
