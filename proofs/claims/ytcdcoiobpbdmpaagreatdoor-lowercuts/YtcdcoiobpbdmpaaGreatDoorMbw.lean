import Derived.Test.YtcdcoiobpbdmpaaGreatDoorMau
namespace Go.Proofs.YtcdcoiobpbdmpaaGreatDoor
open Go.RowKit
def icl (x:Cd.In) (ae:Option Addr) (ce:Nat) (aa:Option Addr) (ca:Nat):Array Value:= #[.int .i64 x.op,.int .i64 x.a,.int .i64 x.b,.int .i64 x.n,.int .i64 x.to,.string x.t,.slice ae x.e.length ce,.slice aa x.args.length ca,.int .i64 x.bk,.int .i64 x.lp,.int .i64 x.at']
theorem IC.new {w:World} {x:Cd.In} {ae:Option Addr} {ce:Nat} {aa:Option Addr} {ca:Nat} (t:TypeId) (h1:ER w (.slice ae x.e.length ce) x.e) (h2:AgR w (.slice aa x.args.length ca) x.args):IC (w.alloc (.cells (icl x ae ce aa ca) t)) w.heap.size 0 x ae ce aa ca:=by
 have hb:Below w.heap.size w (w.alloc (.cells (icl x ae ce aa ca) t)):=(Below.refl _ _).alloc (Nat.le_refl _) _
 refine ⟨?_,?_,?_,?_,?_,?_,?_,?_,?_,?_,?_,h1.keep hb,h2.keep hb⟩<;> simp [go_sem,icl]
theorem CoR.keep {w w':World} {v:Value} {l:List Cd.Pr} (h:CoR w v l) (hb:Below w.heap.size w w'):CoR w' v l:=by
 obtain ⟨a,c,h1,h2⟩:=h
 refine ⟨a,c,h1,fun hn=> ?_⟩
 obtain ⟨g,o,h3,h4⟩:=h2 hn
 refine ⟨g,o,h3,fun k p hp=> ?_⟩
 obtain ⟨q,h5,h6⟩:=h4 k p hp
 exact ⟨q,fun j u hu=>bsome hb (h5 j u hu),h6.keep hb⟩
def AbOK (ab:List Cd.Pr):Prop:= ∀ st ∈ ab,st.params≤(st.vars.length:Int)
def InOK (x:Cd.In):Prop:=x.t.size≤1000∧x.e.length≤1000000∧x.args.length≤1000000∧ ∀ y ∈ x.args,y.1.length≤1000000
set_option maxRecDepth 100000 in
set_option maxHeartbeats 2000000 in
theorem ckSpawn_any (q:PV) (p:Cd.Pr) (ab:List Cd.Pr) (ua:Option Addr) (uc:Nat) (x:Cd.In) (ae:Option Addr) (ce:Nat) (aa:Option Addr) (ca:Nat) (w:World) (h:PC q p w) (hu:CoR w (.slice ua ab.length uc) ab) (h1:ER w (.slice ae x.e.length ce) x.e) (h2:AgR w (.slice aa x.args.length ca) x.args) (hA:AbOK ab) (hI:InOK x):
  Calls Tryz.prog 55 #[.agg (q.ck p ua ab.length uc),.agg (icl x ae ce aa ca)] w fun e w'=>e= .returned (.bool (Ck.spawn ab p x))∧Below w.heap.size w w':=by
 have hb1:Below w.heap.size w (w.alloc (.cells (q.ck p ua ab.length uc) 62)):=(Below.refl _ _).alloc (Nat.le_refl _) _
 have hb2:=(Below.refl (w.alloc (.cells (q.ck p ua ab.length uc) 62)).heap.size (w.alloc (.cells (q.ck p ua ab.length uc) 62))).alloc (Nat.le_refl _) (.cells (icl x ae ce aa ca) 44)
 have hb:=btrans hb1 hb2
 have HB:=hide hb
 have HIC:=hide (IC.new 44 (h1.keep hb1) (h2.keep hb1))
 have HKB:=hide ((KB.new q p ua ab.length uc w).keep hb2)
 have HCO:=hide (hu.keep hb)
 have HCA:Hid (∀ (y:List (Int × Int) × Int) (ae:Option Addr) (ce:Nat) (t:ByteArray) (w':World),Below w.heap.size w w'→ER w' (.slice ae y.1.length ce) y.1→y.1.length≤1000000→Calls Tryz.prog 85 #[.agg (q.ck p ua ab.length uc),.agg #[.slice ae y.1.length ce,.int .i64 y.2],.string t] w' fun e w''=>e= .returned (.bool (Ck.arg p y t))∧Below w'.heap.size w' w''):=hide (fun y ae ce t w' hb hy hn=>ckArgFits_any q p ua ab.length uc y ae ce t w' (h.keep hb) hy hn)
 have x1:=HIC.out.c1
 have x7:=HIC.out.c7
 have k5:=HKB.out.c5
 have HE:Hid (Ck.spawn ab p x=(decide (0≤x.a) && match ab[x.a.toNat]? with
  |none=>false
  |some st=>decide ((x.args.length:Int)=st.params) && Ck.args p x.args st.vars)):=hide rfl
 generalize Ck.spawn ab p x=R at *
 clear h hu h1 h2 hb1 hb2 hb
 unfold PV.ck icl at *
 by_cases h0:0≤x.a
 ·have d0:decide (x.a<0)=false:=by simp;omega
  by_cases hlt:x.a<(ab.length:Int)
  ·have d1:decide ((ab.length:Int)≤x.a)=false:=by simp;omega
   obtain ⟨i,hi⟩: ∃ i:Nat,x.a=(i:Int):=⟨x.a.toNat,by omega⟩
   obtain ⟨st,hst⟩: ∃ st,ab[i]? =some st:=⟨_,List.getElem?_eq_getElem (by omega)⟩
   obtain ⟨ua',uc',e1,h3⟩:=HCO.out
   obtain ⟨rfl,rfl⟩:ua'=ua∧uc'=uc:=by
    simp only [Value.slice.injEq,true_and] at e1
    exact ⟨e1.1.symm,e1.2.symm⟩
   obtain ⟨g,o,rfl,h4⟩:=h3 (List.ne_nil_of_mem (List.mem_of_getElem? hst))
   obtain ⟨qs,h5,h6⟩:=h4 i st hst
   have HE2:Hid (R=(decide ((x.args.length:Int)=st.params) && Ck.args p x.args st.vars)):=hide (by
    rw [HE.out,decide_eq_true h0,hi,Int.toNat_natCast,hst]
    rfl)
   have z0:=h5 0 _ rfl
   have z1:=h5 1 _ rfl
   have z2:=h5 2 _ rfl
   have z3:=h5 3 _ rfl
   have z4:=h5 4 _ rfl
   rw [Nat.add_zero] at z0
   have HPS:=hide h6
   have hpa:st.params≤(st.vars.length:Int):=hA st (List.mem_of_getElem? hst)
   rw [hi] at x1 d0 d1
   have d1n:decide (ab.length≤i)=false:=by simp;omega
   have hil:i<ab.length:=by omega
   clear e1 h3 h4 h5 h6 HE hst hA HCO h0 hlt
   obtain ⟨op,xa,xb,xn,xto,xt,xe,xg,xbk,xlp,xat⟩:=x
   dsimp only at *
   subst hi
   by_cases hp:(xg.length:Int)=st.params
   ·have dp:((xg.length:Int) !=st.params)=false:=by rw [hp];simp
    have HE3:Hid (R=Ck.args p xg st.vars):=hide (by rw [HE2.out,decide_eq_true hp];rfl)
    have hlv:xg.length≤st.vars.length:=by omega
    clear HE2 hp
    go_enter Tryz.func55,Tryz.ntmps55
    go_wp2
    have HB3:=hide (btrans HB.out ((Below.refl _ _).alloc (Nat.le_refl _) (.cells #[.string st.name,.slice qs.av st.vars.length qs.cv,.int .i64 st.params,.slice qs.ab st.blocks.length qs.cb,.slice qs.ai st.ins.length qs.ci] 39)))
    have HKB3:=hide (HKB.out.keep ((Below.refl _ _).alloc (Nat.le_refl _) (.cells #[.string st.name,.slice qs.av st.vars.length qs.cv,.int .i64 st.params,.slice qs.ab st.blocks.length qs.cb,.slice qs.ai st.ins.length qs.ci] 39)))
    have HIC3:=hide (HIC.out.keep ((Below.refl _ _).alloc (Nat.le_refl _) (.cells #[.string st.name,.slice qs.av st.vars.length qs.cv,.int .i64 st.params,.slice qs.ab st.blocks.length qs.cb,.slice qs.ai st.ins.length qs.ci] 39)))
    have HPS3:=hide (HPS.out.keep ((Below.refl _ _).alloc (Nat.le_refl _) (.cells #[.string st.name,.slice qs.av st.vars.length qs.cv,.int .i64 st.params,.slice qs.ab st.blocks.length qs.cb,.slice qs.ai st.ins.length qs.ci] 39)))
    clear HB HKB HIC HPS x1 x7 k5 z0 z1 z2 z3 z4
    have sc1:((((w.alloc (.cells #[.string p.name,.slice q.av p.vars.length q.cv,.int .i64 p.params,.slice q.ab p.blocks.length q.cb,.slice q.ai p.ins.length q.ci,.slice (some ⟨g,o,none⟩) ab.length uc'] 62)).alloc (.cells #[.int .i64 op,.int .i64 i,.int .i64 xb,.int .i64 xn,.int .i64 xto,.string xt,.slice ae xe.length ce,.slice aa xg.length ca,.int .i64 xbk,.int .i64 xlp,.int .i64 xat] 44)).alloc (.cells #[.string st.name,.slice qs.av st.vars.length qs.cv,.int .i64 st.params,.slice qs.ab st.blocks.length qs.cb,.slice qs.ai st.ins.length qs.ci] 39))).cell? ⟨w.heap.size+1+1,1,none⟩=some (.slice qs.av st.vars.length qs.cv):=by simp [go_sem]
    generalize World.alloc (World.alloc (World.alloc _ _) _) _=w3 at *
    have HSC:=hide sc1
    obtain ⟨aa',ca',e7,HAR⟩:=HIC3.out.args
    obtain ⟨rfl,rfl⟩:aa=aa'∧ca=ca':=by simpa using e7
    have HAR:=hide HAR
    obtain ⟨va',vc',e8,HVR⟩:=HPS3.out.vars
    obtain ⟨sa,sc,sb,sd,si,se⟩:=qs
    dsimp only at *
    obtain ⟨rfl,rfl⟩:sa=va'∧sc=vc':=by simpa using e8
    have hgl: ∀ y ∈ xg,y.1.length≤1000000:=hI.2.2.2
    have HGL:=hide hgl
    have hxl:xg.length≤1000000:=hI.2.2.1
    clear sc1 e7 e8 hgl hI HIC3 HPS3 dp hpa
    by_cases hx0:0<xg.length
    ·obtain ⟨gv,ov,rfl,hvv⟩:=HVR (List.ne_nil_of_length_pos (by omega))
     have HVV:=hide hvv
     clear HVR hvv
     go_loopw [34] (fun iv wr=> ∃ k:Nat,k≤xg.length∧iv= .int .i64 k∧Hid (Below w3.heap.size w3 wr∧R=Ck.args p (xg.drop k) (st.vars.drop k))) (fun iv _=>xg.length - (intOf iv).toNat)
     case atStart=>exact ⟨0,Nat.zero_le _,rfl,hide ⟨Below.refl _ _,HE3.out⟩⟩
     case round=>
      obtain ⟨k,hk,rfl,HI⟩:=hrel
      by_cases hlt:k<xg.length
      ·obtain ⟨⟨ye,yv⟩,hy⟩: ∃ y,xg[k]? =some y:=⟨_,List.getElem?_eq_getElem hlt⟩
       obtain ⟨⟨vn,vt⟩,hv⟩: ∃ v,st.vars[k]? =some v:=⟨_,List.getElem?_eq_getElem (by omega)⟩
       obtain ⟨ga,oa,rfl,ha⟩:=HAR.out (List.ne_nil_of_mem (List.mem_of_getElem? hy))
       obtain ⟨⟨be,ke,y0,hye⟩,y1⟩:=ha k _ hy
       have v1:=(HVV.out k _ hv).2
       have HN:Hid (R=(Ck.arg p (ye,yv) vt && Ck.args p (xg.drop (k+1)) (st.vars.drop (k+1)))):=hide (by
        rw [HI.out.2,List.drop_eq_getElem_cons hlt,List.drop_eq_getElem_cons (by omega:k<st.vars.length)]
        rw [List.getElem?_eq_getElem hlt,Option.some.injEq] at hy
        rw [List.getElem?_eq_getElem (by omega:k<st.vars.length),Option.some.injEq] at hv
        rw [hy,hv]
        rfl)
       have y0:=bsome HI.out.1 y0
       have y1:=bsome HI.out.1 y1
       have hba:Below w3.heap.size w3 (wr.alloc (.cells #[.slice be ye.length ke,.int .i64 yv] 100)):=btrans HI.out.1 ((Below.refl _ _).alloc (Nat.le_refl _) _)
       have HBA:=hide hba
       have hkb:=HKB3.out.keep hba
       obtain ⟨t0,t1,t2,t3,t4,t5⟩:=hkb
       obtain ⟨b0,b1⟩:=agg_two wr (.slice be ye.length ke) (.int .i64 yv) 100
       have s1:=bsome hba HSC.out
       have v1:=bsome hba v1
       have HCC:=hide (HCA.out (ye,yv) be ke vt ((wr.alloc (.cells #[.slice be ye.length ke,.int .i64 yv] 100)).drewN 1) (btrans HB3.out (btrans hba (below_drewN (Below.refl _ _) 1))) ((hye.keep hba).keep (below_drewN (Below.refl _ _) 1)) (HGL.out _ (List.mem_of_getElem? hy)))
       have hkv:k<st.vars.length:=by omega
       have HS: ∀ w',Below w3.heap.size w3 w'→True:=fun _ _=>trivial
       clear hy hv ha hye hba HI HS
       generalize Ck.arg p (ye,yv) vt=B at *
       go_wp2
       generalize wr.alloc (.cells #[.slice be ye.length ke,.int .i64 yv] 100)=wa at *
       generalize wr.heap.size=bw at *
       cases B with
       |true=>
        go_region_held_law (fun w'=>w'.cell? ⟨w.heap.size,0,none⟩=some (.string p.name)∧w'.cell? ⟨w.heap.size,1,none⟩=some (.slice q.av p.vars.length q.cv)∧w'.cell? ⟨w.heap.size,2,none⟩=some (.int .i64 p.params)∧w'.cell? ⟨w.heap.size,3,none⟩=some (.slice q.ab p.blocks.length q.cb)∧w'.cell? ⟨w.heap.size,4,none⟩=some (.slice q.ai p.ins.length q.ci)∧w'.cell? ⟨w.heap.size,5,none⟩=some (.slice (some ⟨g,o,none⟩) ab.length uc')∧w'.cell? ⟨bw,0,none⟩=some (.slice be ye.length ke)∧w'.cell? ⟨bw,1,none⟩=some (.int .i64 yv)∧w'.cell? ⟨w.heap.size+1+1,1,none⟩=some (.slice (some ⟨gv,ov,none⟩) st.vars.length sc)∧w'.cell? ⟨gv,ov+k * 2+1,none⟩=some (.string vt)) (first|exact ⟨by assumption,by assumption,by assumption,by assumption,by assumption,by assumption,by assumption,by assumption,by assumption,by assumption⟩|go_keep) ((go_at_call 85;refine HCC.out.mono ?_;rintro e w5 ⟨rfl,hb5⟩;have hb6:=btrans (below_drewN (Below.refl wa.heap.size wa) 1) hb5;have r0:=bsome hb6 t0;have r1:=bsome hb6 t1;have r2:=bsome hb6 t2;have r3:=bsome hb6 t3;have r4:=bsome hb6 t4;have r5:=bsome hb6 t5;have r6:=bsome hb6 b0;have r7:=bsome hb6 b1;have r8:=bsome hb6 s1;have r9:=bsome hb6 v1;have HB5:=hide (btrans HBA.out hb6);clear hb5 hb6))
        go_wp2
        go_roundw
        case rel=>exact ⟨k+1,by omega,by go_num,hide ⟨HB5.out,by rw [HN.out];rfl⟩⟩
        case measure=>simp [intOf];omega
       |false=>
        go_region_held_law (fun w'=>w'.cell? ⟨w.heap.size,0,none⟩=some (.string p.name)∧w'.cell? ⟨w.heap.size,1,none⟩=some (.slice q.av p.vars.length q.cv)∧w'.cell? ⟨w.heap.size,2,none⟩=some (.int .i64 p.params)∧w'.cell? ⟨w.heap.size,3,none⟩=some (.slice q.ab p.blocks.length q.cb)∧w'.cell? ⟨w.heap.size,4,none⟩=some (.slice q.ai p.ins.length q.ci)∧w'.cell? ⟨w.heap.size,5,none⟩=some (.slice (some ⟨g,o,none⟩) ab.length uc')∧w'.cell? ⟨bw,0,none⟩=some (.slice be ye.length ke)∧w'.cell? ⟨bw,1,none⟩=some (.int .i64 yv)∧w'.cell? ⟨w.heap.size+1+1,1,none⟩=some (.slice (some ⟨gv,ov,none⟩) st.vars.length sc)∧w'.cell? ⟨gv,ov+k * 2+1,none⟩=some (.string vt)) (first|exact ⟨by assumption,by assumption,by assumption,by assumption,by assumption,by assumption,by assumption,by assumption,by assumption,by assumption⟩|go_keep) ((go_at_call 85;refine HCC.out.mono ?_;rintro e w5 ⟨rfl,hb5⟩;have hb6:=btrans (below_drewN (Below.refl wa.heap.size wa) 1) hb5;have r0:=bsome hb6 t0;have r1:=bsome hb6 t1;have r2:=bsome hb6 t2;have r3:=bsome hb6 t3;have r4:=bsome hb6 t4;have r5:=bsome hb6 t5;have r6:=bsome hb6 b0;have r7:=bsome hb6 b1;have r8:=bsome hb6 s1;have r9:=bsome hb6 v1;have HB5:=hide (btrans HBA.out hb6);clear hb5 hb6))
        go_wp2
        go_ret
        exact ⟨by rw [HN.out];rfl,btrans HB3.out HB5.out⟩
      ·obtain rfl:k=xg.length:=by omega
       have HE4:Hid (R=true):=hide (by rw [HI.out.2,List.drop_length];rfl)
       have HB5:=hide (btrans HB3.out HI.out.1)
       clear HI
       go_wp2
       go_ret
       exact ⟨by rw [HE4.out];rfl,HB5.out⟩
    ·clear HVR
     go_loopw [34] (fun iv wr=> ∃ k:Nat,k≤xg.length∧iv= .int .i64 k∧Hid (Below w3.heap.size w3 wr∧R=Ck.args p (xg.drop k) (st.vars.drop k))) (fun iv _=>xg.length - (intOf iv).toNat)
     case atStart=>exact ⟨0,Nat.zero_le _,rfl,hide ⟨Below.refl _ _,HE3.out⟩⟩
     case round=>
      obtain ⟨k,hk,rfl,HI⟩:=hrel
      obtain rfl:k=xg.length:=by omega
      have HE4:Hid (R=true):=hide (by rw [HI.out.2,List.drop_length];rfl)
      have HB5:=hide (btrans HB3.out HI.out.1)
      clear HI
      go_wp2
      go_ret
      exact ⟨by rw [HE4.out];rfl,HB5.out⟩
   ·have dp:((xg.length:Int) !=st.params)=true:=by simpa using hp
    have HE0:Hid (R=false):=hide (by rw [HE2.out,decide_eq_false hp];rfl)
    clear HE2 hp
    go_enter Tryz.func55,Tryz.ntmps55
    go_wp2
    go_ret
    exact ⟨by rw [HE0.out];rfl,btrans HB.out ((Below.refl _ _).alloc (Nat.le_refl _) _)⟩
  ·have d1:decide ((ab.length:Int)≤x.a)=true:=by simp;omega
   have hn:ab[x.a.toNat]? =none:=List.getElem?_eq_none (by omega)
   go_enter Tryz.func55,Tryz.ntmps55
   go_wp2
   go_ret
   exact ⟨by rw [HE.out,hn,decide_eq_true h0];rfl,HB.out⟩
 ·have d0:decide (x.a<0)=true:=by simp;omega
  have HE0:Hid (R=false):=hide (by rw [HE.out,decide_eq_false h0];rfl)
  clear HE h0
  go_enter Tryz.func55,Tryz.ntmps55
  go_wp2
  go_ret
  exact ⟨by rw [HE0.out];rfl,HB.out⟩
def TyOK (p:Cd.Pr):Prop:= ∀ v ∈ p.vars,v.2.size≤100
theorem TyOK.typ {p:Cd.Pr} (h:TyOK p) (v:Int):(Cd.typ p v).size≤100:=by
 unfold Cd.typ
 split
 ·cases hx:p.vars[v.toNat]? with
  |none=>exact Nat.zero_le _
  |some x=>exact h x (List.mem_of_getElem? hx)
 ·exact Nat.zero_le _
set_option maxRecDepth 100000 in
set_option maxHeartbeats 4000000 in
theorem ckFits_any (q:PV) (p:Cd.Pr) (ab:List Cd.Pr) (ua:Option Addr) (uc:Nat) (x:Cd.In) (ae:Option Addr) (ce:Nat) (aa:Option Addr) (ca:Nat) (w:World) (h:PC q p w) (hu:CoR w (.slice ua ab.length uc) ab) (h1:ER w (.slice ae x.e.length ce) x.e) (h2:AgR w (.slice aa x.args.length ca) x.args) (hA:AbOK ab) (hI:InOK x) (hT:TyOK p):
  Calls Tryz.prog 33 #[.agg (q.ck p ua ab.length uc),.agg (icl x ae ce aa ca)] w fun e w'=>e= .returned (.bool (Ck.fits ab p x))∧Below w.heap.size w w':=by
 have hb1:Below w.heap.size w (w.alloc (.cells (q.ck p ua ab.length uc) 62)):=(Below.refl _ _).alloc (Nat.le_refl _) _
 have hb2:=(Below.refl (w.alloc (.cells (q.ck p ua ab.length uc) 62)).heap.size (w.alloc (.cells (q.ck p ua ab.length uc) 62))).alloc (Nat.le_refl _) (.cells (icl x ae ce aa ca) 44)
 have HB:=hide (btrans hb1 hb2)
 have hic:=IC.new 44 (h1.keep hb1) (h2.keep hb1)
 rw [show (w.alloc (.cells (q.ck p ua ab.length uc) 62)).heap.size=w.heap.size+1 by simp] at hic
 have hkb:=(KB.new q p ua ab.length uc w).keep hb2
 have CT:Hid (∀ (v:Int) (w':World),Below w.heap.size w w'→Calls Tryz.prog 51 #[.agg (q.ck p ua ab.length uc),.int .i64 v] w' fun e w''=>e= .returned (.string (Cd.typ p v))∧Below w'.heap.size w' w''):=hide (fun v w' hb=>ckTypeOf_any q p ua ab.length uc v w' (h.keep hb))
 have CN:Hid (∀ (w':World),Below w.heap.size w w'→Calls Tryz.prog 52 #[.agg (q.ck p ua ab.length uc),.slice ae x.e.length ce] w' fun e w''=>e= .returned (.bool (Ck.num p 0 x.e))∧Below w'.heap.size w' w''):=hide (fun w' hb=>ckIsNumber_any q p ua ab.length uc _ x.e w' (h.keep hb) (h1.keep hb) hI.2.1)
 have CI:Hid (∀ (w':World),Calls Tryz.prog 56 #[.agg (q.ck p ua ab.length uc),.int .i64 x.to] w' fun e w''=>e= .returned (.bool (Ck.isI p x.to))∧Below w'.heap.size w' w''):=hide (fun w'=>ckIsIns_any q p ua ab.length uc x.to w')
 have CS:Hid (∀ (w':World),Below w.heap.size w w'→Calls Tryz.prog 55 #[.agg (q.ck p ua ab.length uc),.agg (icl x ae ce aa ca)] w' fun e w''=>e= .returned (.bool (Ck.spawn ab p x))∧Below w'.heap.size w' w''):=hide (fun w' hb=>ckSpawn_any q p ab ua uc x ae ce aa ca w' (h.keep hb) (hu.keep hb) (h1.keep hb) (h2.keep hb) hA hI)
 have za:(Cd.typ p x.a).size≤100:=hT.typ _
 have zb:(Cd.typ p x.b).size≤100:=hT.typ _
 have zt:x.t.size≤1000:=hI.1
 have HE:Hid (Ck.fits ab p x=_):=hide (by unfold Ck.fits;rfl)
 generalize Ck.fits ab p x=R at *
 generalize Ck.spawn ab p x=SP at *
 generalize Ck.isI p x.to=GO at *
 generalize Ck.num p 0 x.e=NU at *
 have CA:=hide (CT.out x.a)
 have CB:=hide (CT.out x.b)
 generalize Cd.typ p x.a=A at *
 generalize Cd.typ p x.b=B at *
 obtain ⟨t0,t1,t2,t3,t4,t5⟩:=hkb
 have i0:=hic.c0
 have i1:=hic.c1
 have i2:=hic.c2
 have i3:=hic.c3
 have i4:=hic.c4
 have i5:=hic.c5
 have i6:=hic.c6
 have i7:=hic.c7
 have i8:=hic.c8
 have i9:=hic.c9
 have i10:=hic.c10
 clear h hu h1 h2 hb1 hb2 hic hI hT hA CT
 obtain ⟨op,xa,xb,xn,xto,xt,xe,xg,xbk,xlp,xat⟩:=x
 dsimp only at *
 unfold PV.ck icl at *
 have kc1:Hid (Below w.heap.size w (((w.alloc (.cells #[.string p.name,.slice q.av p.vars.length q.cv,.int .i64 p.params,.slice q.ab p.blocks.length q.cb,.slice q.ai p.ins.length q.ci,.slice ua ab.length uc] 62)).alloc (.cells #[.int .i64 op,.int .i64 xa,.int .i64 xb,.int .i64 xn,.int .i64 xto,.string xt,.slice ae xe.length ce,.slice aa xg.length ca,.int .i64 xbk,.int .i64 xlp,.int .i64 xat] 44)).drew)):=hide (below_drewN HB.out 1)
 have kd1:Hid (Below ((w.alloc (.cells #[.string p.name,.slice q.av p.vars.length q.cv,.int .i64 p.params,.slice q.ab p.blocks.length q.cb,.slice q.ai p.ins.length q.ci,.slice ua ab.length uc] 62)).alloc (.cells #[.int .i64 op,.int .i64 xa,.int .i64 xb,.int .i64 xn,.int .i64 xto,.string xt,.slice ae xe.length ce,.slice aa xg.length ca,.int .i64 xbk,.int .i64 xlp,.int .i64 xat] 44)).heap.size ((w.alloc (.cells #[.string p.name,.slice q.av p.vars.length q.cv,.int .i64 p.params,.slice q.ab p.blocks.length q.cb,.slice q.ai p.ins.length q.ci,.slice ua ab.length uc] 62)).alloc (.cells #[.int .i64 op,.int .i64 xa,.int .i64 xb,.int .i64 xn,.int .i64 xto,.string xt,.slice ae xe.length ce,.slice aa xg.length ca,.int .i64 xbk,.int .i64 xlp,.int .i64 xat] 44)) ((w.alloc (.cells #[.string p.name,.slice q.av p.vars.length q.cv,.int .i64 p.params,.slice q.ab p.blocks.length q.cb,.slice q.ai p.ins.length q.ci,.slice ua ab.length uc] 62)).alloc (.cells #[.int .i64 op,.int .i64 xa,.int .i64 xb,.int .i64 xn,.int .i64 xto,.string xt,.slice ae xe.length ce,.slice aa xg.length ca,.int .i64 xbk,.int .i64 xlp,.int .i64 xat] 44)).drew):=hide (below_drewN (Below.refl _ _) 1)
 go_enter Tryz.func33,Tryz.ntmps33
 go_wp2
 generalize ((w.alloc (.cells #[.string p.name,.slice q.av p.vars.length q.cv,.int .i64 p.params,.slice q.ab p.blocks.length q.cb,.slice q.ai p.ins.length q.ci,.slice ua ab.length uc] 62)).alloc (.cells #[.int .i64 op,.int .i64 xa,.int .i64 xb,.int .i64 xn,.int .i64 xto,.string xt,.slice ae xe.length ce,.slice aa xg.length ca,.int .i64 xbk,.int .i64 xlp,.int .i64 xat] 44))=w1 at *
 go_region_held_law (fun w'=>w'.cell? ⟨w.heap.size,0,none⟩=some (.string p.name)∧w'.cell? ⟨w.heap.size,1,none⟩=some (.slice q.av p.vars.length q.cv)∧w'.cell? ⟨w.heap.size,2,none⟩=some (.int .i64 p.params)∧w'.cell? ⟨w.heap.size,3,none⟩=some (.slice q.ab p.blocks.length q.cb)∧w'.cell? ⟨w.heap.size,4,none⟩=some (.slice q.ai p.ins.length q.ci)∧w'.cell? ⟨w.heap.size,5,none⟩=some (.slice ua ab.length uc)∧w'.cell? ⟨w.heap.size+1,1,none⟩=some (.int .i64 xa)∧w'.cell? ⟨w.heap.size+1,2,none⟩=some (.int .i64 xb)) (first|exact ⟨by assumption,by assumption,by assumption,by assumption,by assumption,by assumption,by assumption,by assumption⟩|go_keep) ((go_at_call 51;first|((with_reducible refine (CA.out _ (by first|exact kc2.out|exact kc1.out)).mono ?_);rintro e w3 ⟨rfl,hb3⟩;have kc2:=hide (btrans (by first|exact kc2.out|exact kc1.out) hb3);have kd2:=hide (btrans (by first|exact kd2.out|exact kd1.out) hb3);have r0:=bsome kd2.out t0;have r1:=bsome kd2.out t1;have r2:=bsome kd2.out t2;have r3:=bsome kd2.out t3;have r4:=bsome kd2.out t4;have r5:=bsome kd2.out t5;have j1:=bsome kd2.out i1;have j2:=bsome kd2.out i2;clear hb3)|((with_reducible refine (CB.out _ (by first|exact kc2.out|exact kc1.out)).mono ?_);rintro e w3 ⟨rfl,hb3⟩;have kc2:=hide (btrans (by first|exact kc2.out|exact kc1.out) hb3);have kd2:=hide (btrans (by first|exact kd2.out|exact kd1.out) hb3);have r0:=bsome kd2.out t0;have r1:=bsome kd2.out t1;have r2:=bsome kd2.out t2;have r3:=bsome kd2.out t3;have r4:=bsome kd2.out t4;have r5:=bsome kd2.out t5;have j1:=bsome kd2.out i1;have j2:=bsome kd2.out i2;clear hb3)))
 all_goals
  have j0:=bsome kd2.out i0
  have j3:=bsome kd2.out i3
  have j4:=bsome kd2.out i4
  have j5:=bsome kd2.out i5
  have j6:=bsome kd2.out i6
  have j7:=bsome kd2.out i7
  have j8:=bsome kd2.out i8
  have j9:=bsome kd2.out i9
  have j10:=bsome kd2.out i10
  by_cases e1:op=1
  ·subst e1
   have HE2:Hid (R=(Ck.eqT A Ck.ti && NU)):=hide HE.out
   clear HE
   have HE2:=hide (HE2.out.trans (congrArg (· && _) (Ck.eqT_lit A #[105])))
   change Hid (R=((A.toList == [105]) && _)) at HE2
   cases dc:(A.toList == [105]) with
   |true=>
    rw [dc] at HE2
    go_wp2_with fail
    refine (CN.out _ kc2.out).mono ?_
    rintro e w6 ⟨rfl,hb6⟩
    have HB6:=hide (btrans kc2.out hb6)
    clear hb6
    go_wp2
    go_ret
    exact ⟨by rw [HE2.out];(first|rfl|simp),HB6.out⟩
   |false=>
    rw [dc] at HE2
    go_wp2
    go_ret
    exact ⟨by rw [HE2.out];(first|rfl|simp),kc2.out⟩
  by_cases e12:op=12
  ·subst e12
   have HE2:Hid (R=(Ck.eqT A Ck.ti && NU)):=hide HE.out
   clear HE
   have HE2:=hide (HE2.out.trans (congrArg (· && _) (Ck.eqT_lit A #[105])))
   change Hid (R=((A.toList == [105]) && _)) at HE2
   cases dc:(A.toList == [105]) with
   |true=>
    rw [dc] at HE2
    go_wp2_with fail
    refine (CN.out _ kc2.out).mono ?_
    rintro e w6 ⟨rfl,hb6⟩
    have HB6:=hide (btrans kc2.out hb6)
    clear hb6
    go_wp2
    go_ret
    exact ⟨by rw [HE2.out];(first|rfl|simp),HB6.out⟩
   |false=>
    rw [dc] at HE2
    go_wp2
    go_ret
    exact ⟨by rw [HE2.out];(first|rfl|simp),kc2.out⟩
  by_cases e2:op=2
  ·subst e2
   have HE2:Hid (R=(NU)):=hide HE.out
   clear HE
   go_wp2_with fail
   refine (CN.out _ kc2.out).mono ?_
   rintro e w6 ⟨rfl,hb6⟩
   have HB6:=hide (btrans kc2.out hb6)
   clear hb6
   go_wp2
   go_ret
   exact ⟨by rw [HE2.out];(first|rfl|simp),HB6.out⟩
  by_cases e3:op=3
  ·subst e3
   have HE2:Hid (R=((decide (1≤xn) && decide (xn≤5)) && Ck.eqT A (⟨#[115]⟩++xt) && Ck.eqT B (⟨#[114]⟩++xt))):=hide HE.out
   clear HE
   unfold Ck.eqT at HE2
   cases dc:decide (1≤xn) with
   |true=>
    rw [dc] at HE2
    cases dc:decide (xn≤5) with
    |true=>
     rw [dc] at HE2
     cases dc:(A.toList == ((⟨#[115]⟩:ByteArray)++xt).toList) with
     |true=>
      rw [dc] at HE2
      go_wp2
      go_ret
      exact ⟨by rw [HE2.out];(first|rfl|simp),kc2.out⟩
     |false=>
      rw [dc] at HE2
      go_wp2
      go_ret
      exact ⟨by rw [HE2.out];(first|rfl|simp),kc2.out⟩
    |false=>
     rw [dc] at HE2
     go_wp2
     go_ret
     exact ⟨by rw [HE2.out];(first|rfl|simp),kc2.out⟩
   |false=>
    rw [dc] at HE2
    go_wp2
    go_ret
    exact ⟨by rw [HE2.out];(first|rfl|simp),kc2.out⟩
  by_cases e4:op=4
  ·subst e4
   have HE2:Hid (R=((xa !=xb) && Ck.eqT A B && Ck.pfx 115 B)):=hide HE.out
   clear HE
   unfold Ck.eqT Ck.pfx at HE2
   cases dc:(xa !=xb) with
   |true=>
    rw [dc] at HE2
    cases dc:(A.toList == B.toList) with
    |true=>
     rw [dc] at HE2
     go_wp2_with fail
     refine (lSends_any B _).mono ?_
     rintro e w6 ⟨rfl,rfl⟩
     go_wp2
     go_ret
     exact ⟨by rw [HE2.out];(first|rfl|simp),kc2.out⟩
    |false=>
     rw [dc] at HE2
     go_wp2
     go_ret
     exact ⟨by rw [HE2.out];(first|rfl|simp),kc2.out⟩
   |false=>
    rw [dc] at HE2
    go_wp2
    go_ret
    exact ⟨by rw [HE2.out];(first|rfl|simp),kc2.out⟩
  by_cases e5:op=5
  ·subst e5
   have HE2:Hid (R=(Ck.eqT A ⟨#[115,105]⟩ && NU)):=hide HE.out
   clear HE
   have HE2:=hide (HE2.out.trans (congrArg (· && _) (Ck.eqT_lit A #[115,105])))
   change Hid (R=((A.toList == [115,105]) && _)) at HE2
   cases dc:(A.toList == [115,105]) with
   |true=>
    rw [dc] at HE2
    go_wp2_with fail
    refine (CN.out _ kc2.out).mono ?_
    rintro e w6 ⟨rfl,hb6⟩
    have HB6:=hide (btrans kc2.out hb6)
    clear hb6
    go_wp2
    go_ret
    exact ⟨by rw [HE2.out];(first|rfl|simp),HB6.out⟩
   |false=>
    rw [dc] at HE2
    go_wp2
    go_ret
    exact ⟨by rw [HE2.out];(first|rfl|simp),kc2.out⟩
  by_cases e6:op=6
  ·subst e6
   have HE2:Hid (R=(Cd.endT B && Ck.eqT A (⟨#[115]⟩++B))):=hide HE.out
   clear HE
   unfold Ck.eqT at HE2
   have CE:=hide (fun w'=>lIsEnd_any B w')
   cases dc:Cd.endT B with
   |true=>
    rw [dc] at HE2 CE
    go_wp2_with fail
    refine (CE.out _).mono ?_
    rintro e w6 ⟨rfl,rfl⟩
    go_wp2
    go_ret
    exact ⟨by rw [HE2.out];(first|rfl|simp),kc2.out⟩
   |false=>
    rw [dc] at HE2 CE
    go_wp2_with fail
    refine (CE.out _).mono ?_
    rintro e w6 ⟨rfl,rfl⟩
    go_wp2
    go_ret
    exact ⟨by rw [HE2.out];(first|rfl|simp),kc2.out⟩
  by_cases e7:op=7
  ·subst e7
   have HE2:Hid (R=(Ck.pfx 115 A)):=hide HE.out
   clear HE
   unfold Ck.pfx at HE2
   go_wp2_with fail
   refine (lSends_any A _).mono ?_
   rintro e w6 ⟨rfl,rfl⟩
   go_wp2
   go_ret
   exact ⟨by rw [HE2.out];(first|rfl|simp),kc2.out⟩
  by_cases e8:op=8
  ·subst e8
   have HE2:Hid (R=(Ck.pfx 114 A)):=hide HE.out
   clear HE
   unfold Ck.pfx at HE2
   go_wp2_with fail
   refine (lReceives_any A _).mono ?_
   rintro e w6 ⟨rfl,rfl⟩
   go_wp2
   go_ret
   exact ⟨by rw [HE2.out];(first|rfl|simp),kc2.out⟩
  by_cases e9:op=9
  ·subst e9
   have HE2:Hid (R=(Ck.pfx 114 A)):=hide HE.out
   clear HE
   unfold Ck.pfx at HE2
   go_wp2_with fail
   refine (lReceives_any A _).mono ?_
   rintro e w6 ⟨rfl,rfl⟩
   go_wp2
   go_ret
   exact ⟨by rw [HE2.out];(first|rfl|simp),kc2.out⟩
  by_cases e10:op=10
  ·subst e10
   have HE2:Hid (R=(SP)):=hide HE.out
   clear HE
   go_wp2_with fail
   refine (CS.out _ kc2.out).mono ?_
   rintro e w6 ⟨rfl,hb6⟩
   have HB6:=hide (btrans kc2.out hb6)
   clear hb6
   go_wp2
   go_ret
   exact ⟨by rw [HE2.out];(first|rfl|simp),HB6.out⟩
  by_cases e11:op=11
  ·subst e11
   have HE2:Hid (R=(Ck.eqT B (⟨#[114]⟩++A) && GO)):=hide HE.out
   clear HE
   unfold Ck.eqT at HE2
   cases dc:(B.toList == ((⟨#[114]⟩:ByteArray)++A).toList) with
   |true=>
    rw [dc] at HE2
    go_wp2_with fail
    refine (CI.out _).mono ?_
    rintro e w6 ⟨rfl,hb6⟩
    have HB6:=hide (btrans kc2.out hb6)
    clear hb6
    go_wp2
    go_ret
    exact ⟨by rw [HE2.out];(first|rfl|simp),HB6.out⟩
   |false=>
    rw [dc] at HE2
    go_wp2
    go_ret
    exact ⟨by rw [HE2.out];(first|rfl|simp),kc2.out⟩
  by_cases e13:op=13
  ·subst e13
   have HE2:Hid (R=(Ck.eqT A Ck.ti && GO)):=hide HE.out
   clear HE
   have HE2:=hide (HE2.out.trans (congrArg (· && _) (Ck.eqT_lit A #[105])))
   change Hid (R=((A.toList == [105]) && _)) at HE2
   cases dc:(A.toList == [105]) with
   |true=>
    rw [dc] at HE2
    go_wp2_with fail
    refine (CI.out _).mono ?_
    rintro e w6 ⟨rfl,hb6⟩
    have HB6:=hide (btrans kc2.out hb6)
    clear hb6
    go_wp2
    go_ret
    exact ⟨by rw [HE2.out];(first|rfl|simp),HB6.out⟩
   |false=>
    rw [dc] at HE2
    go_wp2
    go_ret
    exact ⟨by rw [HE2.out];(first|rfl|simp),kc2.out⟩
  by_cases e14:op=14
  ·subst e14
   have HE2:Hid (R=(NU && GO)):=hide HE.out
   clear HE
   cases NU with
   |true=>
    go_wp2_with fail
    refine (CN.out _ kc2.out).mono ?_
    rintro e w5 ⟨rfl,hb5⟩
    have kc3:=hide (btrans kc2.out hb5)
    have kd3:=btrans kd2.out hb5
    have p0:=bsome kd3 t0
    have p1:=bsome kd3 t1
    have p2:=bsome kd3 t2
    have p3:=bsome kd3 t3
    have p4:=bsome kd3 t4
    have p5:=bsome kd3 t5
    have p6:=bsome kd3 i4
    clear hb5 kd3
    go_wp2_with fail
    refine (CI.out _).mono ?_
    rintro e w6 ⟨rfl,hb6⟩
    have HB6:=hide (btrans kc3.out hb6)
    clear hb6
    go_wp2
    go_ret
    exact ⟨by rw [HE2.out];(first|rfl|simp),HB6.out⟩
   |false=>
    go_wp2_with fail
    refine (CN.out _ kc2.out).mono ?_
    rintro e w6 ⟨rfl,hb6⟩
    have HB6:=hide (btrans kc2.out hb6)
    clear hb6
    go_wp2
    go_ret
    exact ⟨by rw [HE2.out];(first|rfl|simp),HB6.out⟩
  by_cases e15:op=15
  ·subst e15
   have HE2:Hid (R=(GO)):=hide HE.out
   clear HE
   go_wp2_with fail
   refine (CI.out _).mono ?_
   rintro e w6 ⟨rfl,hb6⟩
   have HB6:=hide (btrans kc2.out hb6)
   clear hb6
   go_wp2
   go_ret
   exact ⟨by rw [HE2.out];(first|rfl|simp),HB6.out⟩
  by_cases e16:op=16
  ·subst e16
   have HE2:Hid (R=(Cd.endT A)):=hide HE.out
   clear HE
   go_wp2_with fail
   refine (lIsEnd_any A _).mono ?_
   rintro e w6 ⟨rfl,rfl⟩
   go_wp2
   go_ret
   exact ⟨by rw [HE2.out];(first|rfl|simp),kc2.out⟩
  have HE2:Hid (R=(op == 17)):=hide (by
   rw [HE.out]
   simp only [e1,e12,e2,e3,e4,e5,e6,e7,e8,e9,e10,e11,e13,e14,e15,e16,or_false,if_false])
  clear HE
  have f1:(op == 1)=false:=by simpa using e1
  have f12:(op == 12)=false:=by simpa using e12
  have f2:(op == 2)=false:=by simpa using e2
  have f3:(op == 3)=false:=by simpa using e3
  have f4:(op == 4)=false:=by simpa using e4
  have f5:(op == 5)=false:=by simpa using e5
  have f6:(op == 6)=false:=by simpa using e6
  have f7:(op == 7)=false:=by simpa using e7
  have f8:(op == 8)=false:=by simpa using e8
  have f9:(op == 9)=false:=by simpa using e9
  have f10:(op == 10)=false:=by simpa using e10
  have f11:(op == 11)=false:=by simpa using e11
  have f13:(op == 13)=false:=by simpa using e13
  have f14:(op == 14)=false:=by simpa using e14
  have f15:(op == 15)=false:=by simpa using e15
  have f16:(op == 16)=false:=by simpa using e16
  clear e1 e12 e2 e3 e4 e5 e6 e7 e8 e9 e10 e11 e13 e14 e15 e16
  go_wp2
  go_ret
  exact ⟨by rw [HE2.out];(first|rfl|simp),kc2.out⟩
end Go.Proofs.YtcdcoiobpbdmpaaGreatDoor
