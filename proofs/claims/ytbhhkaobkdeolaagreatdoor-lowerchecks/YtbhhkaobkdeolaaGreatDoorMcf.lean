import Derived.Test.YtbhhkaobkdeolaaGreatDoorMcd
import Derived.BigQuiet
namespace Go.Proofs.YtbhhkaobkdeolaaGreatDoor
open Go.RowKit
def GHi (p:List Cd.In) (k:Nat):Prop:= ∀ (i:Nat) x,i<k→p[i]? =some x→x.t.size≤100∧x.args.length≤100∧x.e.length≤1000∧ ∀ y ∈ x.args,y.1.length≤1000
theorem GHi.next {p:List Cd.In} {k:Nat} {x:Cd.In} (h:GHi p k) (hx:p[k]? =some x) (h2:x.t.size≤100∧x.args.length≤100∧x.e.length≤1000∧ ∀ y ∈ x.args,y.1.length≤1000):GHi p (k+1):=by
 intro i y hi hy
 by_cases he:i=k
 ·subst he;rw [hx] at hy;cases hy;exact h2
 ·exact h i y (by omega) hy
def GH (sn:Nat) (vs:List (ByteArray × ByteArray)) (nb:Nat) (p:List Cd.In):Prop:=sn≤1000∧vs.length≤5000∧nb≤5000∧p.length≤5000∧GHi p p.length∧ ∀ x ∈ vs,x.2.size≤100
set_option maxRecDepth 100000 in
set_option maxHeartbeats 2000000 in
theorem great_in5 (sn:ByteArray) (av:Option Addr) (kv:Nat) (vs:List (ByteArray × ByteArray)) (pr:Value) (ab:Option Addr) (nb kb:Nat) (a:Option Addr) (p:List Cd.In) (cc g o:Nat) (w:World)
  (hne:p ≠ []→a=some ⟨g,o,none⟩)
  (hvr:vs ≠ []→ ∃ g o,av=some ⟨g,o,none⟩∧ ∀ (i:Nat) x,vs[i]? =some x→w.cell? ⟨g,o+i * 2,none⟩=some (.string x.1)∧w.cell? ⟨g,o+i * 2+1,none⟩=some (.string x.2))
  (hrow: ∀ (i:Nat) x,p[i]? =some x→ ∃ ae ce aa ca,IC w g (o+i * 11) x ae ce aa ca):
  Calls Tryz.prog 11 #[.agg #[.string sn,.slice av vs.length kv,pr,.slice ab nb kb,.slice a p.length cc],.int .i64 5000] w fun e w'=> ∃ q:Bool,e= .returned (.bool q)∧(q=false→GH sn.size vs nb p)∧Below w.heap.size w w':=by
 have HB0:Hid (Below w.heap.size w (w.alloc (.cells #[.string sn,.slice av vs.length kv,pr,.slice ab nb kb,.slice a p.length cc] 43))):=hide ((Below.refl _ _).alloc (Nat.le_refl _) _)
 have HNE:=hide hne
 have HVR:=hide hvr
 have HRW:=hide hrow
 clear hne hvr hrow
 by_cases g1:1000<sn.size
 ·have d1:decide ((1000:Int)<(sn.size:Int))=true:=by simp;omega
  go_enter Tryz.func11,Tryz.ntmps11
  go_wp2
  go_ret
  exact ⟨true,rfl,(fun e=>by cases e),HB0.out⟩
 have d1:decide ((1000:Int)<(sn.size:Int))=false:=by simp;omega
 by_cases g2:5000<vs.length
 ·have d2:decide ((5000:Int)<(vs.length:Int))=true:=by simp;omega
  go_enter Tryz.func11,Tryz.ntmps11
  go_wp2
  go_ret
  exact ⟨true,rfl,(fun e=>by cases e),HB0.out⟩
 have d2:decide ((5000:Int)<(vs.length:Int))=false:=by simp;omega
 by_cases g3:5000<nb
 ·have d3:decide ((5000:Int)<(nb:Int))=true:=by simp;omega
  go_enter Tryz.func11,Tryz.ntmps11
  go_wp2
  go_ret
  exact ⟨true,rfl,(fun e=>by cases e),HB0.out⟩
 have d3:decide ((5000:Int)<(nb:Int))=false:=by simp;omega
 by_cases g4:5000<p.length
 ·have d4:decide ((5000:Int)<(p.length:Int))=true:=by simp;omega
  go_enter Tryz.func11,Tryz.ntmps11
  go_wp2
  go_ret
  exact ⟨true,rfl,(fun e=>by cases e),HB0.out⟩
 have d4:decide ((5000:Int)<(p.length:Int))=false:=by simp;omega
 have hfew:p.length≤5000:=by omega
 have HF:Hid (sn.size≤1000∧vs.length≤5000∧nb≤5000∧p.length≤5000):=hide ⟨by omega,by omega,by omega,by omega⟩
 go_enter Tryz.func11,Tryz.ntmps11
 go_wp2
 have x1:(w.alloc (.cells #[.string sn,.slice av vs.length kv,pr,.slice ab nb kb,.slice a p.length cc] 43)).cell? ⟨w.heap.size,1,none⟩=some (.slice av vs.length kv):=by simp [go_sem]
 have x4:(w.alloc (.cells #[.string sn,.slice av vs.length kv,pr,.slice ab nb kb,.slice a p.length cc] 43)).cell? ⟨w.heap.size,4,none⟩=some (.slice a p.length cc):=by simp [go_sem]
 generalize w.alloc (.cells #[.string sn,.slice av vs.length kv,pr,.slice ab nb kb,.slice a p.length cc] 43)=w1 at *
 go_loopw [6] (fun iv wr=> ∃ k:Nat,k≤vs.length∧iv= .int .i64 k∧Hid (∀ x ∈ vs.take k,x.2.size≤100)∧ ∃ n,wr=w1.drewN n) (fun iv _=>vs.length - (intOf iv).toNat)
 case atStart=>exact ⟨0,Nat.zero_le _,rfl,hide (by simp),0,rfl⟩
 case round=>
  obtain ⟨k,hk,rfl,HTS,n,rfl⟩:=hrel
  by_cases hlt:k<vs.length
  ·obtain ⟨gv,ov,rfl,hv⟩:=HVR.out (List.ne_nil_of_length_pos (by omega))
   obtain ⟨⟨s,t⟩,hst⟩: ∃ x,vs[k]? =some x:=⟨_,List.getElem?_eq_getElem hlt⟩
   obtain ⟨h5,h6⟩:=hv k _ hst
   dsimp only at h5 h6
   have HST:=hide hst
   have z5:=bsome HB0.out h5
   have z6:=bsome HB0.out h6
   clear hv h5 h6 hst
   by_cases k1:100<s.size
   ·have e1:decide ((100:Int)<(s.size:Int))=true:=by simp;omega
    go_wp2
    go_ret
    exact ⟨true,rfl,(fun e=>by cases e),below_drewN HB0.out _⟩
   have e1:decide ((100:Int)<(s.size:Int))=false:=by simp;omega
   by_cases k2:100<t.size
   ·have e2:decide ((100:Int)<(t.size:Int))=true:=by simp;omega
    go_wp2
    go_ret
    exact ⟨true,rfl,(fun e=>by cases e),below_drewN HB0.out _⟩
   have e2:decide ((100:Int)<(t.size:Int))=false:=by simp;omega
   go_wp2
   go_roundw
   case rel=>exact ⟨k+1,by omega,by go_num,hide (fun x hx=>by
    have hst:=HST.out
    rw [←List.take_append_getElem hlt,List.mem_append,List.mem_singleton] at hx
    rw [List.getElem?_eq_getElem hlt,Option.some.injEq] at hst
    rcases hx with hx|hx
    ·exact HTS.out x hx
    ·rw [hx,hst];dsimp only;omega),_,rfl⟩
   case measure=>simp [intOf];omega
  ·have HTV:Hid (∀ x ∈ vs,x.2.size≤100):=hide (fun x hx=>HTS.out x (by rw [List.take_of_length_le (by omega)];exact hx))
   have HB1:Hid (Below w.heap.size w (w1.drewN n)):=hide (below_drewN HB0.out _)
   have y4:(w1.drewN n).cell? ⟨w.heap.size,4,none⟩=some (.slice a p.length cc):=x4
   go_wp2
   generalize w1.drewN n=w2 at *
   clear x1 x4 HB0
   go_loopw [5,7] (fun nv' iv wr=> ∃ (m k:Nat),nv'= .int .i64 m∧m≤100000∧k≤p.length∧iv= .int .i64 k∧Hid (GHi p k)∧Hid (Below w2.heap.size w2 wr)) (fun _ iv _=>p.length - (intOf iv).toNat)
   case atStart=>exact ⟨0,0,rfl,by omega,by omega,rfl,hide (fun i x hi=>absurd hi (Nat.not_lt_zero _)),hide (Below.refl _ _)⟩
   case round=>
    obtain ⟨m,k,rfl,hm,hk,rfl,HG,HB⟩:=hrel
    have z4:=bsome HB.out y4
    have hzl:=World.block_lt_of_cell? _ _ z4
    dsimp only at hzl
    by_cases hlt:k<p.length
    ·obtain ⟨x,hx⟩: ∃ x,p[k]? =some x:=⟨_,List.getElem?_eq_getElem hlt⟩
     obtain ⟨ae,ce,aa,ca,h0,h1,h2,h3,h4,h5,h6,h7,h8,h9,h10,-,hargs⟩:=HRW.out k x hx
     obtain ⟨xop,u1,u2,u3,xto,u5,xe,xargs,u8,u9,u10⟩:=x
     dsimp only at h0 h1 h2 h3 h4 h5 h6 h7 h8 h9 h10 hargs
     have HX:=hide hx
     have hca:=HNE.out (by rintro rfl;simp at hlt)
     rw [hca] at z4
     have HBw:=hide (btrans HB1.out HB.out)
     have q0:=bsome HBw.out h0
     have q1:=bsome HBw.out h1
     have q2:=bsome HBw.out h2
     have q3:=bsome HBw.out h3
     have q4:=bsome HBw.out h4
     have q5:=bsome HBw.out h5
     have q6:=bsome HBw.out h6
     have q7:=bsome HBw.out h7
     have q8:=bsome HBw.out h8
     have q9:=bsome HBw.out h9
     have q10:=bsome HBw.out h10
     have hgl:=World.block_lt_of_cell? _ _ q0
     dsimp only at hgl
     have HAR:Hid (0<xargs.length→ ∃ g7 o7,aa=some ⟨g7,o7,none⟩∧ ∀ (j:Nat) y,xargs[j]? =some y→ ∃ a k,w.cell? ⟨g7,o7+j * 2,none⟩=some (.slice a y.1.length k)):=hide (fun hn=>by
      obtain ⟨a',c',e',h'⟩:=hargs
      obtain ⟨rfl,-,rfl⟩:aa=a'∧True∧ca=c':=by simpa using e'
      obtain ⟨g7,o7,rfl,h8'⟩:=h' (by rintro rfl;simp at hn)
      refine ⟨g7,o7,rfl,fun j y hy=> ?_⟩
      obtain ⟨⟨a9,c9,h9',-⟩,-⟩:=h8' j _ hy
      exact ⟨_,_,h9'⟩)
     clear hx hca h0 h1 h2 h3 h4 h5 h6 h7 h8 h9 h10 hargs
     by_cases k1:100<u5.size
     ·have e1:decide ((100:Int)<(u5.size:Int))=true:=by simp;omega
      go_wp2
      go_ret
      exact ⟨true,rfl,(fun e=>by cases e),HBw.out.alloc HBw.out.size _⟩
     have e1:decide ((100:Int)<(u5.size:Int))=false:=by simp;omega
     by_cases k2:100<xargs.length
     ·have e2:decide ((100:Int)<(xargs.length:Int))=true:=by simp;omega
      go_wp2
      go_ret
      exact ⟨true,rfl,(fun e=>by cases e),HBw.out.alloc HBw.out.size _⟩
     have e2:decide ((100:Int)<(xargs.length:Int))=false:=by simp;omega
     by_cases k3:1000<xe.length
     ·have e3:decide ((1000:Int)<(xe.length:Int))=true:=by simp;omega
      go_wp2
      go_ret
      exact ⟨true,rfl,(fun e=>by cases e),HBw.out.alloc HBw.out.size _⟩
     have e3:decide ((1000:Int)<(xe.length:Int))=false:=by simp;omega
     have HG2:Hid ((∀ y ∈ xargs,y.1.length≤1000)→GHi p (k+1)):=hide (fun hy=>HG.out.next HX.out ⟨by dsimp only;omega,by dsimp only;omega,by dsimp only;omega,hy⟩)
     clear HX
     obtain ⟨wo,hwo⟩: ∃ q,q=wr:=⟨_,rfl⟩
     subst hwo
     go_wp2
     have e7:(wo.alloc (.cells #[.int .i64 xop,.int .i64 u1,.int .i64 u2,.int .i64 u3,.int .i64 xto,.string u5,.slice ae xe.length ce,.slice aa xargs.length ca,.int .i64 u8,.int .i64 u9,.int .i64 u10] 47)).cell? ⟨wo.heap.size,7,none⟩=some (.slice aa xargs.length ca):=by simp [go_sem]
     have HB6:Hid (Below wo.heap.size wo (wo.alloc (.cells #[.int .i64 xop,.int .i64 u1,.int .i64 u2,.int .i64 u3,.int .i64 xto,.string u5,.slice ae xe.length ce,.slice aa xargs.length ca,.int .i64 u8,.int .i64 u9,.int .i64 u10] 47))):=hide ((Below.refl _ _).alloc (Nat.le_refl _) _)
     generalize wo.alloc (.cells #[.int .i64 xop,.int .i64 u1,.int .i64 u2,.int .i64 u3,.int .i64 xto,.string u5,.slice ae xe.length ce,.slice aa xargs.length ca,.int .i64 u8,.int .i64 u9,.int .i64 u10] 47)=w6 at *
     clear q0 q1 q2 q3 q4 q5 q6 q7 q8 q9 q10
     go_loopw [5,9] (fun nv' jv wr=> ∃ (m' j:Nat),nv'= .int .i64 m'∧m'≤101000+1000 * j∧j≤xargs.length∧jv= .int .i64 j∧Hid (∀ y ∈ xargs.take j,y.1.length≤1000)∧ ∃ n,wr=w6.drewN n) (fun _ jv _=>xargs.length - (intOf jv).toNat)
     case atStart=>exact ⟨m+xe.length,0,by go_num,by omega,by omega,rfl,hide (by simp),0,rfl⟩
     case round=>
      obtain ⟨m',j,rfl,hm',hj,rfl,HYS,n',rfl⟩:=hrel
      by_cases hlt7:j<xargs.length
      ·obtain ⟨g7,o7,rfl,hcell⟩:=HAR.out (by omega)
       obtain ⟨⟨ys,yv⟩,hyy⟩: ∃ y,xargs[j]? =some y:=⟨_,List.getElem?_eq_getElem hlt7⟩
       obtain ⟨a0',kk,hc⟩:=hcell j _ hyy
       dsimp only at hc
       have HYY:=hide hyy
       clear hyy
       obtain ⟨nn,hnn⟩: ∃ nn,ys.length=nn:=⟨_,rfl⟩
       rw [hnn] at hc
       have HNN:=hide hnn
       clear hnn
       have z7:=bsome HB6.out (bsome HBw.out hc)
       clear hcell hc
       by_cases k4:1000<nn
       ·have e4:decide ((1000:Int)<(nn:Int))=true:=by simp;omega
        go_wp2
        go_ret
        exact ⟨true,rfl,(fun e=>by cases e),below_drewN (btrans HBw.out HB6.out) _⟩
       have e4:decide ((1000:Int)<(nn:Int))=false:=by simp;omega
       go_wp2
       go_roundw
       case rel=>exact ⟨m'+nn,j+1,by go_num,by omega,by omega,by go_num,hide (fun y hy=>by
        have hst:=HYY.out
        rw [←List.take_append_getElem hlt7,List.mem_append,List.mem_singleton] at hy
        rw [List.getElem?_eq_getElem hlt7,Option.some.injEq] at hst
        rcases hy with hy|hy
        ·exact HYS.out y hy
        ·rw [hy,hst];dsimp only;rw [HNN.out];omega),_,rfl⟩
       case measure=>simp [intOf];omega
      ·by_cases k5:100000<m'
       ·have e5:decide ((100000:Int)<(m':Int))=true:=by simp;omega
        go_wp2
        go_ret
        exact ⟨true,rfl,(fun e=>by cases e),below_drewN (btrans HBw.out HB6.out) _⟩
       have e5:decide ((100000:Int)<(m':Int))=false:=by simp;omega
       go_wp2
       go_roundw
       case rel=>exact ⟨m',k+1,rfl,by omega,by omega,by go_num,hide (HG2.out (fun y hy=>HYS.out y (by rw [List.take_of_length_le (by omega)];exact hy))),hide (below_drewN (btrans HB.out HB6.out) _)⟩
       case measure=>simp [intOf];omega
    ·have HGe:Hid (GHi p p.length):=hide (by obtain rfl:k=p.length:=by omega
                                             exact HG.out)
     go_wp2
     go_ret
     exact ⟨false,rfl,fun _=>⟨HF.out.1,HF.out.2.1,HF.out.2.2.1,HF.out.2.2.2,HGe.out,HTV.out⟩,btrans HB1.out HB.out⟩
theorem great_pc5 (q:PV) (p:Cd.Pr) (w:World) (h:PC q p w):
  Calls Tryz.prog 11 #[.agg (q.cells p),.int .i64 5000] w fun e w'=> ∃ b:Bool,e= .returned (.bool b)∧(b=false→GH p.name.size p.vars p.blocks.length p.ins)∧Below w.heap.size w w':=by
 obtain ⟨a,c,e1,h1⟩:=h.vars
 obtain ⟨rfl,-,rfl⟩:q.av=a∧True∧q.cv=c:=by simpa using e1
 obtain ⟨a,c,e2,h2⟩:=h.ins
 obtain ⟨rfl,-,rfl⟩:q.ai=a∧True∧q.ci=c:=by simpa using e2
 by_cases hn:p.ins=[]
 ·exact great_in5 p.name q.av q.cv p.vars (.int .i64 p.params) q.ab p.blocks.length q.cb q.ai p.ins q.ci 0 0 w (fun h=>absurd hn h) h1 (fun i x hx=>by rw [hn] at hx;simp at hx)
 ·obtain ⟨g,o,h3,h4⟩:=h2 hn
  exact great_in5 p.name q.av q.cv p.vars (.int .i64 p.params) q.ab p.blocks.length q.cb q.ai p.ins q.ci g o w (fun _=>h3) h1 h4
theorem GH.ok {p:Cd.Pr} (h:GH p.name.size p.vars p.blocks.length p.ins):PrOK p∧ ∀ x ∈ p.ins,InOK x:=by
 obtain ⟨h1,h2,h3,h4,h5,h6⟩:=h
 refine ⟨⟨fun v hv=>h6 v hv,by omega,by omega,by omega⟩,fun x hx=> ?_⟩
 obtain ⟨i,hi,he⟩:=List.mem_iff_getElem.1 hx
 obtain ⟨a,b,c,d⟩:=h5 i x hi (by rw [List.getElem?_eq_getElem hi,he])
 exact ⟨by omega,by omega,by omega,fun y hy=>by have:=d y hy;omega⟩
set_option maxRecDepth 100000 in
set_option maxHeartbeats 4000000 in
theorem rGreatCode_any (l:List Cd.Pr) (m:Int) (ua:Option Addr) (uc:Nat) (w:World) (hu:CoR w (.slice ua l.length uc) l):
  Calls Tryz.prog 5 #[.agg #[.slice ua l.length uc,.int .i64 m],.int .i64 5000] w fun e w'=> ∃ b:Bool,e= .returned (.bool b)∧(b=false→l.length≤20∧CoOK l)∧Below w.heap.size w w':=by
 have HB:Hid (Below w.heap.size w (w.alloc (.cells #[.slice ua l.length uc,.int .i64 m] 24))):=hide ((Below.refl _ _).alloc (Nat.le_refl _) _)
 have HU:=hide hu
 have x0:=(agg_two w (.slice ua l.length uc) (.int .i64 m) 24).1
 clear hu
 by_cases g1:20<l.length
 ·have d1:decide ((20:Int)<(l.length:Int))=true:=by simp;omega
  go_enter Tryz.func5,Tryz.ntmps5
  go_wp2
  go_ret
  exact ⟨true,rfl,(fun e=>by cases e),HB.out⟩
 have d1:decide ((20:Int)<(l.length:Int))=false:=by simp;omega
 go_enter Tryz.func5,Tryz.ntmps5
 go_wp2
 generalize w.alloc _=w1 at *
 go_loopw [5] (fun iv wr=> ∃ k:Nat,k≤l.length∧iv= .int .i64 k∧Hid (Below w1.heap.size w1 wr∧ ∀ p ∈ l.take k,PrOK p∧ ∀ x ∈ p.ins,InOK x)) (fun iv _=>l.length - (intOf iv).toNat)
 case atStart=>exact ⟨0,Nat.zero_le _,rfl,hide ⟨Below.refl _ _,by simp⟩⟩
 case round=>
  obtain ⟨k,hk,rfl,HI⟩:=hrel
  have y0:=bsome HI.out.1 x0
  have hbw:=btrans HB.out HI.out.1
  by_cases hlt:k<l.length
  ·obtain ⟨p,hx⟩: ∃ p,l[k]? =some p:=⟨_,List.getElem?_eq_getElem hlt⟩
   obtain ⟨ua',uc',e1,hr⟩:=HU.out.keep hbw
   obtain ⟨rfl,rfl⟩:ua=ua'∧uc=uc':=by simpa using e1
   obtain ⟨g,o,rfl,hc⟩:=hr (List.ne_nil_of_mem (List.mem_of_getElem? hx))
   obtain ⟨q,hq,hpc⟩:=hc k p hx
   have z0:wr.cell? ⟨g,o+k * 5,none⟩=some (.string p.name):=hq 0 _ rfl
   have z1:=hq 1 _ rfl
   have z2:=hq 2 _ rfl
   have z3:=hq 3 _ rfl
   have z4:=hq 4 _ rfl
   have CG:=hide (great_pc5 q p wr hpc)
   have HN:Hid (∀ b:Bool,(b=false→GH p.name.size p.vars p.blocks.length p.ins)→b=false→ ∀ p ∈ l.take (k+1),PrOK p∧ ∀ x ∈ p.ins,InOK x):=hide (fun b hb h0 st hs=>by
    rw [←List.take_append_getElem hlt,List.mem_append,List.mem_singleton] at hs
    rcases hs with hs|hs
    ·exact HI.out.2 st hs
    ·rw [List.getElem?_eq_getElem hlt,Option.some.injEq] at hx
     rw [hs,hx]
     exact (hb h0).ok)
   have HBI:=hide HI.out.1
   have HBW:=hide hbw
   clear e1 hr hc hq hpc hx hbw HI
   unfold PV.cells at *
   go_wp2_with fail
   refine CG.out.mono ?_
   rintro e w3 ⟨b,rfl,hb,hb3⟩
   have HB3:=hide (btrans HBI.out hb3)
   have HB4:=hide (btrans HBW.out hb3)
   have HN2:=hide (HN.out b hb)
   clear hb hb3
   cases b with
   |true=>
    go_wp2
    go_ret
    exact ⟨true,rfl,(fun e=>by cases e),HB4.out⟩
   |false=>
    go_wp2
    go_roundw
    case rel=>exact ⟨k+1,by omega,by go_num,hide ⟨HB3.out,HN2.out (by first|rfl|trivial)⟩⟩
    case measure=>simp [intOf];omega
  ·obtain rfl:k=l.length:=by omega
   have HOK:Hid (CoOK l):=hide (fun p hp=>HI.out.2 p (by rw [List.take_length];exact hp))
   have HBW:=hide hbw
   clear hbw HI
   go_wp2
   go_ret
   exact ⟨false,rfl,fun _=>⟨by omega,HOK.out⟩,HBW.out⟩
end Go.Proofs.YtbhhkaobkdeolaaGreatDoor
