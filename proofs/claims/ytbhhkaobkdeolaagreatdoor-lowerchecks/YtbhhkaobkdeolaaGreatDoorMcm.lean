import Derived.Test.YtbhhkaobkdeolaaGreatDoorMcd
import Derived.ChangeArms
import Derived.Deep.MidRow
import Derived.Test.YtbhhkaobkdeolaaGreatDoorMag
import Derived.Lay
import Derived.Carry
import Derived.Test.YtbhhkaobkdeolaaGreatDoorCards
import Derived.Test.YtbhhkaobkdeolaaGreatDoorTie
namespace Go.Proofs.YtbhhkaobkdeolaaGreatDoor
open Go.RowKit
theorem spot_none {w:World} {a:Addr} {v:Value} (h:w.cell? a=some v):a=⟨a.block,a.off,none⟩:=by
 obtain ⟨b,o,sp⟩:=a
 cases sp with
 |none=>rfl
 |some x=>
  unfold World.cell? at h
  split at h<;> simp at h
theorem pick {α:Type} {R:Nat→α→Prop} (len:Nat) (h: ∀ i,i<len→ ∃ x,R i x): ∃ l:List α,l.length=len∧ ∀ (i:Nat) x,l[i]? =some x→R i x:=by
 induction len with
 |zero=>exact ⟨[],rfl,by simp⟩
 |succ len ih=>
  obtain ⟨l,h1,h2⟩:=ih (fun i hi=>h i (by omega))
  obtain ⟨x,hx⟩:=h len (by omega)
  refine ⟨l++[x],by simp [h1],fun i y hy=> ?_⟩
  rcases Nat.lt_or_ge i l.length with h3|h3
  ·rw [List.getElem?_append_left h3] at hy
   exact h2 i y hy
  ·rw [List.getElem?_append_right h3] at hy
   have h4:i - l.length=0:=by
    have:=(List.getElem?_eq_some_iff.1 hy).1
    simp at this;omega
   rw [h4] at hy
   simp at hy
   subst hy
   obtain rfl:i=len:=by omega
   exact hx
section
variable {H:Type} {enc:TypeId × Value→H} {W:World} {spare:Nat→Bool}
theorem open_slice {t e:TypeId} {z fuel:Nat} {v:Value} {x:DataW H × List MemPlace} (ht:Tryz.prog.underlying t=some (.slice e)) (hc:Tryz.prog.cellsOf e=z) (hz0:0<z)
  (h:DataW.trod enc Tryz.prog W 0 spare true fuel t [v]=some x):
  ∃ (len cap:Nat) (a:Option Addr),v= .slice a len cap∧len≤9223372036854775807∧(0<len→ ∃ b o,a=some ⟨b,o,none⟩∧ ∀ i,i<len→ ∃ cs n y,cs.length=z∧DataW.trod enc Tryz.prog W 0 spare true n e cs=some y∧ ∀ (j:Nat) u,cs[j]? =some u→W.cell? ⟨b,o+i * z+j,none⟩=some u):=by
 rcases DataW.trod_slice ht h with ⟨h0,-⟩|⟨a,len,cap,elems,rest,n,hf,h0,-,-,hlc,hcm,hel,hall,-⟩
 ·simp at h0
  subst h0
  exact ⟨0,0,none,rfl,by omega,fun h=>absurd h (by omega)⟩
 ·simp at h0
  subst h0
  have hlen:len≤9223372036854775807:=by unfold maxLen at hcm;omega
  refine ⟨len,cap,some a,rfl,hlen,fun hpos=> ?_⟩
  have hone: ∀ i,i<len→ ∃ cs y,W.cells? 0 (a.add (i * z)) z=some cs∧DataW.trod enc Tryz.prog W 0 spare true n e cs=some y:=fun i hi=>by
   have h1:=hall i hi
   rw [List.getElem?_eq_getElem (by omega),hc] at h1
   obtain ⟨cs,h2,h3⟩:=Option.bind_eq_some_iff.1 h1
   exact ⟨cs,_,h2,h3⟩
  have ha:a=⟨a.block,a.off,none⟩:=by
   obtain ⟨cs,y,h1,-⟩:=hone 0 hpos
   obtain ⟨-,h2,h3⟩:=World.cells?_some h1
   have h4:=h3 0 hz0
   rw [List.getElem?_eq_getElem (by omega)] at h4
   have h5:=spot_none h4
   obtain ⟨b,o,sp⟩:=a
   simpa [Addr.add] using h5
  obtain ⟨b,o,sp⟩:=a
  simp only [Addr.mk.injEq,true_and] at ha
  subst ha
  refine ⟨b,o,rfl,fun i hi=> ?_⟩
  obtain ⟨cs,y,g1,g2⟩:=hone i hi
  obtain ⟨-,g5,g6⟩:=World.cells?_some g1
  refine ⟨cs,n,y,g5,g2,fun j u hu=> ?_⟩
  have hj:j<z:=by
   have:=(List.getElem?_eq_some_iff.1 hu).1
   omega
  have g7:=g6 j hj
  rw [hu,Addr.add_mid,Addr.add_mid] at g7
  exact g7
theorem field_at {t:TypeId} {fs:Array Field} {fuel:Nat} {cs:List Value} {x:DataW H × List MemPlace} (ht:Tryz.prog.underlying t=some (.struct fs)) (h:DataW.trod enc Tryz.prog W 0 spare true fuel t cs=some x):
  cs.length=Tryz.prog.cellsOf t∧ ∃ n,fuel=n+1∧ ∀ (i:Nat) (f:Field),fs[i]? =some f→f.offset=i→Tryz.prog.cellsOf f.type=1→i<Tryz.prog.cellsOf t→ ∃ u y,cs[i]? =some u∧DataW.trod enc Tryz.prog W 0 spare true n f.type [u]=some y:=by
 obtain ⟨xs,n,hf,-,hl,hx,hall⟩:=DataW.trod_struct ht h
 refine ⟨hl,n,hf,fun i f hfi ho hc hi=> ?_⟩
 have h1:=hall i f hfi
 have hix:i<xs.length:=by
  rw [hx]
  rcases Nat.lt_or_ge i fs.size with h'|h'
  ·exact h'
  ·rw [Array.getElem?_eq_none h'] at hfi;cases hfi
 rw [List.getElem?_eq_getElem hix,ho,hc] at h1
 have hic:i<cs.length:=by omega
 have h2:(cs.drop i).take 1=[cs[i]]:=by
  rw [List.drop_eq_getElem_cons hic]
  rfl
 rw [h2] at h1
 exact ⟨cs[i],_,List.getElem?_eq_getElem hic,h1⟩
theorem c3:Tryz.prog.cellsOf 3=1:=by kernel_rfl
theorem c9:Tryz.prog.cellsOf 9=1:=by kernel_rfl
theorem cPr:Tryz.prog.cellsOf 43=5:=by kernel_rfl
theorem cIn:Tryz.prog.cellsOf 47=11:=by kernel_rfl
theorem cIs:Tryz.prog.cellsOf 41=1:=by kernel_rfl
theorem cVa:Tryz.prog.cellsOf 57=2:=by kernel_rfl
theorem cVs:Tryz.prog.cellsOf 39=1:=by kernel_rfl
theorem cP1:Tryz.prog.cellsOf 2=1:=by kernel_rfl
theorem cBs:Tryz.prog.cellsOf 40=1:=by kernel_rfl
theorem cPu:Tryz.prog.cellsOf 44=1:=by kernel_rfl
theorem cAr:Tryz.prog.cellsOf 73=2:=by kernel_rfl
theorem cAs:Tryz.prog.cellsOf 45=1:=by kernel_rfl
theorem cBl:Tryz.prog.cellsOf 104=4:=by kernel_rfl
theorem cPs:Tryz.prog.cellsOf 139=2:=by kernel_rfl
theorem open_push {fuel:Nat} {v:Value} {x:DataW H × List MemPlace} (h:DataW.trod enc Tryz.prog W 0 spare true fuel 44 [v]=some x): ∃ (l:List (Int × Int)) (a:Option Addr) (c:Nat),v= .slice a l.length c∧ER W (.slice a l.length c) l:=by
 obtain ⟨len,cap,a,rfl,hl,hr⟩:=open_slice Tryz.underlying44 cPs (by decide) h
 by_cases h0:0<len
 ·obtain ⟨b,o,rfl,hc⟩:=hr h0
  obtain ⟨l,h1,h2⟩:=pick (α:=Int × Int) (R:=fun i x=>W.cell? ⟨b,o+i * 2,none⟩=some (.int .i64 x.1)∧W.cell? ⟨b,o+i * 2+1,none⟩=some (.int .i64 x.2)) len (fun i hi=>by
   obtain ⟨cs,n,y,q1,q2,q3⟩:=hc i hi
   obtain ⟨-,m,-,hfld⟩:=field_at Tryz.underlying139 q2
   rw [cPs] at hfld
   obtain ⟨z0,w0,k0,r0⟩:=hfld 0 _ rfl rfl c3 (by decide)
   obtain ⟨z1,w1,k1,r1⟩:=hfld 1 _ rfl rfl cP1 (by decide)
   obtain ⟨x0,e0,-,-⟩:=DataW.trod_int Tryz.underlying3 r0
   obtain ⟨x1,e1,-,-⟩:=DataW.trod_int Tryz.underlying2 r1
   simp at e0 e1
   subst e0 e1
   exact ⟨(x0,x1),by have:=q3 0 _ k0;rwa [Nat.add_zero] at this,q3 1 _ k1⟩)
  subst h1
  exact ⟨l,_,cap,rfl,⟨_,cap,rfl,fun _=>⟨b,o,rfl,h2⟩⟩⟩
 ·obtain rfl:len=0:=by omega
  exact ⟨[],a,cap,rfl,⟨a,cap,rfl,fun h=>absurd rfl h⟩⟩
theorem open_args {fuel:Nat} {v:Value} {x:DataW H × List MemPlace} (h:DataW.trod enc Tryz.prog W 0 spare true fuel 45 [v]=some x): ∃ (l:List (List (Int × Int) × Int)) (a:Option Addr) (c:Nat),v= .slice a l.length c∧AgR W (.slice a l.length c) l:=by
 obtain ⟨len,cap,a,rfl,hl,hr⟩:=open_slice Tryz.underlying45 cAr (by decide) h
 by_cases h0:0<len
 ·obtain ⟨b,o,rfl,hc⟩:=hr h0
  obtain ⟨l,h1,h2⟩:=pick (α:=List (Int × Int) × Int) (R:=fun i x=>(∃ ae ce,W.cell? ⟨b,o+i * 2,none⟩=some (.slice ae x.1.length ce)∧ER W (.slice ae x.1.length ce) x.1)∧W.cell? ⟨b,o+i * 2+1,none⟩=some (.int .i64 x.2)) len (fun i hi=>by
   obtain ⟨cs,n,y,q1,q2,q3⟩:=hc i hi
   obtain ⟨-,m,-,hfld⟩:=field_at Tryz.underlying73 q2
   rw [cAr] at hfld
   obtain ⟨z0,w0,k0,r0⟩:=hfld 0 _ rfl rfl cPu (by decide)
   obtain ⟨z1,w1,k1,r1⟩:=hfld 1 _ rfl rfl c3 (by decide)
   obtain ⟨l,ae,ce,rfl,hE⟩:=open_push r0
   obtain ⟨x1,e1,-,-⟩:=DataW.trod_int Tryz.underlying3 r1
   simp at e1
   subst e1
   exact ⟨(l,x1),⟨ae,ce,by have:=q3 0 _ k0;rwa [Nat.add_zero] at this,hE⟩,q3 1 _ k1⟩)
  subst h1
  exact ⟨l,_,cap,rfl,⟨_,cap,rfl,fun _=>⟨b,o,rfl,h2⟩⟩⟩
 ·obtain rfl:len=0:=by omega
  exact ⟨[],a,cap,rfl,⟨a,cap,rfl,fun h=>absurd rfl h⟩⟩
theorem open_vars {fuel:Nat} {v:Value} {x:DataW H × List MemPlace} (h:DataW.trod enc Tryz.prog W 0 spare true fuel 39 [v]=some x): ∃ (l:List (ByteArray × ByteArray)) (a:Option Addr) (c:Nat),v= .slice a l.length c∧VaR W (.slice a l.length c) l:=by
 obtain ⟨len,cap,a,rfl,hl,hr⟩:=open_slice Tryz.underlying39 cVa (by decide) h
 by_cases h0:0<len
 ·obtain ⟨b,o,rfl,hc⟩:=hr h0
  obtain ⟨l,h1,h2⟩:=pick (α:=ByteArray × ByteArray) (R:=fun i x=>W.cell? ⟨b,o+i * 2,none⟩=some (.string x.1)∧W.cell? ⟨b,o+i * 2+1,none⟩=some (.string x.2)) len (fun i hi=>by
   obtain ⟨cs,n,y,q1,q2,q3⟩:=hc i hi
   obtain ⟨-,m,-,hfld⟩:=field_at Tryz.underlying57 q2
   rw [cVa] at hfld
   obtain ⟨z0,w0,k0,r0⟩:=hfld 0 _ rfl rfl c9 (by decide)
   obtain ⟨z1,w1,k1,r1⟩:=hfld 1 _ rfl rfl c9 (by decide)
   obtain ⟨s0,e0,-,-⟩:=DataW.trod_string Tryz.underlying9 r0
   obtain ⟨s1,e1,-,-⟩:=DataW.trod_string Tryz.underlying9 r1
   simp at e0 e1
   subst e0 e1
   exact ⟨(s0,s1),by have:=q3 0 _ k0;rwa [Nat.add_zero] at this,q3 1 _ k1⟩)
  subst h1
  exact ⟨l,_,cap,rfl,⟨_,cap,rfl,fun _=>⟨b,o,rfl,h2⟩⟩⟩
 ·obtain rfl:len=0:=by omega
  exact ⟨[],a,cap,rfl,⟨a,cap,rfl,fun h=>absurd rfl h⟩⟩
theorem open_blocks {fuel:Nat} {v:Value} {x:DataW H × List MemPlace} (h:DataW.trod enc Tryz.prog W 0 spare true fuel 40 [v]=some x): ∃ (l:List (Int × Int × Int × Int)) (a:Option Addr) (c:Nat),v= .slice a l.length c∧BlR W (.slice a l.length c) l:=by
 obtain ⟨len,cap,a,rfl,hl,hr⟩:=open_slice Tryz.underlying40 cBl (by decide) h
 by_cases h0:0<len
 ·obtain ⟨b,o,rfl,hc⟩:=hr h0
  obtain ⟨l,h1,h2⟩:=pick (α:=Int × Int × Int × Int) (R:=fun i x=>W.cell? ⟨b,o+i * 4,none⟩=some (.int .i64 x.1)∧W.cell? ⟨b,o+i * 4+1,none⟩=some (.int .i64 x.2.1)∧W.cell? ⟨b,o+i * 4+2,none⟩=some (.int .i64 x.2.2.1)∧W.cell? ⟨b,o+i * 4+3,none⟩=some (.int .i64 x.2.2.2)) len (fun i hi=>by
   obtain ⟨cs,n,y,q1,q2,q3⟩:=hc i hi
   obtain ⟨-,m,-,hfld⟩:=field_at Tryz.underlying104 q2
   rw [cBl] at hfld
   obtain ⟨z0,w0,k0,r0⟩:=hfld 0 _ rfl rfl c3 (by decide)
   obtain ⟨z1,w1,k1,r1⟩:=hfld 1 _ rfl rfl c3 (by decide)
   obtain ⟨z2,w2,k2,r2⟩:=hfld 2 _ rfl rfl c3 (by decide)
   obtain ⟨z3,w3,k3,r3⟩:=hfld 3 _ rfl rfl c3 (by decide)
   obtain ⟨x0,e0,-,-⟩:=DataW.trod_int Tryz.underlying3 r0
   obtain ⟨x1,e1,-,-⟩:=DataW.trod_int Tryz.underlying3 r1
   obtain ⟨x2,e2,-,-⟩:=DataW.trod_int Tryz.underlying3 r2
   obtain ⟨x3,e3,-,-⟩:=DataW.trod_int Tryz.underlying3 r3
   simp at e0 e1 e2 e3
   subst e0 e1 e2 e3
   exact ⟨(x0,x1,x2,x3),by have:=q3 0 _ k0;rwa [Nat.add_zero] at this,q3 1 _ k1,q3 2 _ k2,q3 3 _ k3⟩)
  subst h1
  exact ⟨l,_,cap,rfl,⟨_,cap,rfl,fun _=>⟨b,o,rfl,h2⟩⟩⟩
 ·obtain rfl:len=0:=by omega
  exact ⟨[],a,cap,rfl,⟨a,cap,rfl,fun h=>absurd rfl h⟩⟩
theorem open_inss {fuel:Nat} {v:Value} {x:DataW H × List MemPlace} (h:DataW.trod enc Tryz.prog W 0 spare true fuel 41 [v]=some x): ∃ (l:List Cd.In) (a:Option Addr) (c:Nat),v= .slice a l.length c∧InR W (.slice a l.length c) l:=by
 obtain ⟨len,cap,a,rfl,hl,hr⟩:=open_slice Tryz.underlying41 cIn (by decide) h
 by_cases h0:0<len
 ·obtain ⟨b,o,rfl,hc⟩:=hr h0
  obtain ⟨l,h1,h2⟩:=pick (α:=Cd.In) (R:=fun i x=> ∃ ae ce aa ca,IC W b (o+i * 11) x ae ce aa ca) len (fun i hi=>by
   obtain ⟨cs,n,y,q1,q2,q3⟩:=hc i hi
   obtain ⟨-,m,-,hfld⟩:=field_at Tryz.underlying47 q2
   rw [cIn] at hfld
   obtain ⟨z0,w0,k0,r0⟩:=hfld 0 _ rfl rfl c3 (by decide)
   obtain ⟨z1,w1,k1,r1⟩:=hfld 1 _ rfl rfl c3 (by decide)
   obtain ⟨z2,w2,k2,r2⟩:=hfld 2 _ rfl rfl c3 (by decide)
   obtain ⟨z3,w3,k3,r3⟩:=hfld 3 _ rfl rfl c3 (by decide)
   obtain ⟨z4,w4,k4,r4⟩:=hfld 4 _ rfl rfl c3 (by decide)
   obtain ⟨z5,w5,k5,r5⟩:=hfld 5 _ rfl rfl c9 (by decide)
   obtain ⟨z6,w6,k6,r6⟩:=hfld 6 _ rfl rfl cPu (by decide)
   obtain ⟨z7,w7,k7,r7⟩:=hfld 7 _ rfl rfl cAs (by decide)
   obtain ⟨z8,w8,k8,r8⟩:=hfld 8 _ rfl rfl c3 (by decide)
   obtain ⟨z9,w9,k9,r9⟩:=hfld 9 _ rfl rfl c3 (by decide)
   obtain ⟨z10,w10,k10,r10⟩:=hfld 10 _ rfl rfl c3 (by decide)
   obtain ⟨x0,e0,-,-⟩:=DataW.trod_int Tryz.underlying3 r0
   obtain ⟨x1,e1,-,-⟩:=DataW.trod_int Tryz.underlying3 r1
   obtain ⟨x2,e2,-,-⟩:=DataW.trod_int Tryz.underlying3 r2
   obtain ⟨x3,e3,-,-⟩:=DataW.trod_int Tryz.underlying3 r3
   obtain ⟨x4,e4,-,-⟩:=DataW.trod_int Tryz.underlying3 r4
   obtain ⟨x8,e8,-,-⟩:=DataW.trod_int Tryz.underlying3 r8
   obtain ⟨x9,e9,-,-⟩:=DataW.trod_int Tryz.underlying3 r9
   obtain ⟨x10,e10,-,-⟩:=DataW.trod_int Tryz.underlying3 r10
   obtain ⟨s5,e5,-,-⟩:=DataW.trod_string Tryz.underlying9 r5
   obtain ⟨l6,a6,c6,rfl,hE⟩:=open_push r6
   obtain ⟨l7,a7,c7,rfl,hA⟩:=open_args r7
   simp at e0 e1 e2 e3 e4 e8 e9 e10 e5
   subst e0 e1 e2 e3 e4 e8 e9 e10 e5
   exact ⟨⟨x0,x1,x2,x3,x4,s5,l6,l7,x8,x9,x10⟩,a6,c6,a7,c7,⟨by have:=q3 0 _ k0;rwa [Nat.add_zero] at this,q3 1 _ k1,q3 2 _ k2,q3 3 _ k3,q3 4 _ k4,q3 5 _ k5,q3 6 _ k6,q3 7 _ k7,q3 8 _ k8,q3 9 _ k9,q3 10 _ k10,hE,hA⟩⟩)
  subst h1
  exact ⟨l,_,cap,rfl,⟨_,cap,rfl,fun _=>⟨b,o,rfl,h2⟩⟩⟩
 ·obtain rfl:len=0:=by omega
  exact ⟨[],a,cap,rfl,⟨a,cap,rfl,fun h=>absurd rfl h⟩⟩
theorem open_pc {fuel:Nat} {cs:List Value} {x:DataW H × List MemPlace} (h:DataW.trod enc Tryz.prog W 0 spare true fuel 43 cs=some x): ∃ (q:PV) (p:Cd.Pr),cs=(q.cells p).toList∧PC q p W:=by
 obtain ⟨hl,m,-,hfld⟩:=field_at Tryz.underlying43 h
 rw [cPr] at hl hfld
 obtain ⟨u0,y0,g0,t0⟩:=hfld 0 _ rfl rfl c9 (by decide)
 obtain ⟨u1,y1,g1,t1⟩:=hfld 1 _ rfl rfl cVs (by decide)
 obtain ⟨u2,y2,g2,t2⟩:=hfld 2 _ rfl rfl c3 (by decide)
 obtain ⟨u3,y3,g3,t3⟩:=hfld 3 _ rfl rfl cBs (by decide)
 obtain ⟨u4,y4,g4,t4⟩:=hfld 4 _ rfl rfl cIs (by decide)
 obtain ⟨s,e0,-,-⟩:=DataW.trod_string Tryz.underlying9 t0
 obtain ⟨n,e2,-,-⟩:=DataW.trod_int Tryz.underlying3 t2
 simp at e0 e2
 subst e0 e2
 obtain ⟨vs,av,cv,rfl,hv⟩:=open_vars t1
 obtain ⟨bs,ab,cb,rfl,hb⟩:=open_blocks t3
 obtain ⟨is,ai,ci,rfl,hi⟩:=open_inss t4
 refine ⟨⟨av,cv,ab,cb,ai,ci⟩,⟨s,vs,n,bs,is⟩,?_,⟨hv,hb,hi⟩⟩
 match cs,hl with
 |[c0,c1,c2,c3,c4],_=>
  simp at g0 g1 g2 g3 g4
  subst g0 g1 g2 g3 g4
  rfl
theorem cPs1:Tryz.prog.cellsOf 22=1:=by kernel_rfl
theorem cCo:Tryz.prog.cellsOf 24=2:=by kernel_rfl
theorem open_procs {fuel:Nat} {v:Value} {x:DataW H × List MemPlace} (h:DataW.trod enc Tryz.prog W 0 spare true fuel 22 [v]=some x): ∃ (l:List Cd.Pr) (a:Option Addr) (c:Nat),v= .slice a l.length c∧CoR W (.slice a l.length c) l:=by
 obtain ⟨len,cap,a,rfl,hl,hr⟩:=open_slice Tryz.underlying22 cPr (by decide) h
 by_cases h0:0<len
 ·obtain ⟨b,o,rfl,hc⟩:=hr h0
  obtain ⟨l,h1,h2⟩:=pick (α:=Cd.Pr) (R:=fun i p=> ∃ q:PV,(∀ (j:Nat) u,(q.cl p)[j]? =some u→W.cell? ⟨b,o+i * 5+j,none⟩=some u)∧PC q p W) len (fun i hi=>by
   obtain ⟨cs,n,y,q1,q2,q3⟩:=hc i hi
   obtain ⟨q,p,hcs,hG⟩:=open_pc q2
   exact ⟨p,q,fun j u hu=>q3 j u (by rw [hcs];exact hu),hG⟩)
  subst h1
  exact ⟨l,_,cap,rfl,⟨_,cap,rfl,fun _=>⟨b,o,rfl,h2⟩⟩⟩
 ·obtain rfl:len=0:=by omega
  exact ⟨[],a,cap,rfl,⟨a,cap,rfl,fun h=>absurd rfl h⟩⟩
theorem open_code {fuel:Nat} {cs:List Value} {x:DataW H × List MemPlace} (h:DataW.trod enc Tryz.prog W 0 spare true fuel 24 cs=some x): ∃ (l:List Cd.Pr) (m:Int) (ua:Option Addr) (uc:Nat),cs=[.slice ua l.length uc,.int .i64 m]∧CoR W (.slice ua l.length uc) l:=by
 obtain ⟨hl,m,-,hfld⟩:=field_at Tryz.underlying24 h
 rw [cCo] at hl hfld
 obtain ⟨u0,y0,g0,t0⟩:=hfld 0 _ rfl rfl cPs1 (by decide)
 obtain ⟨u1,y1,g1,t1⟩:=hfld 1 _ rfl rfl c3 (by decide)
 obtain ⟨n,e1,-,-⟩:=DataW.trod_int Tryz.underlying3 t1
 simp at e1
 subst e1
 obtain ⟨l,ua,uc,rfl,hv⟩:=open_procs t0
 refine ⟨l,n,ua,uc,?_,hv⟩
 match cs,hl with
 |[c0,c1],_=>
  simp at g0 g1
  subst g0 g1
  rfl
end
end Go.Proofs.YtbhhkaobkdeolaaGreatDoor
namespace Go.Proofs.YtbhhkaobkdeolaaGreatDoor.LowerChecks
open Go.ChangeShapes Go.WideShapes Go.ChangeAt Go.WideMaps Go.WideElems Go.RowKit
open Go.ChangeMaps (setBlock shut_map_nil open_string shut_string keptBut_setBlock frozen?_setBlock heap_setBlock_same)

theorem laidOut : laidOutB Tryz.prog = true := by kernel_rfl
theorem door_met (os : Os) (args : Array Value) : laidMetH Tryz.prog Rows.lowerChecksRow.laid ((World.laidAll Tryz.prog os Rows.lowerChecksRow.laid).forCall (fun _ _ => 0) ⟨#[], args, []⟩).memory := by
  rw [MakeChecks.laidMetH_plain _ _ _ (by kernel_rfl)]
  exact laidMet_laidAll _ (by kernel_rfl) (by kernel_rfl)

set_option maxRecDepth 100000 in
theorem lifted (law : ∀ (l : List Cd.Pr) (m : Int) (ua : Option Addr) (uc : Nat) (W : World), CoR W (.slice ua l.length uc) l → Tb W → Calls Tryz.prog 3 #[.agg #[.slice ua l.length uc, .int .i64 m]] W fun e w' => e = .returned (.bool true) ∧ Below W.heap.size W w') (os : Os) (started : os.Started) (H : Type) (enc : TypeId × Value → H) :
    ReturnsInHanded {} Tryz.checked os 3 .any (fun w args => (Rows.lowerChecksSpec.pre enc Tryz.prog Tryz.f3 [] false w args ∧ laidMetH Tryz.prog Rows.lowerChecksRow.laid w) ∧ sizedMet enc Tryz.prog Tryz.f3 (OpenSpec.ofChange Rows.lowerChecksSpec) false w args)
      (Rows.lowerChecksSpec.post enc Tryz.prog Tryz.f3 false true false false) := by
  refine returnsInHanded_of_change_and (C := Tryz.checked) (X := fun w _ => laidMetH Tryz.prog Rows.lowerChecksRow.laid w) (fun _ _ _ hh h => h.of_heap hh) own started (by kernel_rfl) Tryz.func3
    (ChangeSpec.witness_shaped (enc := enc) (C := Tryz.checked) (os := os) (X := fun w _ => laidMetH Tryz.prog Rows.lowerChecksRow.laid w) false (World.laidAll Tryz.prog os Rows.lowerChecksRow.laid) #[.agg #[.slice none 0 0, .int .i64 0]] 8 rfl (World.shaped_of_ZipB (by kernel_rfl) (by kernel_rfl)) (by kernel_rfl) (by kernel_rfl) (by kernel_rfl) (door_met os _)) ?_
  intro W base args ds gs before hval0 hW _ _ hL _
  have hval : ∀ (j : Nat) t v, Tryz.f3.params[j]? = some t → args[j]? = some v → Value.okWide Tryz.prog W .any base t v := hval0
  have hW' := hW
  obtain ⟨pp, qq, hA0, hV, rfl, hfz, hnd⟩ := hW
  have hA : DataW.TrodAll enc Tryz.prog W 0 (fun _ => true) true Tryz.f3.params.toList args.toList ds pp := hA0
  rw [Tryz.params3] at hA hval
  obtain ⟨v0, d0, rfl, rfl, h0⟩ := trodAll_one hA
  obtain ⟨rfl, rfl⟩ := trodVars_none hV
  obtain ⟨c0, rfl, hz0⟩ := okWide_struct Tryz.underlying24 (hval 0 24 v0 rfl rfl)
  have k0 := h0
  have lt0 : ∀ x ∈ pp, x.block < W.heap.size := by obtain ⟨m, hm⟩ := k0; exact DataW.trod_lt m _ _ _ hm
  obtain ⟨fuel, hf⟩ := h0
  obtain ⟨l, m, ua, uc, hcs, hG⟩ := open_code hf
  have e0 : Value.agg c0 = .agg #[.slice ua l.length uc, .int .i64 m] := by
    have hc : (Value.agg c0).cells = c0 := rfl
    rw [hc] at hcs
    congr 1
    exact Array.toList_inj.1 hcs
  have hT := tb_of_laid hL
  clear hA0 hval0
  rw [e0] at k0 hW' ⊢
  refine (law l m ua uc W hG hT).mono fun e W' ⟨he, hb⟩ => ?_
  subst he
  exact ⟨_, rfl, _, _, _, [], _, [], hW', trodAll_mk1 (shut_bool Tryz.underlying4 _), trodAll_mk1 (Below.trod laidOut (by kernel_rfl) (of_decide_eq_true (by kernel_rfl)) k0 hb lt0), rfl, hb.frame _, fun h => by cases h⟩

theorem said (law : ∀ (l : List Cd.Pr) (m : Int) (ua : Option Addr) (uc : Nat) (W : World), CoR W (.slice ua l.length uc) l → Tb W → Calls Tryz.prog 3 #[.agg #[.slice ua l.length uc, .int .i64 m]] W fun e w' => e = .returned (.bool true) ∧ Below W.heap.size W w') : Rows.LowerChecksSaid :=
  OpenClaim.holds_of_wide 3 Tryz.f3 rfl rfl rfl rfl rfl rfl rfl ⟨rfl, rfl, rfl, rfl, rfl⟩ rfl rfl rfl rfl rfl (by kernel_rfl) Tryz.func3 (by kernel_rfl)
    (of_decide_eq_true (by kernel_rfl)) (by unfold Func.isWrapper; first | (rw [if_pos (by decide +kernel)]; kernel_rfl) | (rw [if_neg (by decide +kernel)]; exact ⟨rfl, rfl⟩))
    (fun os started H enc _ => lifted law os started H enc)

theorem plain (lk : Bool) (hlk : lk = Tryz.pinned.checked.prog.looks []) (f : FuncId) (fn : Func) (hf : Tryz.pinned.checked.prog.funcNamed "pipewright/pipewrightlaw.LowerChecks" = some f) (hfn : Tryz.pinned.checked.prog.funcs[f]? = some fn) :
    lk = Tryz.pinned.checked.prog.looks [] ∧ ∀ (j : Nat) t, fn.params[j]? = some t → Tryz.pinned.checked.prog.wantsStandIn t = false := by
  obtain rfl : f = 3 := Option.some.inj ((show Tryz.prog.funcNamed "pipewright/pipewrightlaw.LowerChecks" = some 3 by kernel_rfl).symm.trans hf) |>.symm
  obtain rfl : fn = Tryz.f3 := (Option.some.inj (Tryz.func3.symm.trans hfn)).symm
  refine ⟨hlk, fun j t ht => ?_⟩
  rw [Tryz.params3] at ht
  have hm : t ∈ [24] := by simpa using Array.mem_of_getElem? ht
  have hall : ([24].all fun u => !Tryz.prog.wantsStandIn u) = true := by kernel_rfl
  exact (show Tryz.prog.wantsStandIn t = false by simpa using List.all_eq_true.1 hall t hm)

theorem card (law : ∀ (l : List Cd.Pr) (m : Int) (ua : Option Addr) (uc : Nat) (W : World), CoR W (.slice ua l.length uc) l → Tb W → Calls Tryz.prog 3 #[.agg #[.slice ua l.length uc, .int .i64 m]] W fun e w' => e = .returned (.bool true) ∧ Below W.heap.size W w') : Rows.LowerChecksCardSaid :=
  Claim7.holds_tied_plain_at .later [] _ _ _ _ (said law) (fun _ h => by cases h) (by kernel_rfl) (fun _ h => by cases h) lowerChecks_row_tie rfl ⟨rfl, rfl⟩ (by kernel_rfl) rfl (plain _ (by kernel_rfl)) (by kernel_rfl)
end Go.Proofs.YtbhhkaobkdeolaaGreatDoor.LowerChecks
