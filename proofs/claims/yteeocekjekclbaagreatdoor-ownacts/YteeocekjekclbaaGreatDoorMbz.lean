import Derived.Test.YteeocekjekclbaaGreatDoorMby
import Derived.ChangeArms
import Derived.Deep.MidRow
namespace Go.Proofs.YteeocekjekclbaaGreatDoor
open Go.RowKit
theorem spot_none {w:World} {a:Addr} {v:Value} (h:w.cell? a=some v):a=⟨a.block,a.off,none⟩:=by
 obtain ⟨b,o,sp⟩:=a
 cases sp with
 |none=>rfl
 |some x=>
  unfold World.cell? at h
  split at h<;> simp at h
theorem pick {α:Type} {R:Nat→α→Prop} (len:Nat) (h: ∀ i,i<len→ ∃ x,R i x): ∃ l:List α,l.length=len∧ ∀ (i:Nat) x,l[i]? =some x→R i x:=by
 induction len with
 |zero=>exact ⟨[],rfl,by simp⟩
 |succ len ih=>
  obtain ⟨l,h1,h2⟩:=ih (fun i hi=>h i (by omega))
  obtain ⟨x,hx⟩:=h len (by omega)
  refine ⟨l++[x],by simp [h1],fun i y hy=> ?_⟩
  rcases Nat.lt_or_ge i l.length with h3|h3
  ·rw [List.getElem?_append_left h3] at hy
   exact h2 i y hy
  ·rw [List.getElem?_append_right h3] at hy
   have h4:i - l.length=0:=by
    have:=(List.getElem?_eq_some_iff.1 hy).1
    simp at this;omega
   rw [h4] at hy
   simp at hy
   subst hy
   obtain rfl:i=len:=by omega
   exact hx
section
variable {H:Type} {enc:TypeId × Value→H} {W:World} {spare:Nat→Bool}
theorem open_slice {t e:TypeId} {z fuel:Nat} {v:Value} {x:DataW H × List MemPlace} (ht:Tryz.prog.underlying t=some (.slice e)) (hc:Tryz.prog.cellsOf e=z) (hz0:0<z)
  (h:DataW.trod enc Tryz.prog W 0 spare true fuel t [v]=some x):
  ∃ (len cap:Nat) (a:Option Addr),v= .slice a len cap∧len≤9223372036854775807∧(0<len→ ∃ b o,a=some ⟨b,o,none⟩∧ ∀ i,i<len→ ∃ cs n y,cs.length=z∧DataW.trod enc Tryz.prog W 0 spare true n e cs=some y∧ ∀ (j:Nat) u,cs[j]? =some u→W.cell? ⟨b,o+i * z+j,none⟩=some u):=by
 rcases DataW.trod_slice ht h with ⟨h0,-⟩|⟨a,len,cap,elems,rest,n,hf,h0,-,-,hlc,hcm,hel,hall,-⟩
 ·simp at h0
  subst h0
  exact ⟨0,0,none,rfl,by omega,fun h=>absurd h (by omega)⟩
 ·simp at h0
  subst h0
  have hlen:len≤9223372036854775807:=by unfold maxLen at hcm;omega
  refine ⟨len,cap,some a,rfl,hlen,fun hpos=> ?_⟩
  have hone: ∀ i,i<len→ ∃ cs y,W.cells? 0 (a.add (i * z)) z=some cs∧DataW.trod enc Tryz.prog W 0 spare true n e cs=some y:=fun i hi=>by
   have h1:=hall i hi
   rw [List.getElem?_eq_getElem (by omega),hc] at h1
   obtain ⟨cs,h2,h3⟩:=Option.bind_eq_some_iff.1 h1
   exact ⟨cs,_,h2,h3⟩
  have ha:a=⟨a.block,a.off,none⟩:=by
   obtain ⟨cs,y,h1,-⟩:=hone 0 hpos
   obtain ⟨-,h2,h3⟩:=World.cells?_some h1
   have h4:=h3 0 hz0
   rw [List.getElem?_eq_getElem (by omega)] at h4
   have h5:=spot_none h4
   obtain ⟨b,o,sp⟩:=a
   simpa [Addr.add] using h5
  obtain ⟨b,o,sp⟩:=a
  simp only [Addr.mk.injEq,true_and] at ha
  subst ha
  refine ⟨b,o,rfl,fun i hi=> ?_⟩
  obtain ⟨cs,y,g1,g2⟩:=hone i hi
  obtain ⟨-,g5,g6⟩:=World.cells?_some g1
  refine ⟨cs,n,y,g5,g2,fun j u hu=> ?_⟩
  have hj:j<z:=by
   have:=(List.getElem?_eq_some_iff.1 hu).1
   omega
  have g7:=g6 j hj
  rw [hu,Addr.add_mid,Addr.add_mid] at g7
  exact g7
theorem field_at {t:TypeId} {fs:Array Field} {fuel:Nat} {cs:List Value} {x:DataW H × List MemPlace} (ht:Tryz.prog.underlying t=some (.struct fs)) (h:DataW.trod enc Tryz.prog W 0 spare true fuel t cs=some x):
  cs.length=Tryz.prog.cellsOf t∧ ∃ n,fuel=n+1∧ ∀ (i:Nat) (f:Field),fs[i]? =some f→f.offset=i→Tryz.prog.cellsOf f.type=1→i<Tryz.prog.cellsOf t→ ∃ u y,cs[i]? =some u∧DataW.trod enc Tryz.prog W 0 spare true n f.type [u]=some y:=by
 obtain ⟨xs,n,hf,-,hl,hx,hall⟩:=DataW.trod_struct ht h
 refine ⟨hl,n,hf,fun i f hfi ho hc hi=> ?_⟩
 have h1:=hall i f hfi
 have hix:i<xs.length:=by
  rw [hx]
  rcases Nat.lt_or_ge i fs.size with h'|h'
  ·exact h'
  ·rw [Array.getElem?_eq_none h'] at hfi;cases hfi
 rw [List.getElem?_eq_getElem hix,ho,hc] at h1
 have hic:i<cs.length:=by omega
 have h2:(cs.drop i).take 1=[cs[i]]:=by
  rw [List.drop_eq_getElem_cons hic]
  rfl
 rw [h2] at h1
 exact ⟨cs[i],_,List.getElem?_eq_getElem hic,h1⟩
theorem c3:Tryz.prog.cellsOf 3=1:=by kernel_rfl
theorem c9:Tryz.prog.cellsOf 9=1:=by kernel_rfl
theorem cPr:Tryz.prog.cellsOf 26=5:=by kernel_rfl
theorem cIn:Tryz.prog.cellsOf 53=11:=by kernel_rfl
theorem cIs:Tryz.prog.cellsOf 24=1:=by kernel_rfl
theorem cVa:Tryz.prog.cellsOf 49=2:=by kernel_rfl
theorem cVs:Tryz.prog.cellsOf 22=1:=by kernel_rfl
theorem cP1:Tryz.prog.cellsOf 2=1:=by kernel_rfl
theorem cBs:Tryz.prog.cellsOf 23=1:=by kernel_rfl
theorem cPu:Tryz.prog.cellsOf 50=1:=by kernel_rfl
theorem cAr:Tryz.prog.cellsOf 55=2:=by kernel_rfl
theorem cAs:Tryz.prog.cellsOf 51=1:=by kernel_rfl
theorem cBl:Tryz.prog.cellsOf 113=4:=by kernel_rfl
theorem cPs:Tryz.prog.cellsOf 202=2:=by kernel_rfl
theorem open_push {fuel:Nat} {v:Value} {x:DataW H × List MemPlace} (h:DataW.trod enc Tryz.prog W 0 spare true fuel 50 [v]=some x): ∃ (l:List (Int × Int)) (a:Option Addr) (c:Nat),v= .slice a l.length c∧ER W (.slice a l.length c) l:=by
 obtain ⟨len,cap,a,rfl,hl,hr⟩:=open_slice Tryz.underlying50 cPs (by decide) h
 by_cases h0:0<len
 ·obtain ⟨b,o,rfl,hc⟩:=hr h0
  obtain ⟨l,h1,h2⟩:=pick (α:=Int × Int) (R:=fun i x=>W.cell? ⟨b,o+i * 2,none⟩=some (.int .i64 x.1)∧W.cell? ⟨b,o+i * 2+1,none⟩=some (.int .i64 x.2)) len (fun i hi=>by
   obtain ⟨cs,n,y,q1,q2,q3⟩:=hc i hi
   obtain ⟨-,m,-,hfld⟩:=field_at Tryz.underlying202 q2
   rw [cPs] at hfld
   obtain ⟨z0,w0,k0,r0⟩:=hfld 0 _ rfl rfl c3 (by decide)
   obtain ⟨z1,w1,k1,r1⟩:=hfld 1 _ rfl rfl cP1 (by decide)
   obtain ⟨x0,e0,-,-⟩:=DataW.trod_int Tryz.underlying3 r0
   obtain ⟨x1,e1,-,-⟩:=DataW.trod_int Tryz.underlying2 r1
   simp at e0 e1
   subst e0 e1
   exact ⟨(x0,x1),by have:=q3 0 _ k0;rwa [Nat.add_zero] at this,q3 1 _ k1⟩)
  subst h1
  exact ⟨l,_,cap,rfl,⟨_,cap,rfl,fun _=>⟨b,o,rfl,h2⟩⟩⟩
 ·obtain rfl:len=0:=by omega
  exact ⟨[],a,cap,rfl,⟨a,cap,rfl,fun h=>absurd rfl h⟩⟩
theorem open_args {fuel:Nat} {v:Value} {x:DataW H × List MemPlace} (h:DataW.trod enc Tryz.prog W 0 spare true fuel 51 [v]=some x): ∃ (l:List (List (Int × Int) × Int)) (a:Option Addr) (c:Nat),v= .slice a l.length c∧AgR W (.slice a l.length c) l:=by
 obtain ⟨len,cap,a,rfl,hl,hr⟩:=open_slice Tryz.underlying51 cAr (by decide) h
 by_cases h0:0<len
 ·obtain ⟨b,o,rfl,hc⟩:=hr h0
  obtain ⟨l,h1,h2⟩:=pick (α:=List (Int × Int) × Int) (R:=fun i x=>(∃ ae ce,W.cell? ⟨b,o+i * 2,none⟩=some (.slice ae x.1.length ce)∧ER W (.slice ae x.1.length ce) x.1)∧W.cell? ⟨b,o+i * 2+1,none⟩=some (.int .i64 x.2)) len (fun i hi=>by
   obtain ⟨cs,n,y,q1,q2,q3⟩:=hc i hi
   obtain ⟨-,m,-,hfld⟩:=field_at Tryz.underlying55 q2
   rw [cAr] at hfld
   obtain ⟨z0,w0,k0,r0⟩:=hfld 0 _ rfl rfl cPu (by decide)
   obtain ⟨z1,w1,k1,r1⟩:=hfld 1 _ rfl rfl c3 (by decide)
   obtain ⟨l,ae,ce,rfl,hE⟩:=open_push r0
   obtain ⟨x1,e1,-,-⟩:=DataW.trod_int Tryz.underlying3 r1
   simp at e1
   subst e1
   exact ⟨(l,x1),⟨ae,ce,by have:=q3 0 _ k0;rwa [Nat.add_zero] at this,hE⟩,q3 1 _ k1⟩)
  subst h1
  exact ⟨l,_,cap,rfl,⟨_,cap,rfl,fun _=>⟨b,o,rfl,h2⟩⟩⟩
 ·obtain rfl:len=0:=by omega
  exact ⟨[],a,cap,rfl,⟨a,cap,rfl,fun h=>absurd rfl h⟩⟩
theorem open_vars {fuel:Nat} {v:Value} {x:DataW H × List MemPlace} (h:DataW.trod enc Tryz.prog W 0 spare true fuel 22 [v]=some x): ∃ (l:List (ByteArray × ByteArray)) (a:Option Addr) (c:Nat),v= .slice a l.length c∧VaR W (.slice a l.length c) l:=by
 obtain ⟨len,cap,a,rfl,hl,hr⟩:=open_slice Tryz.underlying22 cVa (by decide) h
 by_cases h0:0<len
 ·obtain ⟨b,o,rfl,hc⟩:=hr h0
  obtain ⟨l,h1,h2⟩:=pick (α:=ByteArray × ByteArray) (R:=fun i x=>W.cell? ⟨b,o+i * 2,none⟩=some (.string x.1)∧W.cell? ⟨b,o+i * 2+1,none⟩=some (.string x.2)) len (fun i hi=>by
   obtain ⟨cs,n,y,q1,q2,q3⟩:=hc i hi
   obtain ⟨-,m,-,hfld⟩:=field_at Tryz.underlying49 q2
   rw [cVa] at hfld
   obtain ⟨z0,w0,k0,r0⟩:=hfld 0 _ rfl rfl c9 (by decide)
   obtain ⟨z1,w1,k1,r1⟩:=hfld 1 _ rfl rfl c9 (by decide)
   obtain ⟨s0,e0,-,-⟩:=DataW.trod_string Tryz.underlying9 r0
   obtain ⟨s1,e1,-,-⟩:=DataW.trod_string Tryz.underlying9 r1
   simp at e0 e1
   subst e0 e1
   exact ⟨(s0,s1),by have:=q3 0 _ k0;rwa [Nat.add_zero] at this,q3 1 _ k1⟩)
  subst h1
  exact ⟨l,_,cap,rfl,⟨_,cap,rfl,fun _=>⟨b,o,rfl,h2⟩⟩⟩
 ·obtain rfl:len=0:=by omega
  exact ⟨[],a,cap,rfl,⟨a,cap,rfl,fun h=>absurd rfl h⟩⟩
theorem open_blocks {fuel:Nat} {v:Value} {x:DataW H × List MemPlace} (h:DataW.trod enc Tryz.prog W 0 spare true fuel 23 [v]=some x): ∃ (l:List (Int × Int × Int × Int)) (a:Option Addr) (c:Nat),v= .slice a l.length c∧BlR W (.slice a l.length c) l:=by
 obtain ⟨len,cap,a,rfl,hl,hr⟩:=open_slice Tryz.underlying23 cBl (by decide) h
 by_cases h0:0<len
 ·obtain ⟨b,o,rfl,hc⟩:=hr h0
  obtain ⟨l,h1,h2⟩:=pick (α:=Int × Int × Int × Int) (R:=fun i x=>W.cell? ⟨b,o+i * 4,none⟩=some (.int .i64 x.1)∧W.cell? ⟨b,o+i * 4+1,none⟩=some (.int .i64 x.2.1)∧W.cell? ⟨b,o+i * 4+2,none⟩=some (.int .i64 x.2.2.1)∧W.cell? ⟨b,o+i * 4+3,none⟩=some (.int .i64 x.2.2.2)) len (fun i hi=>by
   obtain ⟨cs,n,y,q1,q2,q3⟩:=hc i hi
   obtain ⟨-,m,-,hfld⟩:=field_at Tryz.underlying113 q2
   rw [cBl] at hfld
   obtain ⟨z0,w0,k0,r0⟩:=hfld 0 _ rfl rfl c3 (by decide)
   obtain ⟨z1,w1,k1,r1⟩:=hfld 1 _ rfl rfl c3 (by decide)
   obtain ⟨z2,w2,k2,r2⟩:=hfld 2 _ rfl rfl c3 (by decide)
   obtain ⟨z3,w3,k3,r3⟩:=hfld 3 _ rfl rfl c3 (by decide)
   obtain ⟨x0,e0,-,-⟩:=DataW.trod_int Tryz.underlying3 r0
   obtain ⟨x1,e1,-,-⟩:=DataW.trod_int Tryz.underlying3 r1
   obtain ⟨x2,e2,-,-⟩:=DataW.trod_int Tryz.underlying3 r2
   obtain ⟨x3,e3,-,-⟩:=DataW.trod_int Tryz.underlying3 r3
   simp at e0 e1 e2 e3
   subst e0 e1 e2 e3
   exact ⟨(x0,x1,x2,x3),by have:=q3 0 _ k0;rwa [Nat.add_zero] at this,q3 1 _ k1,q3 2 _ k2,q3 3 _ k3⟩)
  subst h1
  exact ⟨l,_,cap,rfl,⟨_,cap,rfl,fun _=>⟨b,o,rfl,h2⟩⟩⟩
 ·obtain rfl:len=0:=by omega
  exact ⟨[],a,cap,rfl,⟨a,cap,rfl,fun h=>absurd rfl h⟩⟩
theorem open_inss {fuel:Nat} {v:Value} {x:DataW H × List MemPlace} (h:DataW.trod enc Tryz.prog W 0 spare true fuel 24 [v]=some x): ∃ (l:List Cd.In) (a:Option Addr) (c:Nat),v= .slice a l.length c∧InR W (.slice a l.length c) l:=by
 obtain ⟨len,cap,a,rfl,hl,hr⟩:=open_slice Tryz.underlying24 cIn (by decide) h
 by_cases h0:0<len
 ·obtain ⟨b,o,rfl,hc⟩:=hr h0
  obtain ⟨l,h1,h2⟩:=pick (α:=Cd.In) (R:=fun i x=> ∃ ae ce aa ca,IC W b (o+i * 11) x ae ce aa ca) len (fun i hi=>by
   obtain ⟨cs,n,y,q1,q2,q3⟩:=hc i hi
   obtain ⟨-,m,-,hfld⟩:=field_at Tryz.underlying53 q2
   rw [cIn] at hfld
   obtain ⟨z0,w0,k0,r0⟩:=hfld 0 _ rfl rfl c3 (by decide)
   obtain ⟨z1,w1,k1,r1⟩:=hfld 1 _ rfl rfl c3 (by decide)
   obtain ⟨z2,w2,k2,r2⟩:=hfld 2 _ rfl rfl c3 (by decide)
   obtain ⟨z3,w3,k3,r3⟩:=hfld 3 _ rfl rfl c3 (by decide)
   obtain ⟨z4,w4,k4,r4⟩:=hfld 4 _ rfl rfl c3 (by decide)
   obtain ⟨z5,w5,k5,r5⟩:=hfld 5 _ rfl rfl c9 (by decide)
   obtain ⟨z6,w6,k6,r6⟩:=hfld 6 _ rfl rfl cPu (by decide)
   obtain ⟨z7,w7,k7,r7⟩:=hfld 7 _ rfl rfl cAs (by decide)
   obtain ⟨z8,w8,k8,r8⟩:=hfld 8 _ rfl rfl c3 (by decide)
   obtain ⟨z9,w9,k9,r9⟩:=hfld 9 _ rfl rfl c3 (by decide)
   obtain ⟨z10,w10,k10,r10⟩:=hfld 10 _ rfl rfl c3 (by decide)
   obtain ⟨x0,e0,-,-⟩:=DataW.trod_int Tryz.underlying3 r0
   obtain ⟨x1,e1,-,-⟩:=DataW.trod_int Tryz.underlying3 r1
   obtain ⟨x2,e2,-,-⟩:=DataW.trod_int Tryz.underlying3 r2
   obtain ⟨x3,e3,-,-⟩:=DataW.trod_int Tryz.underlying3 r3
   obtain ⟨x4,e4,-,-⟩:=DataW.trod_int Tryz.underlying3 r4
   obtain ⟨x8,e8,-,-⟩:=DataW.trod_int Tryz.underlying3 r8
   obtain ⟨x9,e9,-,-⟩:=DataW.trod_int Tryz.underlying3 r9
   obtain ⟨x10,e10,-,-⟩:=DataW.trod_int Tryz.underlying3 r10
   obtain ⟨s5,e5,-,-⟩:=DataW.trod_string Tryz.underlying9 r5
   obtain ⟨l6,a6,c6,rfl,hE⟩:=open_push r6
   obtain ⟨l7,a7,c7,rfl,hA⟩:=open_args r7
   simp at e0 e1 e2 e3 e4 e8 e9 e10 e5
   subst e0 e1 e2 e3 e4 e8 e9 e10 e5
   exact ⟨⟨x0,x1,x2,x3,x4,s5,l6,l7,x8,x9,x10⟩,a6,c6,a7,c7,⟨by have:=q3 0 _ k0;rwa [Nat.add_zero] at this,q3 1 _ k1,q3 2 _ k2,q3 3 _ k3,q3 4 _ k4,q3 5 _ k5,q3 6 _ k6,q3 7 _ k7,q3 8 _ k8,q3 9 _ k9,q3 10 _ k10,hE,hA⟩⟩)
  subst h1
  exact ⟨l,_,cap,rfl,⟨_,cap,rfl,fun _=>⟨b,o,rfl,h2⟩⟩⟩
 ·obtain rfl:len=0:=by omega
  exact ⟨[],a,cap,rfl,⟨a,cap,rfl,fun h=>absurd rfl h⟩⟩
theorem open_pc {fuel:Nat} {cs:List Value} {x:DataW H × List MemPlace} (h:DataW.trod enc Tryz.prog W 0 spare true fuel 26 cs=some x): ∃ (q:PV) (p:Cd.Pr),cs=(q.cells p).toList∧PC q p W:=by
 obtain ⟨hl,m,-,hfld⟩:=field_at Tryz.underlying26 h
 rw [cPr] at hl hfld
 obtain ⟨u0,y0,g0,t0⟩:=hfld 0 _ rfl rfl c9 (by decide)
 obtain ⟨u1,y1,g1,t1⟩:=hfld 1 _ rfl rfl cVs (by decide)
 obtain ⟨u2,y2,g2,t2⟩:=hfld 2 _ rfl rfl c3 (by decide)
 obtain ⟨u3,y3,g3,t3⟩:=hfld 3 _ rfl rfl cBs (by decide)
 obtain ⟨u4,y4,g4,t4⟩:=hfld 4 _ rfl rfl cIs (by decide)
 obtain ⟨s,e0,-,-⟩:=DataW.trod_string Tryz.underlying9 t0
 obtain ⟨n,e2,-,-⟩:=DataW.trod_int Tryz.underlying3 t2
 simp at e0 e2
 subst e0 e2
 obtain ⟨vs,av,cv,rfl,hv⟩:=open_vars t1
 obtain ⟨bs,ab,cb,rfl,hb⟩:=open_blocks t3
 obtain ⟨is,ai,ci,rfl,hi⟩:=open_inss t4
 refine ⟨⟨av,cv,ab,cb,ai,ci⟩,⟨s,vs,n,bs,is⟩,?_,⟨hv,hb,hi⟩⟩
 match cs,hl with
 |[c0,c1,c2,c3,c4],_=>
  simp at g0 g1 g2 g3 g4
  subst g0 g1 g2 g3 g4
  rfl
end
end Go.Proofs.YteeocekjekclbaaGreatDoor
