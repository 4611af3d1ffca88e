import Derived.Test.YthcapfojofahkaaGreatDoorMbt
import Derived.Test.YthcapfojofahkaaGreatDoorMbs
import Derived.ChangeArms
import Derived.Test.YthcapfojofahkaaGreatDoorMay
namespace Go.Proofs.YthcapfojofahkaaGreatDoor
open Go.RowKit
theorem spot_none {w:World} {a:Addr} {v:Value} (h:w.cell? a=some v):a=⟨a.block,a.off,none⟩:=by
 obtain ⟨b,o,sp⟩:=a
 cases sp with
 |none=>rfl
 |some x=>
  unfold World.cell? at h
  split at h<;> simp at h
theorem rows_build {w:World} {R:Sx.Tr→List Value→Prop} {Q:Sx.Tr→Prop} {b off z:Nat} (hz: ∀ d c,R d c→c.length=z) (len:Nat)
  (h: ∀ i,i<len→ ∃ d c,R d c∧Q d∧ ∀ (j:Nat) u,c[j]? =some u→w.cell? ⟨b,off+(i * z+j),none⟩=some u):
  ∃ l cs,l.length=len∧Rw R l cs∧(∀ (j:Nat) u,cs[j]? =some u→w.cell? ⟨b,off+j,none⟩=some u)∧ ∀ (i:Nat) d,l[i]? =some d→Q d:=by
 induction len with
 |zero=>exact ⟨[],[],rfl,rfl,by simp,by simp⟩
 |succ len ih=>
  obtain ⟨l,cs,h1,h2,h3,h4⟩:=ih (fun i hi=>h i (by omega))
  obtain ⟨d,c,g1,g2,g3⟩:=h len (by omega)
  have hl:=h2.len hz
  refine ⟨l++[d],cs++c,by simp [h1],h2.snoc g1,fun j u hu=> ?_,fun i e hi=> ?_⟩
  ·by_cases hj:j<cs.length
   ·rw [List.getElem?_append_left hj] at hu
    exact h3 j u hu
   ·rw [List.getElem?_append_right (by omega)] at hu
    have:=g3 _ u hu
    rwa [show len * z+(j - cs.length)=j from by rw [hl,h1] at *;omega] at this
  ·by_cases hil:i<l.length
   ·rw [List.getElem?_append_left hil] at hi
    exact h4 i e hi
   ·rw [List.getElem?_append_right (by omega)] at hi
    cases hk:i - l.length with
    |zero=>rw [hk] at hi;simp at hi;subst hi;exact g2
    |succ k=>rw [hk] at hi;simp at hi
section
variable {H:Type} {enc:TypeId × Value→H} {W:World} {spare:Nat→Bool}
theorem open_rows {t e:TypeId} {z fuel:Nat} {v:Value} {x:DataW H × List MemPlace} (ht:Tryz.prog.underlying t=some (.slice e)) (hc:Tryz.prog.cellsOf e=z) (hz0:0<z) {R:Sx.Tr→List Value→Prop} {Q:Sx.Tr→Prop} (hz: ∀ d c,R d c→c.length=z)
  (h:DataW.trod enc Tryz.prog W 0 spare true fuel t [v]=some x) (he: ∀ n cs y,fuel=n+1→DataW.trod enc Tryz.prog W 0 spare true n e cs=some y→ ∃ d,R d cs∧Q d):
  ∃ l,Sl R W (fun _=>True) l v∧l.length≤9223372036854775807∧ ∀ (i:Nat) d,l[i]? =some d→Q d:=by
 rcases DataW.trod_slice ht h with ⟨h0,-⟩|⟨a,len,cap,elems,rest,n,hf,h0,-,-,hlc,hcm,hel,hall,-⟩
 ·simp at h0
  subst h0
  exact ⟨[],Sl.nil _ _ _ _ _,by simp,by simp⟩
 ·simp at h0
  subst h0
  have hlen:len≤9223372036854775807:=by unfold maxLen at hcm;omega
  by_cases h0:len=0
  ·subst h0
   exact ⟨[],Sl.nil _ _ _ _ _,by simp,by simp⟩
  ·have hone: ∀ i,i<len→ ∃ cs y,W.cells? 0 (a.add (i * z)) z=some cs∧DataW.trod enc Tryz.prog W 0 spare true n e cs=some y:=fun i hi=>by
    have h1:=hall i hi
    rw [List.getElem?_eq_getElem (by omega),hc] at h1
    obtain ⟨cs,h2,h3⟩:=Option.bind_eq_some_iff.1 h1
    exact ⟨cs,_,h2,h3⟩
   have ha:a=⟨a.block,a.off,none⟩:=by
    obtain ⟨cs,y,h1,-⟩:=hone 0 (by omega)
    obtain ⟨-,h2,h3⟩:=World.cells?_some h1
    have h4:=h3 0 hz0
    rw [List.getElem?_eq_getElem (by omega)] at h4
    have h5:=spot_none h4
    obtain ⟨b,o,sp⟩:=a
    simpa [Addr.add] using h5
   obtain ⟨b,o,sp⟩:=a
   simp only [Addr.mk.injEq,true_and] at ha
   subst ha
   obtain ⟨l,cs,h1,h2,h3,h4⟩:=rows_build (w:=W) (R:=R) (Q:=Q) (b:=b) (off:=o) hz len (fun i hi=>by
    obtain ⟨cs,y,g1,g2⟩:=hone i hi
    obtain ⟨d,g3,g4⟩:=he n cs y hf g2
    obtain ⟨-,g5,g6⟩:=World.cells?_some g1
    refine ⟨d,cs,g3,g4,fun j u hu=> ?_⟩
    have hj:j<z:=by
     have:=(List.getElem?_eq_some_iff.1 hu).1
     omega
    have g7:=g6 j hj
    rw [hu,Addr.add_mid,Addr.add_mid,Nat.add_assoc] at g7
    exact g7)
   exact ⟨l,⟨_,cap,by rw [h1],.inr ⟨b,o,cs,rfl,trivial,h2,h3⟩⟩,by omega,h4⟩
theorem field_at {t:TypeId} {fs:Array Field} {fuel:Nat} {cs:List Value} {x:DataW H × List MemPlace} (ht:Tryz.prog.underlying t=some (.struct fs)) (h:DataW.trod enc Tryz.prog W 0 spare true fuel t cs=some x):
  cs.length=Tryz.prog.cellsOf t∧ ∃ n,fuel=n+1∧ ∀ (i:Nat) (f:Field),fs[i]? =some f→f.offset=i→Tryz.prog.cellsOf f.type=1→i<Tryz.prog.cellsOf t→ ∃ u y,cs[i]? =some u∧DataW.trod enc Tryz.prog W 0 spare true n f.type [u]=some y:=by
 obtain ⟨xs,n,hf,-,hl,hx,hall⟩:=DataW.trod_struct ht h
 refine ⟨hl,n,hf,fun i f hfi ho hc hi=> ?_⟩
 have h1:=hall i f hfi
 have hix:i<xs.length:=by
  rw [hx]
  rcases Nat.lt_or_ge i fs.size with h'|h'
  ·exact h'
  ·rw [Array.getElem?_eq_none h'] at hfi;cases hfi
 rw [List.getElem?_eq_getElem hix,ho,hc] at h1
 have hic:i<cs.length:=by omega
 have h2:(cs.drop i).take 1=[cs[i]]:=by
  rw [List.drop_eq_getElem_cons hic]
  rfl
 rw [h2] at h1
 exact ⟨cs[i],_,List.getElem?_eq_getElem hic,h1⟩
end
end Go.Proofs.YthcapfojofahkaaGreatDoor
namespace Go.Proofs.YthcapfojofahkaaGreatDoor
open Go.RowKit
theorem cE:Tryz.prog.cellsOf 49=4:=by kernel_rfl
theorem cS:Tryz.prog.cellsOf 51=9:=by kernel_rfl
theorem cG:Tryz.prog.cellsOf 43=4:=by kernel_rfl
theorem cP:Tryz.prog.cellsOf 44=2:=by kernel_rfl
theorem c2:Tryz.prog.cellsOf 2=1:=by kernel_rfl
theorem c3:Tryz.prog.cellsOf 3=1:=by kernel_rfl
theorem c9:Tryz.prog.cellsOf 9=1:=by kernel_rfl
theorem cEs:Tryz.prog.cellsOf 47=1:=by kernel_rfl
theorem cSs:Tryz.prog.cellsOf 41=1:=by kernel_rfl
theorem cPs:Tryz.prog.cellsOf 40=1:=by kernel_rfl
theorem cGs:Tryz.prog.cellsOf 22=1:=by kernel_rfl
theorem bs_id (s:ByteArray):bs s.data.toList=s:=by simp [bs]
theorem four {α:Type} {l:List α} {a b c d:α} (hl:l.length=4) (h0:l[0]? =some a) (h1:l[1]? =some b) (h2:l[2]? =some c) (h3:l[3]? =some d):l=[a,b,c,d]:=by
 match l,hl with
 |[w,x,y,z],_=>simp at h0 h1 h2 h3;rw [h0,h1,h2,h3]
section
variable {H:Type} {enc:TypeId × Value→H} {W:World} {spare:Nat→Bool}
theorem open_EL (fuel:Nat): ∀ (N:Nat),fuel≤N→ ∀ (v:Value) (x:DataW H × List MemPlace),DataW.trod enc Tryz.prog W 0 spare true fuel 47 [v]=some x→ ∃ l,EL W (fun _=>True) N l v∧LbE N l:=by
 induction fuel using Nat.strongRecOn with
 |ind fuel ih=>
  intro N hN v x h
  cases fuel with
  |zero=>simp [DataW.trod] at h
  |succ f=>
   obtain ⟨N',rfl⟩: ∃ N',N=N'+1:=⟨N - 1,by omega⟩
   obtain ⟨l,h1,h2,h3⟩:=open_rows (R:=RE W (fun _=>True) N') (Q:=fun d=>LbE N' (Sx.eL d)) Tryz.underlying47 cE (by decide) RE_len h (fun n cs y hf hy=>by
    obtain ⟨hl,m,hm,hfld⟩:=field_at Tryz.underlying49 hy
    rw [cE] at hl hfld
    obtain ⟨u0,y0,g0,t0⟩:=hfld 0 _ rfl rfl c3 (by decide)
    obtain ⟨u1,y1,g1,t1⟩:=hfld 1 _ rfl rfl c9 (by decide)
    obtain ⟨u2,y2,g2,t2⟩:=hfld 2 _ rfl rfl c2 (by decide)
    obtain ⟨u3,y3,g3,t3⟩:=hfld 3 _ rfl rfl cEs (by decide)
    obtain ⟨op,e0,-,-⟩:=DataW.trod_int Tryz.underlying3 t0
    obtain ⟨s,e1,-,-⟩:=DataW.trod_string Tryz.underlying9 t1
    obtain ⟨k,e2,-,-⟩:=DataW.trod_int Tryz.underlying2 t2
    simp at e0 e1 e2
    subst e0 e1 e2
    obtain ⟨L,hL,hLb⟩:=ih m (by omega) N' (by omega) u3 y3 t3
    refine ⟨Sx.tE op s.data.toList k L,⟨op,s.data.toList,k,L,u3,rfl,?_,hL⟩,hLb⟩
    rw [bs_id]
    exact four hl g0 g1 g2 g3)
   exact ⟨l,EL.of_sl h1,h2,h3⟩
theorem open_SL (fuel:Nat): ∀ (N:Nat),fuel≤N→ ∀ (v:Value) (x:DataW H × List MemPlace),DataW.trod enc Tryz.prog W 0 spare true fuel 41 [v]=some x→ ∃ l,SL W (fun _=>True) N l v∧LbS N l:=by
 induction fuel using Nat.strongRecOn with
 |ind fuel ih=>
  intro N hN v x h
  cases fuel with
  |zero=>simp [DataW.trod] at h
  |succ f=>
   obtain ⟨N',rfl⟩: ∃ N',N=N'+1:=⟨N - 1,by omega⟩
   obtain ⟨l,h1,h2,h3⟩:=open_rows (R:=RS W (fun _=>True) N') (Q:=fun d=>LbE N' (Sx.sE d)∧LbS N' (Sx.sB d)∧LbS N' (Sx.sO d)) Tryz.underlying41 cS (by decide) RS_len h (fun n cs y hf hy=>by
    obtain ⟨hl,m,hm,hfld⟩:=field_at Tryz.underlying51 hy
    rw [cS] at hl hfld
    obtain ⟨u0,y0,g0,t0⟩:=hfld 0 _ rfl rfl c3 (by decide)
    obtain ⟨u1,y1,g1,t1⟩:=hfld 1 _ rfl rfl c3 (by decide)
    obtain ⟨u2,y2,g2,t2⟩:=hfld 2 _ rfl rfl c9 (by decide)
    obtain ⟨u3,y3,g3,t3⟩:=hfld 3 _ rfl rfl c9 (by decide)
    obtain ⟨u4,y4,g4,t4⟩:=hfld 4 _ rfl rfl c9 (by decide)
    obtain ⟨u5,y5,g5,t5⟩:=hfld 5 _ rfl rfl c3 (by decide)
    obtain ⟨u6,y6,g6,t6⟩:=hfld 6 _ rfl rfl cEs (by decide)
    obtain ⟨u7,y7,g7,t7⟩:=hfld 7 _ rfl rfl cSs (by decide)
    obtain ⟨u8,y8,g8,t8⟩:=hfld 8 _ rfl rfl cSs (by decide)
    obtain ⟨D,e0,-,-⟩:=DataW.trod_int Tryz.underlying3 t0
    obtain ⟨at',e1,-,-⟩:=DataW.trod_int Tryz.underlying3 t1
    obtain ⟨A,e2,-,-⟩:=DataW.trod_string Tryz.underlying9 t2
    obtain ⟨B,e3,-,-⟩:=DataW.trod_string Tryz.underlying9 t3
    obtain ⟨T,e4,-,-⟩:=DataW.trod_string Tryz.underlying9 t4
    obtain ⟨k,e5,-,-⟩:=DataW.trod_int Tryz.underlying3 t5
    simp at e0 e1 e2 e3 e4 e5
    subst e0 e1 e2 e3 e4 e5
    obtain ⟨E,hE,hEb⟩:=open_EL m N' (by omega) u6 y6 t6
    obtain ⟨body,hB,hBb⟩:=ih m (by omega) N' (by omega) u7 y7 t7
    obtain ⟨els,hL,hLb⟩:=ih m (by omega) N' (by omega) u8 y8 t8
    refine ⟨Sx.tS D at' A.data.toList B.data.toList T.data.toList k E body els,⟨D,at',A.data.toList,B.data.toList,T.data.toList,k,E,body,els,u6,u7,u8,rfl,?_,hE,hB,hL⟩,hEb,hBb,hLb⟩
    rw [bs_id,bs_id,bs_id]
    match cs,hl with
    |[z0,z1,z2,z3,z4,z5,z6,z7,z8],_=>
     simp at g0 g1 g2 g3 g4 g5 g6 g7 g8
     rw [g0,g1,g2,g3,g4,g5,g6,g7,g8])
   exact ⟨l,h1,h2,h3⟩
theorem open_PL (fuel:Nat) (v:Value) (x:DataW H × List MemPlace) (h:DataW.trod enc Tryz.prog W 0 spare true fuel 40 [v]=some x): ∃ l,Sl RP W (fun _=>True) l v∧l.length≤9223372036854775807:=by
 obtain ⟨l,h1,h2,-⟩:=open_rows (R:=RP) (Q:=fun _=>True) Tryz.underlying40 cP (by decide) RP_len h (fun n cs y hf hy=>by
  obtain ⟨hl,m,hm,hfld⟩:=field_at Tryz.underlying44 hy
  rw [cP] at hl hfld
  obtain ⟨u0,y0,g0,t0⟩:=hfld 0 _ rfl rfl c9 (by decide)
  obtain ⟨u1,y1,g1,t1⟩:=hfld 1 _ rfl rfl c9 (by decide)
  obtain ⟨A,e0,-,-⟩:=DataW.trod_string Tryz.underlying9 t0
  obtain ⟨B,e1,-,-⟩:=DataW.trod_string Tryz.underlying9 t1
  simp at e0 e1
  subst e0 e1
  refine ⟨Sx.tP A.data.toList B.data.toList,⟨A.data.toList,B.data.toList,rfl,?_⟩,trivial⟩
  rw [bs_id,bs_id]
  match cs,hl with
  |[z0,z1],_=>
   simp at g0 g1
   rw [g0,g1])
 exact ⟨l,h1,h2⟩
theorem open_GL (fuel N:Nat) (hN:fuel≤N) (v:Value) (x:DataW H × List MemPlace) (h:DataW.trod enc Tryz.prog W 0 spare true fuel 22 [v]=some x): ∃ l,Sl (RG W (fun _=>True) N) W (fun _=>True) l v∧LbG N l:=by
 obtain ⟨l,h1,h2,h3⟩:=open_rows (R:=RG W (fun _=>True) N) (Q:=fun d=>LbS N (Sx.gB d)∧(Sx.gP d).length≤9223372036854775807) Tryz.underlying22 cG (by decide) RG_len h (fun n cs y hf hy=>by
  obtain ⟨hl,m,hm,hfld⟩:=field_at Tryz.underlying43 hy
  rw [cG] at hl hfld
  obtain ⟨u0,y0,g0,t0⟩:=hfld 0 _ rfl rfl c9 (by decide)
  obtain ⟨u1,y1,g1,t1⟩:=hfld 1 _ rfl rfl c3 (by decide)
  obtain ⟨u2,y2,g2,t2⟩:=hfld 2 _ rfl rfl cPs (by decide)
  obtain ⟨u3,y3,g3,t3⟩:=hfld 3 _ rfl rfl cSs (by decide)
  obtain ⟨A,e0,-,-⟩:=DataW.trod_string Tryz.underlying9 t0
  obtain ⟨k,e1,-,-⟩:=DataW.trod_int Tryz.underlying3 t1
  simp at e0 e1
  subst e0 e1
  obtain ⟨ps,hP,hPb⟩:=open_PL m u2 y2 t2
  obtain ⟨body,hB,hBb⟩:=open_SL m N (by omega) u3 y3 t3
  refine ⟨Sx.tG A.data.toList k ps body,⟨A.data.toList,k,ps,body,u2,u3,rfl,?_,hP,hB⟩,hBb,hPb⟩
  rw [bs_id]
  exact four hl g0 g1 g2 g3)
 exact ⟨l,h1,h2,h3⟩
end
theorem bs_hun {l:List UInt8} (h: ¬ 100<(bs l).size):l.length≤1099511627776:=by
 rw [bsz] at h
 omega
def WEn (n:Nat):Prop:= ∀ (w:World) (P:Nat→Prop) (l:List Sx.Tr) (v:Value) (x:Int),EL w P n l v→LbE n l→0≤x→x≤8000→
 Calls Tryz.prog 34 #[v,.int .i64 x] w fun e w'=> ∃ r:Int,e= .returned (.int .i64 r)∧r≤x∧ -9223372036854775808≤r∧(0≤r→r=x - Sx.wE n l)∧(0≤r→ ∀ (i:Nat) d,l[i]? =some d→Rn.nmE n d)∧w'=w
set_option maxRecDepth 100000 in
set_option maxHeartbeats 1000000 in
theorem weighExprsN_step (n:Nat) (ih:WEn n):WEn (n+1):=by
 intro w P l v x h hb hx0 hx1
 obtain ⟨a,cap,rfl⟩:=h.slice
 have HS:=hide h
 have IH:=hide ih
 have hl:=hb.1
 have HLB:=hide hb.2
 have hwE:Sx.wE (n+1) l=l.length+Sx.sum (fun d=>Sx.wE n (Sx.eL d)) l:=rfl
 have HWE:=hide hwE
 clear h ih hb hwE
 go_enter Tryz.func34,Tryz.ntmps34
 go_wp2
 go_loopw [1,5] (fun lv iv wr=> ∃ (k:Nat) (y:Int),k≤l.length∧iv= .int .i64 k∧lv= .int .i64 y∧y≤x∧ -9223372036854775808≤y∧(0≤y→y=x - l.length - (Sx.sum (fun d=>Sx.wE n (Sx.eL d)) (l.take k):Nat))∧Hid (0≤y→ ∀ (i:Nat) d,i<k→l[i]? =some d→Rn.nmE (n+1) d)∧wr=w) (fun _ iv _=>l.length - (intOf iv).toNat)
 case atStart=>exact ⟨0,x - l.length,Nat.zero_le _,rfl,rfl,by omega,by omega,fun _=>by simp [Sx.sum],(fun _ i d hi=>absurd hi (by omega)),rfl⟩
 case round=>
  obtain ⟨k,y,hk,rfl,rfl,hy1,hy2,hy3,HNM,rfl⟩:=hrel
  by_cases hlt:k<l.length
  ·by_cases hy:0≤y
   ·have hye:=hy3 hy
    have d1:decide ((k:Int)<(l.length:Int))=true:=by simp;omega
    have d2:decide (0≤y)=true:=by simpa using hy
    obtain ⟨b,off,op,nm,z,L,aL,cL,rfl,-,hd,m0,m1,m2,m3,hL⟩:=HS.out.nth k hlt
    have hst:Sx.sum (fun d=>Sx.wE n (Sx.eL d)) (l.take (k+1))=Sx.sum (fun d=>Sx.wE n (Sx.eL d)) (l.take k)+Sx.wE n L:=Sx.sum_take (fun d=>Sx.wE n (Sx.eL d)) l k _ hd
    have HST:=hide hst
    have HD:=hide hd
    have HC:=hide (IH.out _ P L (.slice aL L.length cL) y hL (HLB.out k _ hd) hy (by omega))
    have hk0:(0:Int)≤(k:Int):=by omega
    have hk1:(k:Int)<(l.length:Int):=by omega
    have HYE:=hide hye
    clear hst hL hd hy3 hye
    by_cases hn:100<(bs nm).size
    ·have d3:decide ((100:Int)<((bs nm).size:Int))=true:=by simp;omega
     go_wp2
     go_ret
     exact ⟨_,rfl,by omega,by omega,fun h=>by omega,fun h=>absurd h (by omega),rfl⟩
    ·have d3:decide ((100:Int)<((bs nm).size:Int))=false:=by simp;omega
     go_wp2_with fail
     refine HC.out.mono ?_
     rintro e w1 ⟨r,rfl,hr1,hr2,hr3,hr4,rfl⟩
     have HR4:=hide hr4
     clear hr4
     go_wp2
     go_roundw
     case rel=>exact ⟨k+1,r,by omega,by go_num,rfl,by omega,by omega,fun h=>by have:=hr3 h;have:=HYE.out;rw [HST.out];push_cast;omega,(fun h i d hi hdi=>by
      by_cases hik:i<k
      ·exact HNM.out hy i d hik hdi
      ·obtain rfl:i=k:=by omega
       have hde:=Option.some.inj (hdi.symm.trans HD.out)
       rw [hde]
       exact ⟨bs_hun hn,HR4.out h⟩),by trivial⟩
     case measure=>simp [intOf];omega
   ·have d1:decide ((k:Int)<(l.length:Int))=true:=by simp;omega
    have d2:decide (0≤y)=false:=by simpa using hy
    go_wp2
    go_ret
    exact ⟨_,rfl,by omega,by omega,fun h=>by omega,fun h=>absurd h (by omega),rfl⟩
  ·obtain rfl:k=l.length:=by omega
   have d1:decide ((l.length:Int)<(l.length:Int))=false:=by simp
   go_wp2
   go_ret
   refine ⟨_,rfl,by omega,by omega,fun h=> ?_,(fun h i d hd=>HNM.out h i d (List.getElem?_eq_some_iff.1 hd).1 hd),rfl⟩
   have:=hy3 h
   rw [List.take_length] at this
   rw [HWE.out]
   push_cast
   omega
theorem weighExprsN_any (n:Nat):WEn n:=by
 induction n with
 |zero=>intro w P l v x h;cases h
 |succ n ih=>exact weighExprsN_step n ih
def WSn (n:Nat):Prop:= ∀ (w:World) (P:Nat→Prop) (l:List Sx.Tr) (v:Value) (x:Int),SL w P n l v→LbS n l→0≤x→x≤8000→
 Calls Tryz.prog 17 #[v,.int .i64 x] w fun e w'=> ∃ r:Int,e= .returned (.int .i64 r)∧r≤x∧ -9223372036854775808≤r∧(0≤r→r=x - Sx.wS n l)∧(0≤r→Rn.nmS n l)∧Kp [] w w'
set_option maxRecDepth 100000 in
set_option maxHeartbeats 1000000 in
theorem weighStmtsN_step (n:Nat) (ih:WSn n):WSn (n+1):=by
 intro w P l v x h hb hx0 hx1
 obtain ⟨a,cap,rfl⟩:=h.slice
 have HS:=hide h
 have IH:=hide ih
 have IHE:=hide (weighExprsN_any n)
 have hl:=hb.1
 have HLB:=hide hb.2
 have hwE:Sx.wS (n+1) l=l.length+Sx.sum (fun d=>Sx.wE n (Sx.sE d)+Sx.wS n (Sx.sB d)+Sx.wS n (Sx.sO d)) l:=rfl
 have HWE:=hide hwE
 clear h ih hb hwE
 go_enter Tryz.func17,Tryz.ntmps17
 go_wp2
 go_loopw [1,5] (fun lv iv wr=> ∃ (k:Nat) (y:Int),k≤l.length∧iv= .int .i64 k∧lv= .int .i64 y∧y≤x∧ -9223372036854775808≤y∧(0≤y→y=x - l.length - (Sx.sum (fun d=>Sx.wE n (Sx.sE d)+Sx.wS n (Sx.sB d)+Sx.wS n (Sx.sO d)) (l.take k):Nat))∧Hid (0≤y→ ∀ (i:Nat) t,i<k→l[i]? =some t→(Sx.sH t).2.1.length≤1099511627776∧(Sx.sH t).2.2.1.length≤1099511627776∧(Sx.sH t).2.2.2.1.length≤1099511627776∧(∀ (j:Nat) x,(Sx.sE t)[j]? =some x→Rn.nmE n x)∧Rn.nmS n (Sx.sB t)∧Rn.nmS n (Sx.sO t))∧Hid (Kp [] w wr)) (fun _ iv _=>l.length - (intOf iv).toNat)
 case atStart=>exact ⟨0,x - l.length,Nat.zero_le _,rfl,rfl,by omega,by omega,fun _=>by simp [Sx.sum],(fun _ i d hi=>absurd hi (by omega)),Kp.refl _ _⟩
 case round=>
  obtain ⟨k,y,hk,rfl,rfl,hy1,hy2,hy3,HNM,HK⟩:=hrel
  by_cases hlt:k<l.length
  ·by_cases hy:0≤y
   ·have hye:=hy3 hy
    have d1:decide ((k:Int)<(l.length:Int))=true:=by simp;omega
    have d2:decide (0≤y)=true:=by simpa using hy
    obtain ⟨b,off,D,at',A,B,T,N,E,body,els,uE,uB,uL,rfl,-,hd,m0,m1,m2,m3,m4,m5,m6,m7,m8,hE,hB,hL⟩:=(HS.out.keep HK.out (by simp)).nth k hlt
    obtain ⟨aE,cE,rfl⟩:=hE.slice
    obtain ⟨aB,cB,rfl⟩:=hB.slice
    obtain ⟨aL,cL,rfl⟩:=hL.slice
    have hst:Sx.sum (fun d=>Sx.wE n (Sx.sE d)+Sx.wS n (Sx.sB d)+Sx.wS n (Sx.sO d)) (l.take (k+1))=Sx.sum (fun d=>Sx.wE n (Sx.sE d)+Sx.wS n (Sx.sB d)+Sx.wS n (Sx.sO d)) (l.take k)+(Sx.wE n E+Sx.wS n body+Sx.wS n els):=Sx.sum_take (fun d=>Sx.wE n (Sx.sE d)+Sx.wS n (Sx.sB d)+Sx.wS n (Sx.sO d)) l k _ hd
    have HST:=hide hst
    have HD:=hide hd
    obtain ⟨b1,b2,b3⟩:=HLB.out k _ hd
    have HB1:Hid (LbE n E):=b1
    have HB2:Hid (LbS n body):=b2
    have HB3:Hid (LbS n els):=b3
    have HE:=hide hE
    have HB:=hide hB
    have HL:=hide hL
    have hk0:(0:Int)≤(k:Int):=by omega
    have hk1:(k:Int)<(l.length:Int):=by omega
    have HYE:=hide hye
    have hblt:=World.block_lt_of_cell? _ _ m0
    clear hst hE hB hL hd hy3 hye b1 b2 b3
    by_cases hn1:100<(bs A).size
    ·have d3:decide ((100:Int)<((bs A).size:Int))=true:=by simp;omega
     go_wp2
     go_ret
     exact ⟨_,rfl,by omega,by omega,fun h=>by omega,fun h=>absurd h (by omega),HK.out.alloc _⟩
    ·have d3:decide ((100:Int)<((bs A).size:Int))=false:=by simp;omega
     by_cases hn2:100<(bs B).size
     ·have d4:decide ((100:Int)<((bs B).size:Int))=true:=by simp;omega
      go_wp2
      go_ret
      exact ⟨_,rfl,by omega,by omega,fun h=>by omega,fun h=>absurd h (by omega),HK.out.alloc _⟩
     ·have d4:decide ((100:Int)<((bs B).size:Int))=false:=by simp;omega
      by_cases hn3:100<(bs T).size
      ·have d5:decide ((100:Int)<((bs T).size:Int))=true:=by simp;omega
       go_wp2
       go_ret
       exact ⟨_,rfl,by omega,by omega,fun h=>by omega,fun h=>absurd h (by omega),HK.out.alloc _⟩
      ·have d5:decide ((100:Int)<((bs T).size:Int))=false:=by simp;omega
       go_wp2_with fail
       refine (IHE.out _ P E _ y (HE.out.keep ((Kp.refl [] _).alloc _) (by simp)) HB1.out hy (by omega)).mono ?_
       rintro e w1 ⟨r1,rfl,hr1,hr2,hr3,hr4,rfl⟩
       have HR4:=hide hr4
       clear hr4
       by_cases g1:0≤r1
       ·have d6:decide (0≤r1)=true:=by simpa using g1
        go_wp2_with fail
        refine (IH.out _ P body _ r1 (HB.out.keep ((Kp.refl [] _).alloc _) (by simp)) HB2.out g1 (by omega)).mono ?_
        rintro e w2 ⟨r2,rfl,hs1,hs2,hs3,hs4,hk2⟩
        have HS4:=hide hs4
        clear hs4
        have K2:Hid (Kp [] wr w2):=((Kp.refl [] _).alloc _).trans hk2
        have c8:w2.cell? ⟨wr.heap.size,8,none⟩=some (.slice aL els.length cL):=hk2.some (by simp [go_sem]) (by simp)
        clear hk2
        by_cases g2:0≤r2
        ·have d7:decide (0≤r2)=true:=by simpa using g2
         go_wp2_with fail
         refine (IH.out _ P els _ r2 (HL.out.keep K2.out (by simp)) HB3.out g2 (by omega)).mono ?_
         rintro e w3 ⟨r3,rfl,ht1,ht2,ht3,ht4,hk3⟩
         have HT4:=hide ht4
         clear ht4
         have K3:=hide (K2.out.trans hk3)
         clear hk3
         go_wp2
         go_roundw
         case rel=>exact ⟨k+1,r3,by omega,by go_num,rfl,by omega,by omega,fun h=>by have:=ht3 h;have:=hs3 g2;have:=hr3 g1;have:=HYE.out;rw [HST.out];push_cast;omega,(fun h i d hi hdi=>by
          by_cases hik:i<k
          ·exact HNM.out hy i d hik hdi
          ·obtain rfl:i=k:=by omega
           have hde:=Option.some.inj (hdi.symm.trans HD.out)
           rw [hde]
           exact ⟨bs_hun hn1,bs_hun hn2,bs_hun hn3,HR4.out g1,HS4.out g2,HT4.out h⟩),HK.out.trans K3.out⟩
         case measure=>simp [intOf];omega
        ·have d7:decide (0≤r2)=false:=by simpa using g2
         go_wp2
         go_roundw
         case rel=>exact ⟨k+1,r2,by omega,by go_num,rfl,by omega,by omega,fun h=>by omega,(fun h=>absurd h (by omega)),HK.out.trans K2.out⟩
         case measure=>simp [intOf];omega
       ·have d6:decide (0≤r1)=false:=by simpa using g1
        go_wp2
        go_roundw
        case rel=>exact ⟨k+1,r1,by omega,by go_num,rfl,by omega,by omega,fun h=>by omega,(fun h=>absurd h (by omega)),HK.out.alloc _⟩
        case measure=>simp [intOf];omega
   ·have d1:decide ((k:Int)<(l.length:Int))=true:=by simp;omega
    have d2:decide (0≤y)=false:=by simpa using hy
    go_wp2
    go_ret
    exact ⟨_,rfl,by omega,by omega,fun h=>by omega,fun h=>absurd h (by omega),HK.out⟩
  ·obtain rfl:k=l.length:=by omega
   have d1:decide ((l.length:Int)<(l.length:Int))=false:=by simp
   go_wp2
   go_ret
   refine ⟨_,rfl,by omega,by omega,fun h=> ?_,(fun h i d hd=>HNM.out h i d (List.getElem?_eq_some_iff.1 hd).1 hd),HK.out⟩
   have:=hy3 h
   rw [List.take_length] at this
   rw [HWE.out]
   push_cast
   omega
theorem weighStmtsN_any (n:Nat):WSn n:=by
 induction n with
 |zero=>intro w P l v x h;cases h
 |succ n ih=>exact weighStmtsN_step n ih
end Go.Proofs.YthcapfojofahkaaGreatDoor
namespace Go.Proofs.YthcapfojofahkaaGreatDoor
open Go.RowKit
def Gnm (n:Nat) (d:Sx.Tr):Prop:=(Sx.gN d).length≤1099511627776∧Rn.nmP (Sx.gP d)∧Rn.nmS n (Sx.gB d)
def GPk (n:Nat) (l:List Sx.Tr) (w:World) (e:Ending) (w':World):Prop:= ∃ g,e= .returned (.bool g)∧(g=false→(Sm n l∧ ∀ (i:Nat) d,l[i]? =some d→Gnm n d)∧Sx.wG n l≤8000∧l.length≤100)∧Kp [] w w'
set_option maxRecDepth 100000 in
set_option maxHeartbeats 2000000 in
theorem greatK_any (n:Nat) (w:World) (P:Nat→Prop) (l:List Sx.Tr) (a:Option Addr) (cap:Nat) (h:Sl (RG w P n) w P l (.slice a l.length cap)) (hb:LbG n l):
  Calls Tryz.prog 7 #[.agg #[.slice a l.length cap]] w (GPk n l w):=by
 have HS:=hide h
 have hl:=hb.len
 have HLB:=hide hb.each
 have IH:=hide (weighStmtsN_any n)
 clear h hb
 by_cases h100:100<l.length
 ·have d1:decide ((100:Int)<(l.length:Int))=true:=by simp;omega
  go_enter Tryz.func7,Tryz.ntmps7
  go_wp2
  go_ret
  exact ⟨true,rfl,(fun h=>by simp at h),(Kp.refl _ _).alloc _⟩
 ·have d1:decide ((100:Int)<(l.length:Int))=false:=by simp;omega
  go_enter Tryz.func7,Tryz.ntmps7
  go_wp2
  go_loopw [3,4] (fun lv iv wr=> ∃ (k:Nat) (y:Int),k≤l.length∧iv= .int .i64 k∧lv= .int .i64 y∧0≤y∧y≤8000∧y=8000 - (Sx.sum (fun d=>Sx.wS n (Sx.gB d)) (l.take k):Nat)∧Hid (∀ (i:Nat) d,i<k→l[i]? =some d→(Sx.gP d).length≤100∧Gnm n d)∧Hid (Kp [] w wr)∧wr.cell? ⟨w.heap.size,0,none⟩=some (.slice a l.length cap)) (fun _ iv _=>l.length - (intOf iv).toNat)
  case atStart=>exact ⟨0,8000,Nat.zero_le _,rfl,rfl,by omega,by omega,by simp [Sx.sum],fun i d hi=>absurd hi (by omega),(Kp.refl _ _).alloc _,by simp [go_sem]⟩
  case round=>
   obtain ⟨wo,hwo⟩: ∃ wo,wo=wr:=⟨_,rfl⟩
   subst hwo
   obtain ⟨k,y,hk,rfl,rfl,hy0,hy1,hye,HPS,HK,p0⟩:=hrel
   by_cases hlt:k<l.length
   ·obtain ⟨b,off,nm,at',ps,body,uP,uB,rfl,-,hd,m0,m1,m2,m3,hP,hB⟩:=GL.nth (HS.out.keep HK.out (by simp) (fun d c h=>h.keep HK.out (by simp))) k hlt
    obtain ⟨aP,cP,rfl,-⟩:=id hP
    obtain ⟨aB,cB,rfl⟩:=hB.slice
    have hst:Sx.sum (fun d=>Sx.wS n (Sx.gB d)) (l.take (k+1))=Sx.sum (fun d=>Sx.wS n (Sx.gB d)) (l.take k)+Sx.wS n body:=Sx.sum_take (fun d=>Sx.wS n (Sx.gB d)) l k _ hd
    have HST:=hide hst
    obtain ⟨b1,b2⟩:=HLB.out k _ hd
    have HB1:Hid (LbS n body):=b1
    have HD:=hide hd
    have HP:=hide hP
    have HB:=hide hB
    have HYE:=hide hye
    have hk0:(0:Int)≤(k:Int):=by omega
    have hk1:(k:Int)<(l.length:Int):=by omega
    have hblt:=World.block_lt_of_cell? _ _ m0
    have hblt3:=World.block_lt_of_cell? _ _ p0
    clear hst hP hB hd hye b1 b2
    by_cases hn1:100<(bs nm).size
    ·have d3:decide ((100:Int)<((bs nm).size:Int))=true:=by simp;omega
     go_wp2
     go_ret
     exact ⟨true,rfl,(fun h=>by simp at h),HK.out.alloc _⟩
    ·have d3:decide ((100:Int)<((bs nm).size:Int))=false:=by simp;omega
     by_cases hn2:100<ps.length
     ·have d4:decide ((100:Int)<(ps.length:Int))=true:=by simp;omega
      go_wp2
      go_ret
      exact ⟨true,rfl,(fun h=>by simp at h),HK.out.alloc _⟩
     ·have d4:decide ((100:Int)<(ps.length:Int))=false:=by simp;omega
      go_wp2
      go_loopw [6] (fun iv wr=> ∃ q:Nat,q≤ps.length∧iv= .int .i64 q∧Hid (∀ (i:Nat) p,i<q→ps[i]? =some p→(Sx.pH p).1.length≤1099511627776∧(Sx.pH p).2.length≤1099511627776)∧wr=wo.alloc (.cells #[.string (bs nm),.int .i64 at',.slice aP ps.length cP,.slice aB body.length cB] 43)) (fun iv _=>ps.length - (intOf iv).toNat)
      case atStart=>exact ⟨0,Nat.zero_le _,rfl,(fun i p hi=>absurd hi (by omega)),rfl⟩
      case round=>
       obtain ⟨q,hq,rfl,HPN,rfl⟩:=hrel
       by_cases hlq:q<ps.length
       ·obtain ⟨g,og,nm5,T5,rfl,-,hd5,s0,s1⟩:=PL.nth HP.out q hlq
        have HD5:=hide hd5
        clear hd5
        have hglt:=World.block_lt_of_cell? _ _ s0
        have hq0:(0:Int)≤(q:Int):=by omega
        have hq1:(q:Int)<(ps.length:Int):=by omega
        by_cases hn5:100<(bs nm5).size
        ·have d5:decide ((100:Int)<((bs nm5).size:Int))=true:=by simp;omega
         go_wp2
         go_ret
         exact ⟨true,rfl,(fun h=>by simp at h),HK.out.alloc _⟩
        ·have d5:decide ((100:Int)<((bs nm5).size:Int))=false:=by simp;omega
         by_cases hn6:100<(bs T5).size
         ·have d6:decide ((100:Int)<((bs T5).size:Int))=true:=by simp;omega
          go_wp2
          go_ret
          exact ⟨true,rfl,(fun h=>by simp at h),HK.out.alloc _⟩
         ·have d6:decide ((100:Int)<((bs T5).size:Int))=false:=by simp;omega
          go_wp2
          go_roundw
          case rel=>exact ⟨q+1,by omega,by go_num,(fun i p hi hp=>by
           by_cases hiq:i<q
           ·exact HPN.out i p hiq hp
           ·obtain rfl:i=q:=by omega
            have hpe:=Option.some.inj (hp.symm.trans HD5.out)
            rw [hpe]
            exact ⟨bs_hun hn5,bs_hun hn6⟩),by trivial⟩
          case measure=>simp [intOf];omega
       ·obtain rfl:q=ps.length:=by omega
        go_wp2_with fail
        refine (IH.out _ P body _ y (HB.out.keep ((Kp.refl [] _).alloc _) (by simp)) HB1.out hy0 hy1).mono ?_
        rintro e w2 ⟨r,rfl,hr1,hr2,hr3,hr4,hk2⟩
        have HR4:=hide hr4
        clear hr4
        have K2:Hid (Kp [] wo w2):=((Kp.refl [] _).alloc _).trans hk2
        have q0:w2.cell? ⟨w.heap.size,0,none⟩=some (.slice (some ⟨b,off,none⟩) l.length cap):=K2.out.some p0 (by simp)
        clear hk2
        by_cases g1:r<0
        ·have d6:decide (r<0)=true:=by simpa using g1
         go_wp2
         go_ret
         exact ⟨true,rfl,(fun h=>by simp at h),HK.out.trans K2.out⟩
        ·have d6:decide (r<0)=false:=by simpa using g1
         go_wp2
         go_roundw
         case rel=>
          refine ⟨k+1,r,by omega,by go_num,rfl,by omega,by omega,?_,?_,HK.out.trans K2.out,q0⟩
          ·have:=hr3 (by omega)
           have:=HYE.out
           rw [HST.out]
           push_cast
           omega
          ·intro i d hi hd
           by_cases hik:i<k
           ·exact HPS.out i d hik hd
           ·obtain rfl:i=k:=by omega
            have hde:=Option.some.inj (hd.symm.trans HD.out)
            rw [hde]
            exact ⟨show ps.length≤100 by omega,bs_hun hn1,(fun j p hp=>HPN.out j p (List.getElem?_eq_some_iff.1 hp).1 hp),HR4.out (by omega)⟩
         case measure=>simp [intOf];omega
   ·obtain rfl:k=l.length:=by omega
    go_wp2
    go_ret
    refine ⟨false,rfl,fun _=>⟨⟨⟨by omega,fun i d hd=> ?_,?_⟩,fun i d hd=>(HPS.out i d (List.getElem?_eq_some_iff.1 hd).1 hd).2⟩,?_,by omega⟩,HK.out⟩
    ·have:=(HPS.out i d (List.getElem?_eq_some_iff.1 hd).1 hd).1
     omega
    ·have e:Sx.wG n l=Sx.sum (fun d=>Sx.wS n (Sx.gB d)) l:=rfl
     rw [List.take_length] at hye
     omega
    ·have e:Sx.wG n l=Sx.sum (fun d=>Sx.wS n (Sx.gB d)) l:=rfl
     rw [List.take_length] at hye
     omega
end Go.Proofs.YthcapfojofahkaaGreatDoor
namespace Go.Proofs.YthcapfojofahkaaGreatDoor
open Go.RowKit
theorem Rw.mono' {R R':Sx.Tr→List Value→Prop} {l:List Sx.Tr} {cs:List Value} (h:Rw R l cs) (hR: ∀ d c,d ∈ l→R d c→R' d c):Rw R' l cs:=by
 induction l generalizing cs with
 |nil=>exact h
 |cons d r ih=>
  obtain ⟨c1,c2,h1,h2,h3⟩:=h
  exact ⟨c1,c2,h1,hR _ _ (by simp) h2,ih h3 (fun d c hd=>hR d c (by simp [hd]))⟩
theorem Sl.mono' {R R':Sx.Tr→List Value→Prop} {w:World} {P:Nat→Prop} {l:List Sx.Tr} {v:Value} (h:Sl R w P l v) (hR: ∀ d c,d ∈ l→R d c→R' d c):Sl R' w P l v:=by
 obtain ⟨a,cap,hv,h⟩:=h
 refine ⟨a,cap,hv,h.imp id ?_⟩
 rintro ⟨b,off,cs,ha,hb,hr,hc⟩
 exact ⟨b,off,cs,ha,hb,hr.mono' hR,hc⟩
theorem Rn.sum_mem {f:Sx.Tr→Nat} {l:List Sx.Tr} {d:Sx.Tr} (h:d ∈ l):f d+1≤l.length+Sx.sum f l:=by
 induction l with
 |nil=>cases h
 |cons a r ih=>
  simp only [Sx.sum,List.length_cons]
  rcases List.mem_cons.1 h with rfl|h
  ·omega
  ·have:=ih h;omega
theorem EL.lower (N:Nat): ∀ {w:World} {P:Nat→Prop} {l:List Sx.Tr} {v:Value} (m:Nat),EL w P N l v→Sx.wE N l<m→EL w P m l v:=by
 induction N with
 |zero=>intro w P l v m h;cases h
 |succ N ih=>
  intro w P l v m h hm
  obtain ⟨m',rfl⟩: ∃ m',m=m'+1:=⟨m - 1,by omega⟩
  obtain ⟨a,cap,hv,h⟩:=h
  refine ⟨a,cap,hv,h.imp id ?_⟩
  rintro ⟨b,off,ha,hb,hc⟩
  refine ⟨b,off,ha,hb,fun i d hd=> ?_⟩
  obtain ⟨op,nm,k,L,u,h1,h2,h3,h4,h5,h6⟩:=hc i d hd
  refine ⟨op,nm,k,L,u,h1,h2,h3,h4,h5,ih m' h6 ?_⟩
  have e:Sx.wE (N+1) l=l.length+Sx.sum (fun d=>Sx.wE N (Sx.eL d)) l:=rfl
  have:=Rn.sum_mem (f:=fun d=>Sx.wE N (Sx.eL d)) (List.mem_of_getElem? hd)
  rw [h1] at this
  have this':Sx.wE N L+1≤l.length+Sx.sum (fun d=>Sx.wE N (Sx.eL d)) l:=this
  omega
theorem SL.lower (N:Nat): ∀ {w:World} {P:Nat→Prop} {l:List Sx.Tr} {v:Value} (m:Nat),SL w P N l v→Sx.wS N l<m→SL w P m l v:=by
 induction N with
 |zero=>intro w P l v m h;cases h
 |succ N ih=>
  intro w P l v m h hm
  obtain ⟨m',rfl⟩: ∃ m',m=m'+1:=⟨m - 1,by omega⟩
  rw [SL_succ] at h ⊢
  refine h.mono' ?_
  rintro d c hd ⟨D,at',A,B,T,k,E,body,els,uE,uB,uL,h1,h2,h3,h4,h5⟩
  have e:Sx.wS (N+1) l=l.length+Sx.sum (fun d=>Sx.wE N (Sx.sE d)+Sx.wS N (Sx.sB d)+Sx.wS N (Sx.sO d)) l:=rfl
  have:=Rn.sum_mem (f:=fun d=>Sx.wE N (Sx.sE d)+Sx.wS N (Sx.sB d)+Sx.wS N (Sx.sO d)) hd
  rw [h1] at this
  have this':Sx.wE N E+Sx.wS N body+Sx.wS N els+1≤l.length+Sx.sum (fun d=>Sx.wE N (Sx.sE d)+Sx.wS N (Sx.sB d)+Sx.wS N (Sx.sO d)) l:=this
  exact ⟨D,at',A,B,T,k,E,body,els,uE,uB,uL,h1,h2,h3.lower N m' (by omega),ih m' h4 (by omega),ih m' h5 (by omega)⟩
theorem Rn.sum_le {f g:Sx.Tr→Nat} (h: ∀ d,f d≤g d) (l:List Sx.Tr):Sx.sum f l≤Sx.sum g l:=by
 induction l with
 |nil=>exact Nat.le_refl _
 |cons a r ih=>simp only [Sx.sum];have:=h a;omega
theorem Rn.wE_le (m:Nat): ∀ (N:Nat) (l:List Sx.Tr),m≤N→Sx.wE m l≤Sx.wE N l:=by
 induction m with
 |zero=>intro N l _;simp [Sx.wE]
 |succ m ih=>
  intro N l h
  obtain ⟨N',rfl⟩: ∃ N',N=N'+1:=⟨N - 1,by omega⟩
  have:=Rn.sum_le (f:=fun d=>Sx.wE m (Sx.eL d)) (g:=fun d=>Sx.wE N' (Sx.eL d)) (fun d=>ih N' _ (by omega)) l
  show l.length+_≤l.length+_
  omega
theorem Rn.wS_le (m:Nat): ∀ (N:Nat) (l:List Sx.Tr),m≤N→Sx.wS m l≤Sx.wS N l:=by
 induction m with
 |zero=>intro N l _;simp [Sx.wS]
 |succ m ih=>
  intro N l h
  obtain ⟨N',rfl⟩: ∃ N',N=N'+1:=⟨N - 1,by omega⟩
  have:=Rn.sum_le (f:=fun d=>Sx.wE m (Sx.sE d)+Sx.wS m (Sx.sB d)+Sx.wS m (Sx.sO d)) (g:=fun d=>Sx.wE N' (Sx.sE d)+Sx.wS N' (Sx.sB d)+Sx.wS N' (Sx.sO d)) (fun d=>by
   have h1:=Rn.wE_le m N' (Sx.sE d) (by omega)
   have h2:=ih N' (Sx.sB d) (by omega)
   have h3:=ih N' (Sx.sO d) (by omega)
   omega) l
  show l.length+_≤l.length+_
  omega
theorem Rn.nmE_le (m:Nat): ∀ (N:Nat) (d:Sx.Tr),m≤N→Rn.nmE N d→Rn.nmE m d:=by
 induction m with
 |zero=>intro N d _ _;exact trivial
 |succ m ih=>
  intro N d h hn
  obtain ⟨N',rfl⟩: ∃ N',N=N'+1:=⟨N - 1,by omega⟩
  exact ⟨hn.1,fun i x hx=>ih N' x (by omega) (hn.2 i x hx)⟩
theorem Rn.nmS_le (m:Nat): ∀ (N:Nat) (l:List Sx.Tr),m≤N→Rn.nmS N l→Rn.nmS m l:=by
 induction m with
 |zero=>intro N l _ _;exact trivial
 |succ m ih=>
  intro N l h hn
  obtain ⟨N',rfl⟩: ∃ N',N=N'+1:=⟨N - 1,by omega⟩
  intro i t ht
  obtain ⟨h1,h2,h3,h4,h5,h6⟩:=hn i t ht
  exact ⟨h1,h2,h3,fun j x hx=>Rn.nmE_le m N' x (by omega) (h4 j x hx),ih N' _ (by omega) h5,ih N' _ (by omega) h6⟩
end Go.Proofs.YthcapfojofahkaaGreatDoor
