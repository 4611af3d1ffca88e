import Derived.Test.YtcdcoiobpbdmpaaGreatDoorMae
import Derived.Lib.SliceRun
import Derived.Test.YtcdcoiobpbdmpaaGreatDoorMad
import Derived.Deep.AppendLies
import Derived.Deep.RegionLaw
import Derived.Deep.RegionHeldLaw
import Derived.ChangeArms
import Derived.Test.YtcdcoiobpbdmpaaGreatDoorMbr
namespace Go.Proofs.YtcdcoiobpbdmpaaGreatDoor
open Go.RowKit
end Go.Proofs.YtcdcoiobpbdmpaaGreatDoor
namespace Go.Proofs.YtcdcoiobpbdmpaaGreatDoor
open Go.RowKit
end Go.Proofs.YtcdcoiobpbdmpaaGreatDoor
namespace Go.Proofs.YtcdcoiobpbdmpaaGreatDoor
open Go.RowKit
theorem RP_len (d:Sx.Tr) (c:List Value) (h:RP d c):c.length=2:=by
 obtain ⟨nm,T,_,rfl⟩:=h
 rfl
theorem PL.nth {w:World} {P:Nat→Prop} {l:List Sx.Tr} {a:Option Addr} {cap:Nat} (h:Sl RP w P l (.slice a l.length cap)) (i:Nat) (hi:i<l.length):
  ∃ b off nm T,a=some ⟨b,off,none⟩∧P b∧l[i]? =some (Sx.tP nm T)∧w.cell? ⟨b,off+i * 2,none⟩=some (.string (bs nm))∧w.cell? ⟨b,off+i * 2+1,none⟩=some (.string (bs T)):=by
 obtain ⟨a',cap',hv,h⟩:=h
 cases hv
 rcases h with h|⟨b,off,cs,ha,hb,hr,hc⟩
 ·subst h;simp at hi
 ·obtain ⟨c,hR,hcu⟩:=hr.at RP_len i _ (List.getElem?_eq_getElem hi)
  obtain ⟨nm,T,hd,rfl⟩:=hR
  have hx:=fun j u hu=>hc _ u (hcu j u hu)
  simp only [←Nat.add_assoc] at hx
  exact ⟨b,off,nm,T,ha,hb,by rw [List.getElem?_eq_getElem hi,hd],hx 0 _ rfl,hx 1 _ rfl⟩
structure Sm (n:Nat) (l:List Sx.Tr):Prop where
 len:l.length≤1000000
 ps: ∀ (i:Nat) d,l[i]? =some d→(Sx.gP d).length≤1000000
 w:Sx.wG n l≤1000000
end Go.Proofs.YtcdcoiobpbdmpaaGreatDoor
namespace Go.Proofs.YtcdcoiobpbdmpaaGreatDoor
open Go.RowKit
def LbE:Nat→List Sx.Tr→Prop
 |0,_=>True
 |n+1,l=>l.length≤9223372036854775807∧ ∀ (i:Nat) d,l[i]? =some d→LbE n (Sx.eL d)
def LbS:Nat→List Sx.Tr→Prop
 |0,_=>True
 |n+1,l=>l.length≤9223372036854775807∧ ∀ (i:Nat) d,l[i]? =some d→LbE n (Sx.sE d)∧LbS n (Sx.sB d)∧LbS n (Sx.sO d)
end Go.Proofs.YtcdcoiobpbdmpaaGreatDoor
namespace Go.Proofs.YtcdcoiobpbdmpaaGreatDoor
open Go.RowKit
structure LbG (n:Nat) (l:List Sx.Tr):Prop where
 len:l.length≤9223372036854775807
 each: ∀ (i:Nat) d,l[i]? =some d→LbS n (Sx.gB d)∧(Sx.gP d).length≤9223372036854775807
theorem Tryz.infoParam:(Tryz.prog.info? 55).map (fun i=>(i.zero,i.size,i.bytes))=some (some (.agg #[.string ⟨#[]⟩,.string ⟨#[]⟩]),2,32):=by kernel_rfl
theorem Tryz.infoStmt:(Tryz.prog.info? 75).map (fun i=>(i.zero,i.size,i.bytes))=some (some (.agg #[.int .i64 0,.int .i64 0,.string ⟨#[]⟩,.string ⟨#[]⟩,.string ⟨#[]⟩,.int .i64 0,.slice none 0 0,.slice none 0 0,.slice none 0 0]),9,144):=by kernel_rfl
theorem Tryz.infoStage:(Tryz.prog.info? 53).map (fun i=>(i.zero,i.size,i.bytes))=some (some (.agg #[.string ⟨#[]⟩,.int .i64 0,.slice none 0 0,.slice none 0 0]),4,72):=by kernel_rfl
theorem own_blk {w:World} {B t z n:Nat} {v:Value} {xs:List Value} (h:w.ownsRow B t z v n xs): ∀ k,k ∈ v.ownBlock.toList→B≤k:=by
 intro k hk
 rcases h.2 with ⟨rfl,_⟩|⟨g,cap,cur,rfl,hB,_⟩
 ·simp [Value.ownBlock] at hk
 ·simp [Value.ownBlock] at hk
  omega
theorem own_lt {w:World} {B t z n:Nat} {v:Value} {xs:List Value} (h:w.ownsRow B t z v n xs): ∀ k,some k=v.ownBlock→k<w.heap.size:=by
 intro k hk
 rcases h.2 with ⟨rfl,_⟩|⟨g,cap,cur,rfl,hB,hg,_⟩
 ·simp [Value.ownBlock] at hk
 ·simp [Value.ownBlock] at hk
  rw [hk]
  rcases Nat.lt_or_ge g w.heap.size with h'|h'
  ·exact h'
  ·rw [Array.getElem?_eq_none h'] at hg;cases hg
theorem own_keep {w w':World} {S:List Nat} {B t z n:Nat} {v:Value} {xs:List Value} (h:w.ownsRow B t z v n xs) (hk:Kp S w w') (hS: ∀ k,k ∈ S→k<B):w'.ownsRow B t z v n xs:=by
 refine ⟨h.1,h.2.imp id (fun ⟨g,cap,cur,hv,hB,hg,r⟩=>⟨g,cap,cur,hv,hB,?_,r⟩)⟩
 rw [hk.block g (by
  rcases Nat.lt_or_ge g w.heap.size with h'|h'
  ·exact h'
  ·rw [Array.getElem?_eq_none h'] at hg;cases hg) (fun hm=>by have:=hS g hm;omega)]
 exact hg
theorem Kp.of_grown {w w':World} {row:Option Nat} (h:w.grownBy w' row):Kp row.toList w w':=
 ⟨h.os,h.tape,h.output,h.size,fun k hk hn=>h.block k hk (fun e=>hn (by rw [←e];simp))⟩
theorem cells_nine_new (w:World) (n:Nat) (hn:n=w.heap.size) (a b c d e f g h i:Value) (t:TypeId): ∀ (j:Nat) (v:Value),[a,b,c,d,e,f,g,h,i][j]? =some v→(w.alloc (.cells #[a,b,c,d,e,f,g,h,i] t)).cell? ((⟨n,0,none⟩:Addr).add j)=some v:=by
 intro j v hj
 subst hn
 rw [Addr.add_mid]
 match j,hj with
 |0,hj=>simp at hj;subst hj;simp [go_sem]
 |1,hj=>simp at hj;subst hj;simp [go_sem]
 |2,hj=>simp at hj;subst hj;simp [go_sem]
 |3,hj=>simp at hj;subst hj;simp [go_sem]
 |4,hj=>simp at hj;subst hj;simp [go_sem]
 |5,hj=>simp at hj;subst hj;simp [go_sem]
 |6,hj=>simp at hj;subst hj;simp [go_sem]
 |7,hj=>simp at hj;subst hj;simp [go_sem]
 |8,hj=>simp at hj;subst hj;simp [go_sem]
theorem rows_grow {R:World→(Nat→Prop)→Sx.Tr→List Value→Prop} (hkeep: ∀ (w w':World) (S:List Nat) (P:Nat→Prop) d c,R w P d c→Kp S w w'→(∀ k,k ∈ S→ ¬ P k)→R w' P d c)
  (hbase: ∀ (w:World) (P P':Nat→Prop) d c,R w P d c→(∀ b,b<w.heap.size→P b→P' b)→R w P' d c) {B g:Nat} {W w3:World} {v:Value} {l:List Sx.Tr} {cs:List Value}
  (h:Rw (R W (fun b=>B≤b∧some b ≠ v.ownBlock)) l cs) (hg:W.grownBy w3 v.ownBlock) (hat:v.ownBlock=some g∨g=W.heap.size):Rw (R w3 (fun b=>B≤b∧some b ≠ some g)) l cs:=by
 refine h.mono (fun d c hd=> ?_)
 have h1:=hbase W _ (fun b=>B≤b∧some b ≠ v.ownBlock∧b ≠ g) d c hd (fun b hb hP=>⟨hP.1,hP.2,fun e=>by
  rcases hat with ha|ha
  ·exact hP.2 (by rw [ha,e])
  ·omega⟩)
 have h2:=hkeep W w3 _ _ d c h1 (Kp.of_grown hg) (fun k hk hP=>hP.2.1 (Option.mem_toList.1 hk).symm)
 exact hbase w3 _ _ d c h2 (fun b _ hP=>⟨hP.1,fun e=>hP.2.2 (by simpa using e)⟩)
section
variable {w w':World} {S:List Nat} {b:Nat} {D at':Int} {A B T:ByteArray} {N:Int} {uE uB uL:Value}
end
def RE (w:World) (P:Nat→Prop) (n:Nat) (d:Sx.Tr) (c:List Value):Prop:= ∃ op nm k L u,d=Sx.tE op nm k L∧c=[.int .i64 op,.string (bs nm),.int .i64 k,u]∧EL w P n L u
theorem RE_len {w:World} {P:Nat→Prop} {n:Nat} (d:Sx.Tr) (c:List Value) (h:RE w P n d c):c.length=4:=by
 obtain ⟨op,nm,k,L,u,_,rfl,_⟩:=h;rfl
theorem EL.of_sl {w:World} {P:Nat→Prop} {n:Nat} {l:List Sx.Tr} {v:Value} (h:Sl (RE w P n) w P l v):EL w P (n+1) l v:=by
 obtain ⟨a,cap,hv,h⟩:=h
 refine ⟨a,cap,hv,h.imp id ?_⟩
 rintro ⟨b,off,cs,ha,hb,hr,hc⟩
 refine ⟨b,off,ha,hb,fun i d hd=> ?_⟩
 obtain ⟨c,⟨op,nm,k,L,u,h1,rfl,h3⟩,hcc⟩:=hr.at (z:=4) RE_len i d hd
 refine ⟨op,nm,k,L,u,h1,?_,?_,?_,?_,h3⟩
 ·simpa using hc _ _ (hcc 0 _ rfl)
 ·simpa [Nat.add_assoc] using hc _ _ (hcc 1 _ rfl)
 ·simpa [Nat.add_assoc] using hc _ _ (hcc 2 _ rfl)
 ·simpa [Nat.add_assoc] using hc _ _ (hcc 3 _ rfl)
theorem spot_none {w:World} {a:Addr} {v:Value} (h:w.cell? a=some v):a=⟨a.block,a.off,none⟩:=by
 obtain ⟨b,o,sp⟩:=a
 cases sp with
 |none=>rfl
 |some x=>
  unfold World.cell? at h
  split at h<;> simp at h
theorem rows_build {w:World} {R:Sx.Tr→List Value→Prop} {Q:Sx.Tr→Prop} {b off z:Nat} (hz: ∀ d c,R d c→c.length=z) (len:Nat)
  (h: ∀ i,i<len→ ∃ d c,R d c∧Q d∧ ∀ (j:Nat) u,c[j]? =some u→w.cell? ⟨b,off+(i * z+j),none⟩=some u):
  ∃ l cs,l.length=len∧Rw R l cs∧(∀ (j:Nat) u,cs[j]? =some u→w.cell? ⟨b,off+j,none⟩=some u)∧ ∀ (i:Nat) d,l[i]? =some d→Q d:=by
 induction len with
 |zero=>exact ⟨[],[],rfl,rfl,by simp,by simp⟩
 |succ len ih=>
  obtain ⟨l,cs,h1,h2,h3,h4⟩:=ih (fun i hi=>h i (by omega))
  obtain ⟨d,c,g1,g2,g3⟩:=h len (by omega)
  have hl:=h2.len hz
  refine ⟨l++[d],cs++c,by simp [h1],h2.snoc g1,fun j u hu=> ?_,fun i e hi=> ?_⟩
  ·by_cases hj:j<cs.length
   ·rw [List.getElem?_append_left hj] at hu
    exact h3 j u hu
   ·rw [List.getElem?_append_right (by omega)] at hu
    have:=g3 _ u hu
    rwa [show len * z+(j - cs.length)=j from by rw [hl,h1] at *;omega] at this
  ·by_cases hil:i<l.length
   ·rw [List.getElem?_append_left hil] at hi
    exact h4 i e hi
   ·rw [List.getElem?_append_right (by omega)] at hi
    cases hk:i - l.length with
    |zero=>rw [hk] at hi;simp at hi;subst hi;exact g2
    |succ k=>rw [hk] at hi;simp at hi
section
variable {H:Type} {enc:TypeId × Value→H} {W:World} {spare:Nat→Bool}
theorem open_rows {t e:TypeId} {z fuel:Nat} {v:Value} {x:DataW H × List MemPlace} (ht:Tryz.prog.underlying t=some (.slice e)) (hc:Tryz.prog.cellsOf e=z) (hz0:0<z) {R:Sx.Tr→List Value→Prop} {Q:Sx.Tr→Prop} (hz: ∀ d c,R d c→c.length=z)
  (h:DataW.trod enc Tryz.prog W 0 spare true fuel t [v]=some x) (he: ∀ n cs y,fuel=n+1→DataW.trod enc Tryz.prog W 0 spare true n e cs=some y→ ∃ d,R d cs∧Q d):
  ∃ l,Sl R W (fun _=>True) l v∧l.length≤9223372036854775807∧ ∀ (i:Nat) d,l[i]? =some d→Q d:=by
 rcases DataW.trod_slice ht h with ⟨h0,-⟩|⟨a,len,cap,elems,rest,n,hf,h0,-,-,hlc,hcm,hel,hall,-⟩
 ·simp at h0
  subst h0
  exact ⟨[],Sl.nil _ _ _ _ _,by simp,by simp⟩
 ·simp at h0
  subst h0
  have hlen:len≤9223372036854775807:=by unfold maxLen at hcm;omega
  by_cases h0:len=0
  ·subst h0
   exact ⟨[],Sl.nil _ _ _ _ _,by simp,by simp⟩
  ·have hone: ∀ i,i<len→ ∃ cs y,W.cells? 0 (a.add (i * z)) z=some cs∧DataW.trod enc Tryz.prog W 0 spare true n e cs=some y:=fun i hi=>by
    have h1:=hall i hi
    rw [List.getElem?_eq_getElem (by omega),hc] at h1
    obtain ⟨cs,h2,h3⟩:=Option.bind_eq_some_iff.1 h1
    exact ⟨cs,_,h2,h3⟩
   have ha:a=⟨a.block,a.off,none⟩:=by
    obtain ⟨cs,y,h1,-⟩:=hone 0 (by omega)
    obtain ⟨-,h2,h3⟩:=World.cells?_some h1
    have h4:=h3 0 hz0
    rw [List.getElem?_eq_getElem (by omega)] at h4
    have h5:=spot_none h4
    obtain ⟨b,o,sp⟩:=a
    simpa [Addr.add] using h5
   obtain ⟨b,o,sp⟩:=a
   simp only [Addr.mk.injEq,true_and] at ha
   subst ha
   obtain ⟨l,cs,h1,h2,h3,h4⟩:=rows_build (w:=W) (R:=R) (Q:=Q) (b:=b) (off:=o) hz len (fun i hi=>by
    obtain ⟨cs,y,g1,g2⟩:=hone i hi
    obtain ⟨d,g3,g4⟩:=he n cs y hf g2
    obtain ⟨-,g5,g6⟩:=World.cells?_some g1
    refine ⟨d,cs,g3,g4,fun j u hu=> ?_⟩
    have hj:j<z:=by
     have:=(List.getElem?_eq_some_iff.1 hu).1
     omega
    have g7:=g6 j hj
    rw [hu,Addr.add_mid,Addr.add_mid,Nat.add_assoc] at g7
    exact g7)
   exact ⟨l,⟨_,cap,by rw [h1],.inr ⟨b,o,cs,rfl,trivial,h2,h3⟩⟩,by omega,h4⟩
theorem field_at {t:TypeId} {fs:Array Field} {fuel:Nat} {cs:List Value} {x:DataW H × List MemPlace} (ht:Tryz.prog.underlying t=some (.struct fs)) (h:DataW.trod enc Tryz.prog W 0 spare true fuel t cs=some x):
  cs.length=Tryz.prog.cellsOf t∧ ∃ n,fuel=n+1∧ ∀ (i:Nat) (f:Field),fs[i]? =some f→f.offset=i→Tryz.prog.cellsOf f.type=1→i<Tryz.prog.cellsOf t→ ∃ u y,cs[i]? =some u∧DataW.trod enc Tryz.prog W 0 spare true n f.type [u]=some y:=by
 obtain ⟨xs,n,hf,-,hl,hx,hall⟩:=DataW.trod_struct ht h
 refine ⟨hl,n,hf,fun i f hfi ho hc hi=> ?_⟩
 have h1:=hall i f hfi
 have hix:i<xs.length:=by
  rw [hx]
  rcases Nat.lt_or_ge i fs.size with h'|h'
  ·exact h'
  ·rw [Array.getElem?_eq_none h'] at hfi;cases hfi
 rw [List.getElem?_eq_getElem hix,ho,hc] at h1
 have hic:i<cs.length:=by omega
 have h2:(cs.drop i).take 1=[cs[i]]:=by
  rw [List.drop_eq_getElem_cons hic]
  rfl
 rw [h2] at h1
 exact ⟨cs[i],_,List.getElem?_eq_getElem hic,h1⟩
end
end Go.Proofs.YtcdcoiobpbdmpaaGreatDoor
namespace Go.Proofs.YtcdcoiobpbdmpaaGreatDoor
open Go.RowKit
theorem cE:Tryz.prog.cellsOf 112=4:=by kernel_rfl
theorem cS:Tryz.prog.cellsOf 75=9:=by kernel_rfl
theorem cG:Tryz.prog.cellsOf 53=4:=by kernel_rfl
theorem cP:Tryz.prog.cellsOf 55=2:=by kernel_rfl
theorem c2:Tryz.prog.cellsOf 2=1:=by kernel_rfl
theorem c3:Tryz.prog.cellsOf 3=1:=by kernel_rfl
theorem c9:Tryz.prog.cellsOf 9=1:=by kernel_rfl
theorem cEs:Tryz.prog.cellsOf 73=1:=by kernel_rfl
theorem cSs:Tryz.prog.cellsOf 51=1:=by kernel_rfl
theorem cPs:Tryz.prog.cellsOf 50=1:=by kernel_rfl
theorem cGs:Tryz.prog.cellsOf 22=1:=by kernel_rfl
theorem bs_id (s:ByteArray):bs s.data.toList=s:=by simp [bs]
theorem four {α:Type} {l:List α} {a b c d:α} (hl:l.length=4) (h0:l[0]? =some a) (h1:l[1]? =some b) (h2:l[2]? =some c) (h3:l[3]? =some d):l=[a,b,c,d]:=by
 match l,hl with
 |[w,x,y,z],_=>simp at h0 h1 h2 h3;rw [h0,h1,h2,h3]
section
variable {H:Type} {enc:TypeId × Value→H} {W:World} {spare:Nat→Bool}
theorem open_EL (fuel:Nat): ∀ (N:Nat),fuel≤N→ ∀ (v:Value) (x:DataW H × List MemPlace),DataW.trod enc Tryz.prog W 0 spare true fuel 73 [v]=some x→ ∃ l,EL W (fun _=>True) N l v∧LbE N l:=by
 induction fuel using Nat.strongRecOn with
 |ind fuel ih=>
  intro N hN v x h
  cases fuel with
  |zero=>simp [DataW.trod] at h
  |succ f=>
   obtain ⟨N',rfl⟩: ∃ N',N=N'+1:=⟨N - 1,by omega⟩
   obtain ⟨l,h1,h2,h3⟩:=open_rows (R:=RE W (fun _=>True) N') (Q:=fun d=>LbE N' (Sx.eL d)) Tryz.underlying73 cE (by decide) RE_len h (fun n cs y hf hy=>by
    obtain ⟨hl,m,hm,hfld⟩:=field_at Tryz.underlying112 hy
    rw [cE] at hl hfld
    obtain ⟨u0,y0,g0,t0⟩:=hfld 0 _ rfl rfl c3 (by decide)
    obtain ⟨u1,y1,g1,t1⟩:=hfld 1 _ rfl rfl c9 (by decide)
    obtain ⟨u2,y2,g2,t2⟩:=hfld 2 _ rfl rfl c2 (by decide)
    obtain ⟨u3,y3,g3,t3⟩:=hfld 3 _ rfl rfl cEs (by decide)
    obtain ⟨op,e0,-,-⟩:=DataW.trod_int Tryz.underlying3 t0
    obtain ⟨s,e1,-,-⟩:=DataW.trod_string Tryz.underlying9 t1
    obtain ⟨k,e2,-,-⟩:=DataW.trod_int Tryz.underlying2 t2
    simp at e0 e1 e2
    subst e0 e1 e2
    obtain ⟨L,hL,hLb⟩:=ih m (by omega) N' (by omega) u3 y3 t3
    refine ⟨Sx.tE op s.data.toList k L,⟨op,s.data.toList,k,L,u3,rfl,?_,hL⟩,hLb⟩
    rw [bs_id]
    exact four hl g0 g1 g2 g3)
   exact ⟨l,EL.of_sl h1,h2,h3⟩
theorem open_SL (fuel:Nat): ∀ (N:Nat),fuel≤N→ ∀ (v:Value) (x:DataW H × List MemPlace),DataW.trod enc Tryz.prog W 0 spare true fuel 51 [v]=some x→ ∃ l,SL W (fun _=>True) N l v∧LbS N l:=by
 induction fuel using Nat.strongRecOn with
 |ind fuel ih=>
  intro N hN v x h
  cases fuel with
  |zero=>simp [DataW.trod] at h
  |succ f=>
   obtain ⟨N',rfl⟩: ∃ N',N=N'+1:=⟨N - 1,by omega⟩
   obtain ⟨l,h1,h2,h3⟩:=open_rows (R:=RS W (fun _=>True) N') (Q:=fun d=>LbE N' (Sx.sE d)∧LbS N' (Sx.sB d)∧LbS N' (Sx.sO d)) Tryz.underlying51 cS (by decide) RS_len h (fun n cs y hf hy=>by
    obtain ⟨hl,m,hm,hfld⟩:=field_at Tryz.underlying75 hy
    rw [cS] at hl hfld
    obtain ⟨u0,y0,g0,t0⟩:=hfld 0 _ rfl rfl c3 (by decide)
    obtain ⟨u1,y1,g1,t1⟩:=hfld 1 _ rfl rfl c3 (by decide)
    obtain ⟨u2,y2,g2,t2⟩:=hfld 2 _ rfl rfl c9 (by decide)
    obtain ⟨u3,y3,g3,t3⟩:=hfld 3 _ rfl rfl c9 (by decide)
    obtain ⟨u4,y4,g4,t4⟩:=hfld 4 _ rfl rfl c9 (by decide)
    obtain ⟨u5,y5,g5,t5⟩:=hfld 5 _ rfl rfl c3 (by decide)
    obtain ⟨u6,y6,g6,t6⟩:=hfld 6 _ rfl rfl cEs (by decide)
    obtain ⟨u7,y7,g7,t7⟩:=hfld 7 _ rfl rfl cSs (by decide)
    obtain ⟨u8,y8,g8,t8⟩:=hfld 8 _ rfl rfl cSs (by decide)
    obtain ⟨D,e0,-,-⟩:=DataW.trod_int Tryz.underlying3 t0
    obtain ⟨at',e1,-,-⟩:=DataW.trod_int Tryz.underlying3 t1
    obtain ⟨A,e2,-,-⟩:=DataW.trod_string Tryz.underlying9 t2
    obtain ⟨B,e3,-,-⟩:=DataW.trod_string Tryz.underlying9 t3
    obtain ⟨T,e4,-,-⟩:=DataW.trod_string Tryz.underlying9 t4
    obtain ⟨k,e5,-,-⟩:=DataW.trod_int Tryz.underlying3 t5
    simp at e0 e1 e2 e3 e4 e5
    subst e0 e1 e2 e3 e4 e5
    obtain ⟨E,hE,hEb⟩:=open_EL m N' (by omega) u6 y6 t6
    obtain ⟨body,hB,hBb⟩:=ih m (by omega) N' (by omega) u7 y7 t7
    obtain ⟨els,hL,hLb⟩:=ih m (by omega) N' (by omega) u8 y8 t8
    refine ⟨Sx.tS D at' A.data.toList B.data.toList T.data.toList k E body els,⟨D,at',A.data.toList,B.data.toList,T.data.toList,k,E,body,els,u6,u7,u8,rfl,?_,hE,hB,hL⟩,hEb,hBb,hLb⟩
    rw [bs_id,bs_id,bs_id]
    match cs,hl with
    |[z0,z1,z2,z3,z4,z5,z6,z7,z8],_=>
     simp at g0 g1 g2 g3 g4 g5 g6 g7 g8
     rw [g0,g1,g2,g3,g4,g5,g6,g7,g8])
   exact ⟨l,h1,h2,h3⟩
theorem open_PL (fuel:Nat) (v:Value) (x:DataW H × List MemPlace) (h:DataW.trod enc Tryz.prog W 0 spare true fuel 50 [v]=some x): ∃ l,Sl RP W (fun _=>True) l v∧l.length≤9223372036854775807:=by
 obtain ⟨l,h1,h2,-⟩:=open_rows (R:=RP) (Q:=fun _=>True) Tryz.underlying50 cP (by decide) RP_len h (fun n cs y hf hy=>by
  obtain ⟨hl,m,hm,hfld⟩:=field_at Tryz.underlying55 hy
  rw [cP] at hl hfld
  obtain ⟨u0,y0,g0,t0⟩:=hfld 0 _ rfl rfl c9 (by decide)
  obtain ⟨u1,y1,g1,t1⟩:=hfld 1 _ rfl rfl c9 (by decide)
  obtain ⟨A,e0,-,-⟩:=DataW.trod_string Tryz.underlying9 t0
  obtain ⟨B,e1,-,-⟩:=DataW.trod_string Tryz.underlying9 t1
  simp at e0 e1
  subst e0 e1
  refine ⟨Sx.tP A.data.toList B.data.toList,⟨A.data.toList,B.data.toList,rfl,?_⟩,trivial⟩
  rw [bs_id,bs_id]
  match cs,hl with
  |[z0,z1],_=>
   simp at g0 g1
   rw [g0,g1])
 exact ⟨l,h1,h2⟩
theorem open_GL (fuel N:Nat) (hN:fuel≤N) (v:Value) (x:DataW H × List MemPlace) (h:DataW.trod enc Tryz.prog W 0 spare true fuel 22 [v]=some x): ∃ l,Sl (RG W (fun _=>True) N) W (fun _=>True) l v∧LbG N l:=by
 obtain ⟨l,h1,h2,h3⟩:=open_rows (R:=RG W (fun _=>True) N) (Q:=fun d=>LbS N (Sx.gB d)∧(Sx.gP d).length≤9223372036854775807) Tryz.underlying22 cG (by decide) RG_len h (fun n cs y hf hy=>by
  obtain ⟨hl,m,hm,hfld⟩:=field_at Tryz.underlying53 hy
  rw [cG] at hl hfld
  obtain ⟨u0,y0,g0,t0⟩:=hfld 0 _ rfl rfl c9 (by decide)
  obtain ⟨u1,y1,g1,t1⟩:=hfld 1 _ rfl rfl c3 (by decide)
  obtain ⟨u2,y2,g2,t2⟩:=hfld 2 _ rfl rfl cPs (by decide)
  obtain ⟨u3,y3,g3,t3⟩:=hfld 3 _ rfl rfl cSs (by decide)
  obtain ⟨A,e0,-,-⟩:=DataW.trod_string Tryz.underlying9 t0
  obtain ⟨k,e1,-,-⟩:=DataW.trod_int Tryz.underlying3 t1
  simp at e0 e1
  subst e0 e1
  obtain ⟨ps,hP,hPb⟩:=open_PL m u2 y2 t2
  obtain ⟨body,hB,hBb⟩:=open_SL m N (by omega) u3 y3 t3
  refine ⟨Sx.tG A.data.toList k ps body,⟨A.data.toList,k,ps,body,u2,u3,rfl,?_,hP,hB⟩,hBb,hPb⟩
  rw [bs_id]
  exact four hl g0 g1 g2 g3)
 exact ⟨l,h1,h2,h3⟩
end
def setCells (b:Nat):World→Nat→List Value→World
 |w,_,[]=>w
 |w,o,v::vs=>setCells b (w.setCell ⟨b,o,none⟩ v) (o+1) vs
theorem RD.sets {c:Cx} {n:Nat} {s:Sx.St} {B b:Nat} (hB:c.below B) (hb:B≤b) (vs:List Value): ∀ (w:World) (o:Nat),RD c w n s→RD c (setCells b w o vs) n s:=by
 induction vs with
 |nil=>exact fun w o h=>h
 |cons v vs ih=>exact fun w o h=>ih _ _ (h.set_new hB hb _)
theorem Kp.sets {S:List Nat} {a:World} {b:Nat} (hb:a.heap.size≤b∨b ∈ S) (vs:List Value): ∀ (w:World) (o:Nat),Kp S a w→Kp S a (setCells b w o vs):=by
 induction vs with
 |nil=>exact fun w o h=>h
 |cons v vs ih=>exact fun w o h=>ih _ _ (hb.elim (fun hb=>Kp.nb h hb _ _) (fun hb=>h.setCell (p:=⟨b,o,none⟩) hb _))
def z9:List Value:=[.int .i64 0,.int .i64 0,.string ⟨#[]⟩,.string ⟨#[]⟩,.string ⟨#[]⟩,.int .i64 0,.slice none 0 0,.slice none 0 0,.slice none 0 0]
def encSt (w0:World) (w':World) (d:Sx.Tr) (v:Value):Prop:= ∃ m D at' A B T N a0 x0 y0 a1 x1 y1 a2 x2 y2,v= .agg #[.int .i64 D,.int .i64 at',.string A,.string B,.string T,.int .i64 N,.slice a0 x0 y0,.slice a1 x1 y1,.slice a2 x2 y2]∧
 RS w' (fun b=>w0.heap.size≤b) m d [.int .i64 D,.int .i64 at',.string A,.string B,.string T,.int .i64 N,.slice a0 x0 y0,.slice a1 x1 y1,.slice a2 x2 y2]
theorem SB.nine {w:World} {b:Nat} {a0 a1 a2 a3 a4 a5 a6 a7 a8:Value} (h:SB w b [a0,a1,a2,a3,a4,a5,a6,a7,a8]):w.cell? ⟨b,0,none⟩=some a0∧w.cell? ⟨b,1,none⟩=some a1∧w.cell? ⟨b,2,none⟩=some a2∧w.cell? ⟨b,3,none⟩=some a3∧w.cell? ⟨b,4,none⟩=some a4∧w.cell? ⟨b,5,none⟩=some a5∧w.cell? ⟨b,6,none⟩=some a6∧w.cell? ⟨b,7,none⟩=some a7∧w.cell? ⟨b,8,none⟩=some a8:=
 ⟨h.cs 0 _ rfl,h.cs 1 _ rfl,h.cs 2 _ rfl,h.cs 3 _ rfl,h.cs 4 _ rfl,h.cs 5 _ rfl,h.cs 6 _ rfl,h.cs 7 _ rfl,h.cs 8 _ rfl⟩
def StC (K:List Nat) (f:Nat):Prop:= ∀ (c:Cx) (w:World) (n:Nat) (s:Sx.St) (d:Sx.Tr) (m:Nat) (s':Sx.St),RD c w n s→Bg.stmt K c.e c.full (Bg.block K c.e c.full f) n s=some (d,m,s')→
 Calls Tryz.prog 127 #[.pointer (some ⟨c.rb,0,none⟩)] w fun e w'=> ∃ v,encSt w w' d v∧Ok c w v m s' e w'
theorem SB.new (w:World) (b:Nat) (hb:b=w.heap.size) (vs:List Value) (t:TypeId):SB (w.alloc (.cells vs.toArray t)) b vs:=by
 subst hb
 exact ⟨fun j v hj=>by simp [go_sem,hj],fun o=>by simp [go_sem],by simp⟩
structure SE (c:Cx) (w w':World) (n:Nat) (s:Sx.St) (D at':Int) (A B T:ByteArray) (N:Int) (uE uB:Value) (d:Sx.Tr):Prop where
 rd:RD c w' n s
 kp:Kp [c.rb] w w'
 z:SB w' w.heap.size z9
 x:SB w' (w.heap.size+1) [.int .i64 D,.int .i64 at',.string A,.string B,.string T,.int .i64 N,uE,uB,.slice none 0 0]
 r: ∃ k,RS w' (fun b=>w.heap.size<b) k d [.int .i64 D,.int .i64 at',.string A,.string B,.string T,.int .i64 N,uE,uB,.slice none 0 0]
theorem fourB (D:Nat) (h:11≤D) (h':D<15):((D:Int) == 11)=true∨(((D:Int) == 11)=false∧((D:Int) == 12)=true)∨(((D:Int) == 11)=false∧((D:Int) == 12)=false∧((D:Int) == 13)=true)∨(((D:Int) == 11)=false∧((D:Int) == 12)=false∧((D:Int) == 13)=false∧((D:Int) == 14)=true):=by
 have:D=11∨D=12∨D=13∨D=14:=by omega
 rcases this with rfl|rfl|rfl|rfl<;> decide
set_option maxRecDepth 100000 in
set_option maxHeartbeats 4000000 in
theorem stmt_ok (K:List Nat) (f:Nat) (hK: ∀ D,D ∈ K→0<D∧(D<11→PlC (D:Int))∧(11≤D→D<15∧NsC K f D)):StC K f:=by
 intro c w n s d m s' h hx
 rcases oif hx with ⟨⟨h300,hDK⟩,hx⟩|⟨_,hx⟩
 rotate_left
 ·cases hx
 obtain ⟨D,hD⟩: ∃ D,Sx.doOf (Sx.txt (c.full.drop n))=D:=⟨_,rfl⟩
 rw [hD] at hx hDK
 obtain ⟨h0,hPl,hNs⟩:=hK D hDK
 have hd1:=doOf_any (bs (Sx.txt (c.full.drop n)))
 rw [bs_list,hD] at hd1
 have hlt:n<c.full.length:=by
  rcases Nat.lt_or_ge n c.full.length with h1|h1
  ·exact h1
  ·rw [List.drop_eq_nil_of_le h1] at hD
   exact absurd hD.symm (by show ¬ D=0;omega)
 have HDO:=hide hd1
 have HH:=hide h
 have HB:=hide h.lt
 have hr:=h.rlt
 have q3: ¬ c.rb=w.heap.size:=by omega
 have q4: ¬ c.rb=w.heap.size+1:=by omega
 have d0:((D:Int) == 0)=false:=by simp;omega
 have d3:((s.stmts:Int) == 300)=false:=by simp;omega
 have c3:=h.c3
 have c1:=h.c1
 have f1:=h.fz 1
 have f3:=h.fz 3
 have hm:=h.hm
 have HAP:Hid (c.apart (w.heap.size+1)):=⟨by omega,fun hne=>by have:=HB.out.2 hne;omega⟩
 generalize hpl:Sx.place c.e (c.full.drop n)=pl at *
 have HPL:=hide hpl
 have HPl:=hide hPl
 have HNs:=hide hNs
 have HX:=hide hx
 clear h hd1 hpl hPl hNs hx hK hDK hD
 go_enter Tryz.func127,Tryz.ntmps127
 go_wp2_with fail
 refine (text_any c _ n s (by exact HH.out.alloc _)).mono ?_
 rintro e w1 ⟨rfl,k1,rfl⟩
 go_wp2_with fail
 refine (HDO.out _).mono ?_
 rintro e w1 ⟨rfl,hw1⟩
 rw [hw1]
 clear hw1 w1
 go_wp2_with fail
 refine (at_any c _ n s (by exact (HH.out.alloc _).drewN _)).mono ?_
 rintro e w1 ⟨rfl,k2,rfl⟩
 rw [HPL.out]
 have hz:Hid (∀ w2,Kp [w.heap.size+1,c.rb] ((((((w.alloc (.cells z9.toArray 75)).drewN (k1+k2)).setCell ⟨c.rb,3,none⟩ (.int .i64 ((s.stmts:Int)+1))).setCell ⟨c.rb,1,none⟩ (.int .i64 ((n:Int)+1))).alloc (.cells (st0 D pl).toArray 75))) w2→Kp [c.rb] w w2∧SB w2 w.heap.size z9∧w.heap.size+2≤w2.heap.size):=fun w2 hk=>by
  refine ⟨Kp.new (b:=w.heap.size+1) ((Kp.alloc (Kp.rb (b:=c.rb) (S:=[]) (Kp.rb (((Kp.refl _ _).alloc _).drewN _) _ _) _ _) _).mono (by simp) |>.trans hk) (by omega),((SB.new w _ rfl z9 75).keep (S:=[c.rb]) (Kp.alloc (Kp.rb (Kp.rb ((Kp.refl _ _).drewN _) _ _) _ _) _) (by simp;omega)).keep hk (by simp;omega),?_⟩
  have:=hk.size
  simpa [World.setCell,World.drewN] using this
 rcases oif HX.out with ⟨h11,hx⟩|⟨h11,hx⟩
 ·obtain ⟨⟨x,l,m',t'⟩,h5,hx⟩:=obind hx
  cases hx
  obtain ⟨h15,hns⟩:=HNs.out h11
  have HN:=hide (hns c)
  have H5:=hide h5
  have hDD:=fourB D h11 h15
  clear h5 hns HX HNs HPl
  rcases hDD with d1|⟨d1,d2⟩|⟨d1,d2,d3⟩|⟨d1,d2,d3,d4⟩
  all_goals
   go_wp2_with fail
   refine (HN.out _ (n+1) s.stmt (w.heap.size+1) pl x l _ _ ?_ HAP.out ?_ H5.out).mono ?_
   ·exact ((((HH.out.alloc _).drewN _).stmt h300).step hlt).alloc _
   ·exact SB.new _ _ (by simp [World.setCell,World.drewN]) (st0 D pl) _
   rintro e w2 ⟨rfl,hd,hk,uE,uB,kB,hs,hE,hB⟩
   obtain ⟨hk2,hz2,hl2⟩:=hz.out w2 hk
   obtain ⟨aE,cE,rfl⟩:=hE.slice
   obtain ⟨aB,cB,rfl⟩:=hB.slice
   simp only [List.length_map] at hs hE
   have HS:=hide (SE.mk (c:=c) hd hk2 hz2 hs ⟨kB+2,D,pl,x.A,x.B,[],0,x.E.map Bg.tr,l,[],_,_,_,rfl,rfl,by rw [Nat.add_comm];exact (hE.base (fun b _ hb=>by simp [World.setCell,World.drewN] at hb;omega)).more kB,(hB.base (fun b _ hb=>by simp [World.setCell,World.drewN] at hb;omega)).more 2,by rw [show kB+2=1+(kB+1) from by omega];exact (SL.nil _ _ _ _).more _⟩)
   clear hd hk hk2 hz2 hs hE hB c1 c3 f1 f3 hz
   obtain ⟨z0,z1,z2,z3,z4,z5,z6,z7,z8⟩:=HS.out.z.nine
   obtain ⟨x0,x1,x2,x3,x4,x5,x6,x7,x8⟩:=HS.out.x.nine
   have zf:=HS.out.z.fz
   go_wp2
   refine bodyPost_ret (v:= .agg #[.int .i64 D,.int .i64 pl,.string (bs x.A),.string (bs x.B),.string ⟨#[]⟩,.int .i64 0,.slice aE x.E.length cE,.slice aB l.length cB,.slice none 0 0]) (by simp [results,Tryz.results127,go_sem,z0,z1,z2,z3,z4,z5,z6,z7,z8]) rfl ?_
   obtain ⟨kk,hr⟩:=HS.out.r
   refine ⟨_,⟨kk,_,_,_,_,_,_,_,_,_,_,_,_,_,_,_,rfl,?_⟩,rfl,RD.sets HB.out (Nat.le_refl _) [_,_,_,_,_,_,_,_,_] _ 0 HS.out.rd,Kp.sets (.inl (Nat.le_refl _)) [_,_,_,_,_,_,_,_,_] _ 0 HS.out.kp⟩
   exact (hr.keep (S:=[w.heap.size]) (Kp.sets (.inr (by simp)) [_,_,_,_,_,_,_,_,_] _ 0 (Kp.refl _ _)) (by simp)).base (fun b _ hb=>Nat.le_of_lt hb)
 ·obtain ⟨⟨x,m1,t'⟩,h5,hx⟩:=obind hx
  obtain ⟨m',h6,hx⟩:=obind hx
  cases hx
  have HN:=hide (HPl.out (by omega) c)
  have H5:=hide h5
  have H6:=hide h6
  have d11:((D:Int) == 11)=false:=by simp;omega
  have d12:((D:Int) == 12)=false:=by simp;omega
  have d13:((D:Int) == 13)=false:=by simp;omega
  have d14:((D:Int) == 14)=false:=by simp;omega
  clear h5 h6 HX HNs HPl
  go_wp2_with fail
  refine (HN.out _ (n+1) s.stmt (w.heap.size+1) pl x m1 t' ?_ HAP.out ?_ H5.out).mono ?_
  ·exact ((((HH.out.alloc _).drewN _).stmt h300).step hlt).alloc _
  ·exact SB.new _ _ (by simp [World.setCell,World.drewN]) (st0 D pl) _
  rintro e w2 ⟨rfl,hd,hk,uE,hs,hE⟩
  obtain ⟨hk2,hz2,hl2⟩:=hz.out w2 hk
  obtain ⟨aE,cE,rfl⟩:=hE.slice
  simp only [List.length_map] at hs hE
  have HD2:=hide hd
  have HK2:=hide hk2
  have HZ2:=hide hz2
  have HS2:=hide hs
  have HE2:=hide (hE.base (P':=fun b=>w.heap.size<b) (fun b _ hb=>by simp [World.setCell,World.drewN] at hb;omega))
  clear hd hk hk2 hz2 hs hE c1 c3 f1 f3 hz
  go_wp2_with fail
  refine (skip_ok ⟨#[59]⟩ H6.out HD2.out).mono ?_
  rintro e w3 ⟨rfl,hd,hk⟩
  have HS:Hid (SE c w w3 _ _ D pl (bs x.A) (bs x.B) (bs x.T) x.N (.slice aE x.E.length cE) (.slice none 0 0) (Sx.tS D pl x.A x.B x.T x.N (x.E.map Bg.tr) [] [])):=hide ⟨hd,HK2.out.trans hk,HZ2.out.keep hk (by simp;omega),HS2.out.keep hk (by simp;omega),2,D,pl,x.A,x.B,x.T,x.N,_,[],[],_,_,_,rfl,rfl,HE2.out.keep hk (by simp;omega),(SL.nil _ _ _ _).more 1,(SL.nil _ _ _ _).more 1⟩
  clear hd hk
  obtain ⟨z0,z1,z2,z3,z4,z5,z6,z7,z8⟩:=HS.out.z.nine
  obtain ⟨x0,x1,x2,x3,x4,x5,x6,x7,x8⟩:=HS.out.x.nine
  have zf:=HS.out.z.fz
  go_wp2
  refine bodyPost_ret (v:= .agg #[.int .i64 D,.int .i64 pl,.string (bs x.A),.string (bs x.B),.string (bs x.T),.int .i64 x.N,.slice aE x.E.length cE,.slice none 0 0,.slice none 0 0]) (by simp [results,Tryz.results127,go_sem,z0,z1,z2,z3,z4,z5,z6,z7,z8]) rfl ?_
  obtain ⟨kk,hr⟩:=HS.out.r
  refine ⟨_,⟨kk,_,_,_,_,_,_,_,_,_,_,_,_,_,_,_,rfl,?_⟩,rfl,RD.sets HB.out (Nat.le_refl _) [_,_,_,_,_,_,_,_,_] _ 0 HS.out.rd,Kp.sets (.inl (Nat.le_refl _)) [_,_,_,_,_,_,_,_,_] _ 0 HS.out.kp⟩
  exact (hr.keep (S:=[w.heap.size]) (Kp.sets (.inr (by simp)) [_,_,_,_,_,_,_,_,_] _ 0 (Kp.refl _ _)) (by simp)).base (fun b _ hb=>Nat.le_of_lt hb)
theorem RD.grown {c:Cx} {w w':World} {n:Nat} {s:Sx.St} {B:Nat} (h:RD c w n s) {row:Option Nat} (hg:w.grownBy w' row) (hrow: ∀ k,k ∈ row.toList→B≤k) (hb:c.below B):RD c w' n s:=
 h.keep (Kp.of_grown hg) (fun hm=>by have:=hrow _ hm;have:=hb.1;omega) (fun hne hm=>by have:=hrow _ hm;have:=hb.2 hne;omega)
def lenOf:Value→Nat
 | .slice _ n _=>n
 |_=>0
theorem own_len {w:World} {B t z n:Nat} {v:Value} {xs:List Value} (h:w.ownsRow B t z v n xs):lenOf v=n:=by
 rcases h.2 with ⟨rfl,hn⟩|⟨g,cap,cur,rfl,_⟩
 ·exact hn.symm
 ·rfl
structure LB (c:Cx) (w w':World) (n:Nat) (s:Sx.St) (v:Value) (acc:List Sx.Tr) (cs:List Value) (k:Nat):Prop where
 rd:RD c w' n s
 kp:Kp [c.rb] w w'
 own:w'.ownsRow w.heap.size 75 9 v acc.length cs
 rw:Rw (RS w' (fun b=>w.heap.size≤b∧some b ≠ v.ownBlock) k) acc cs
theorem LB.go {c:Cx} {w w1 w2:World} {n n2:Nat} {s s2:Sx.St} {v:Value} {acc:List Sx.Tr} {cs:List Value} {k:Nat} (h:LB c w w1 n s v acc cs k) (hr:c.rb<w.heap.size) (hd:RD c w2 n2 s2) (hk:Kp [c.rb] w1 w2):LB c w w2 n2 s2 v acc cs k:=
 ⟨hd,h.kp.trans hk,own_keep h.own hk (by simpa using hr),h.rw.mono (fun d cc hd=>hd.keep hk (by simp;omega))⟩
set_option maxRecDepth 100000 in
set_option maxHeartbeats 4000000 in
theorem block_ok (K:List Nat) (f:Nat) (hS:StC K f):BlC K (f+1):=by
 intro c w n s l m s' h hx
 obtain ⟨i0,hi0,hz0,hz1,hz2⟩:=info_parts Tryz.infoStmt
 rcases oif hx with ⟨h8,hx⟩|⟨_,hx⟩
 rotate_left
 ·cases hx
 obtain ⟨n1,h1,hx⟩:=obind hx
 obtain ⟨⟨l',n2,s2⟩,h2,hx⟩:=obind hx
 obtain ⟨m',h3,hx⟩:=obind hx
 rcases oif hx with ⟨hdp,hx⟩|⟨_,hx⟩
 rotate_left
 ·cases hx
 cases hx
 have ht:Sx.txt (c.full.drop n)=[123]:=by
  rcases oif h1 with ⟨h,_⟩|⟨_,h⟩
  ·exact h
  ·cases h
 have H1:=hide h1
 have H2:=hide h2
 have H3:=hide h3
 have HT:=hide ht
 have HH:=hide h
 have HB:=hide h.lt
 have HS:=hide hS
 have hr:=h.rlt
 have c4:=h.c4
 have d8:((s.dep:Int) == 8)=false:=by simp;omega
 clear h hx h1 h2 h3 ht hS
 go_enter Tryz.func96,Tryz.ntmps96
 go_wp2_with fail
 refine (sees_yes ⟨#[123]⟩ HT.out HH.out).mono ?_
 rintro e w1 ⟨rfl,k1,rfl⟩
 go_wp2_with fail
 refine (skip_ok ⟨#[123]⟩ H1.out (HH.out.drewN _)).mono ?_
 rintro e w2 ⟨rfl,hd2,hk2⟩
 have g4:=hd2.c4
 have gf:=hd2.fz 4
 have HL0:Hid (LB c w (w2.setCell ⟨c.rb,4,none⟩ (.int .i64 ((s.dep:Int)+1))) n1 s.up (.slice none 0 0) [] [] 0):=hide ⟨hd2.up h8,Kp.rb (((Kp.refl _ _).drewN _).trans hk2) _ _,World.ownsRow_nil _ _ _ _,rfl⟩
 clear hd2 hk2 c4
 go_wp2
 go_loopw [3] (fun v wr=> ∃ (q n3 k:Nat) (acc:List Sx.Tr) (s3:Sx.St) (cs:List Value),Hid (Bg.sts K c.e c.full (Bg.block K c.e c.full f) q acc n3 s3=some (l',n2,s2))∧Hid (LB c w wr n3 s3 v acc cs k)∧acc.length+q=301) (fun v _=>300 - lenOf v)
 case atStart=>exact ⟨301,n1,0,[],s.up,[],H2.out,HL0.out,rfl⟩
 case round=>
  obtain ⟨q,n3,k,acc,s3,cs,HQ,HL,hq⟩:=hrel
  have hz:=HL.out.kp.size
  match q,HQ,hq with
  |0,HQ,_=>cases HQ.out
  |q+1,HQ,hq=>
  rcases oif HQ.out with ⟨ht,hp⟩|⟨ht,hp⟩
  ·cases hp
   have HT3:=hide ht
   clear ht
   go_wp2_with fail
   refine (sees_yes ⟨#[125]⟩ HT3.out HL.out.rd).mono ?_
   rintro e w4 ⟨rfl,k4,rfl⟩
   go_wp2_with fail
   refine (skip_ok ⟨#[125]⟩ H3.out (HL.out.rd.drewN _)).mono ?_
   rintro e w5 ⟨rfl,hd5,hk5⟩
   have j4:=hd5.c4
   have jf:=hd5.fz 4
   have jb:=hd5.b4
   have HL5:=hide (HL.out.go hr (hd5.down hdp) (Kp.rb (((Kp.refl _ _).drewN _).trans hk5) _ _))
   clear hd5 hk5
   go_wp2
   go_ret
   exact ⟨_,⟨k+1,Sl.of_own (B:=w.heap.size) HL5.out.own rfl (fun b hb=>hb) (HL5.out.rw.mono (fun d cc hd=>hd.base (fun b _ hb=>hb.1)))⟩,rfl,HL5.out.rd,HL5.out.kp⟩
  ·rcases oif hp with ⟨_,hp⟩|⟨h300,hp⟩
   ·cases hp
   obtain ⟨⟨d,n5,s5⟩,h5,hp⟩:=obind hp
   have HT3:=hide ht
   have H5:=hide h5
   have HP5:=hide hp
   clear ht h5 hp
   go_wp2_with fail
   refine (sees_no ⟨#[125]⟩ HT3.out HL.out.rd).mono ?_
   rintro e w4 ⟨rfl,k4,rfl⟩
   go_wp2_with fail
   refine (HS.out c _ _ _ _ _ _ (HL.out.rd.drewN _) H5.out).mono ?_
   rintro e w5 ⟨v5,⟨m5,D,at',A,B,T,N,a0,x0,y0,a1,x1,y1,a2,x2,y2,rfl,hRS⟩,rfl,hd5,hk5⟩
   have HL5:=hide (HL.out.go hr hd5 (((Kp.refl _ _).drewN _).trans hk5))
   have HRS:=hide hRS
   have HOL:=hide (own_lt HL.out.own)
   have hsz5:=hk5.size
   simp at hsz5
   clear hd5 hk5 hRS
   go_wp2_with (at_builtin;refine wpList_append_lies _ rfl _ _ 51 rfl w.heap.size 75 i0 (.agg #[.int .i64 0,.int .i64 0,.string ⟨#[]⟩,.string ⟨#[]⟩,.string ⟨#[]⟩,.int .i64 0,.slice none 0 0,.slice none 0 0,.slice none 0 0]) 9 144 Tryz.underlying51 hi0 hz0 hz1 hz2 rfl (by decide) _ _ _ rfl (by exact HL5.out.own.alloc _) ⟨w5.heap.size,0,none⟩ 1 1 [.int .i64 D,.int .i64 at',.string A,.string B,.string T,.int .i64 N,.slice a0 x0 y0,.slice a1 x1 y1,.slice a2 x2 y2] rfl rfl ?c1 ?c2 ?c3 ?c4 ?c5 ?c6 _ rfl ?_)
   case c1=>exact cells_nine_new _ _ rfl _ _ _ _ _ _ _ _ _ _
   case c2=>intro u hu;simp at hu;rcases hu with rfl|rfl|rfl|rfl|rfl|rfl|rfl|rfl|rfl<;> rfl
   case c3=>decide
   case c4=>unfold maxLen;omega
   case c5=>omega
   case c6=>simp;omega
   ·intro g cap w6 hown hgrow hat hlt
    have hblk:=own_blk HL5.out.own
    have hR:Rw (RS (w5.alloc (.cells #[.int .i64 D,.int .i64 at',.string A,.string B,.string T,.int .i64 N,.slice a0 x0 y0,.slice a1 x1 y1,.slice a2 x2 y2] 75)) (fun b=>w.heap.size≤b∧some b ≠ Value.ownBlock u3) (k+m5)) (acc++[d]) (cs++[.int .i64 D,.int .i64 at',.string A,.string B,.string T,.int .i64 N,.slice a0 x0 y0,.slice a1 x1 y1,.slice a2 x2 y2]):=by
     refine Rw.snoc (HL5.out.rw.mono (fun d cc hd=>(hd.keep (S:=[]) ((Kp.refl _ _).alloc _) (by simp)).more m5)) ?_
     rw [Nat.add_comm k m5]
     refine ((HRS.out.base (P':=fun b=>w.heap.size≤b∧some b ≠ Value.ownBlock u3) (fun b _ hb=> ?_)).keep (S:=[]) ((Kp.refl _ _).alloc _) (by simp)).more k
     simp at hb
     exact ⟨by omega,fun e=>by have:=HOL.out b e;omega⟩
    have HL6:Hid (LB c w w6 n5 s5 (.slice (some ⟨g,0,none⟩) (acc.length+1) cap) (acc++[d]) (cs++[.int .i64 D,.int .i64 at',.string A,.string B,.string T,.int .i64 N,.slice a0 x0 y0,.slice a1 x1 y1,.slice a2 x2 y2]) (k+m5)):=
     hide ⟨(HL5.out.rd.alloc _).grown hgrow hblk HB.out,(HL5.out.kp.alloc _).grown hgrow (fun k hk=> .inl (hblk k (by rw [hk];simp))),by rw [List.length_append];exact hown,rows_grow (R:=fun w P d c=>RS w P (k+m5) d c) (fun w w' S P d c h hk hS=>h.keep hk hS) (fun w P P' d c h hP=>h.base hP) hR hgrow (by simpa using hat)⟩
    clear hR hown hgrow hat
    go_wp2
    refine ⟨⟨q,n5,k+m5,acc++[d],s5,_,HP5.out,HL6.out,by simp;omega⟩,?_⟩
    rw [own_len HL.out.own]
    show 300 - (acc.length+1)<_
    omega
theorem blocks_ok (K:List Nat) (hK: ∀ f D,D ∈ K→BlC K f→0<D∧(D<11→PlC (D:Int))∧(11≤D→D<15∧NsC K f D)) (f:Nat):BlC K f:=by
 induction f with
 |zero=>exact fun c w n s l m s' _ hx=>by cases hx
 |succ f ih=>exact block_ok K f (stmt_ok K f fun D hD=>hK f D hD ih)
end Go.Proofs.YtcdcoiobpbdmpaaGreatDoor
