import Derived.Test.YthcapfojofahkaaGreatDoorMai
namespace Go.Proofs.YthcapfojofahkaaGreatDoor
open Go.RowKit
theorem vr_own {w:World} {B:Nat} {v:Value} {l:List Kn.Nv} (h:w.ownsRow B 39 2 v l.length (vcells l)):VR w v l:=by
 rcases h.2 with ⟨hv,h0⟩|⟨g,cap,cur,hv,hb,hg,hnc,hcm,_,_⟩
 ·refine ⟨none,0,by rw [hv,h0],fun hn=> ?_⟩
  exact absurd (List.length_eq_zero_iff.1 h0) hn
 ·refine ⟨_,cap,hv,fun _=>⟨g,0,rfl,fun k x hx=> ?_⟩⟩
  obtain ⟨e1,e2⟩:=vcells_get l k x hx
  have f1:=h.cells (g:=g) (by rw [hv];rfl) _ _ e1
  have f2:=h.cells (g:=g) (by rw [hv];rfl) _ _ e2
  have ea: ∀ j:Nat,(⟨g,0,none⟩:Addr).add j=⟨g,j,none⟩:=fun j=>by unfold Addr.add;split<;> simp_all
  rw [ea] at f1 f2
  rw [Nat.zero_add]
  exact ⟨f1,f2⟩
structure Ng where
 g:Nat
 l:List Sx.Tr
 sa:Option Addr
 sc:Nat
 i:Nat
structure NS (c:Ng) (w:World) (nv bv:Value) (ns bd:List Kn.Nv) (t:Nat) (f:Int × Int):Prop where
 lt:c.g<w.heap.size
 c0:w.cell? ⟨c.g,0,none⟩=some (.slice c.sa c.l.length c.sc)
 c1:w.cell? ⟨c.g,1,none⟩=some (.int .i64 c.i)
 c2:w.cell? ⟨c.g,2,none⟩=some nv
 c3:w.cell? ⟨c.g,3,none⟩=some bv
 c4:w.cell? ⟨c.g,4,none⟩=some (.int .i64 t)
 c5:w.cell? ⟨c.g,5,none⟩=some (.int .i64 f.1)
 c6:w.cell? ⟨c.g,6,none⟩=some (.int .i64 f.2)
 fz: ∀ k,w.frozen? ⟨c.g,k,none⟩=false
 on:w.ownsRow (c.g+1) 39 2 nv ns.length (vcells ns)
 ob:w.ownsRow (c.g+1) 39 2 bv bd.length (vcells bd)
 ne: ∀ b,nv.ownBlock=some b→bv.ownBlock ≠ some b
 ln:ns.length≤1000
 lb:bd.length≤1000
 lat:t≤100000
theorem NS.drewN {c:Ng} {w:World} {nv bv:Value} {ns bd:List Kn.Nv} {t:Nat} {f:Int × Int} (h:NS c w nv bv ns bd t f) (n:Nat):NS c (w.drewN n) nv bv ns bd t f:=
 ⟨h.lt,h.c0,h.c1,h.c2,h.c3,h.c4,h.c5,h.c6,h.fz,h.on,h.ob,h.ne,h.ln,h.lb,h.lat⟩
theorem own_keepv {B e z:Nat} {w w':World} {v:Value} {n:Nat} {xs:List Value} (h:w.ownsRow B e z v n xs) (hk: ∀ g,v.ownBlock=some g→w'.heap[g]? =w.heap[g]?):w'.ownsRow B e z v n xs:=by
 refine ⟨h.1,h.2.imp id ?_⟩
 rintro ⟨g,cap,cur,e1,e2,e3,e4⟩
 exact ⟨g,cap,cur,e1,e2,by rw [hk g (by rw [e1];rfl)];exact e3,e4⟩
theorem NS.keep {c:Ng} {w w':World} {S:List Nat} {nv bv:Value} {ns bd:List Kn.Nv} {t:Nat} {f:Int × Int} (h:NS c w nv bv ns bd t f) (hk:Kp S w w') (hS: ∀ b,b ∈ S→w.heap.size≤b):NS c w' nv bv ns bd t f:=
 have hg:c.g ∉ S:=fun hm=>by have:=hS _ hm;have:=h.lt;omega
 ⟨Nat.lt_of_lt_of_le h.lt hk.size,hk.some h.c0 hg,hk.some h.c1 hg,hk.some h.c2 hg,hk.some h.c3 hg,hk.some h.c4 hg,hk.some h.c5 hg,hk.some h.c6 hg,fun k=>(hk.frozen (p:=⟨c.g,k,none⟩) h.lt hg).trans (h.fz k),own_keepv h.on (fun b hb=>hk.block b (h.on.lt b hb).2 (fun hm=>by have:=hS _ hm;have:=(h.on.lt b hb).2;omega)),own_keepv h.ob (fun b hb=>hk.block b (h.ob.lt b hb).2 (fun hm=>by have:=hS _ hm;have:=(h.ob.lt b hb).2;omega)),h.ne,h.ln,h.lb,h.lat⟩
def Kn.flt (f:Int × Int) (k:Int) (t:Nat):Int × Int:=if f.1=0∧k ≠ 0 then (k,t) else f
theorem Kn.flt_zero (f:Int × Int) (t:Nat):Kn.flt f 0 t=f:=by unfold Kn.flt;rw [if_neg (by simp)]
theorem Kn.flt_flt (f:Int × Int) (a b:Int) (t:Nat):Kn.flt (Kn.flt f a t) b t=Kn.flt f (if a ≠ 0 then a else b) t:=by
 unfold Kn.flt
 by_cases h:f.1=0<;> by_cases ha:a=0<;> by_cases hb:b=0<;> simp_all
theorem NS.set5 {c:Ng} {w:World} {nv bv:Value} {ns bd:List Kn.Nv} {t:Nat} {f:Int × Int} (h:NS c w nv bv ns bd t f) (k m:Int):
  NS c ((w.setCell ⟨c.g,5,none⟩ (.int .i64 k)).setCell ⟨c.g,6,none⟩ (.int .i64 m)) nv bv ns bd t (k,m):=by
 have hc0:=h.c0;have hc1:=h.c1;have hc2:=h.c2;have hc3:=h.c3;have hc4:=h.c4;have hc5:=h.c5;have hc6:=h.c6
 have hlt:=h.lt
 refine ⟨by simpa using h.lt,by simp [go_sem,hc0],by simp [go_sem,hc1],by simp [go_sem,hc2],by simp [go_sem,hc3],by simp [go_sem,hc4],?_,?_,?_,?_,?_,h.ne,h.ln,h.lb,h.lat⟩
 ·simp [go_sem,hc5]
 ·simp [go_sem,hc6]
 ·intro j;have:=h.fz j;simp [go_sem,this]
 ·exact ownsRow_setCell_below (ownsRow_setCell_below h.on (by show c.g<c.g+1;omega) _) (by show c.g<c.g+1;omega) _
 ·exact ownsRow_setCell_below (ownsRow_setCell_below h.ob (by show c.g<c.g+1;omega) _) (by show c.g<c.g+1;omega) _
theorem rFn_any (c a:Int) (w:World):Calls Tryz.prog 24 #[.int .i64 c,.int .i64 a] w fun e w'=>e= .returned (.agg #[.int .i64 c,.int .i64 a])∧Kp [] w w':=by
 go_enter Tryz.func24,Tryz.ntmps24
 go_wp2
 exact bodyPost_ret (v:= .agg #[.int .i64 c,.int .i64 a]) (by simp [results,Tryz.results24,go_sem]) rfl ⟨rfl,(Kp.refl _ _).alloc _⟩
set_option maxRecDepth 100000 in
set_option maxHeartbeats 1000000 in
theorem nmWrong_any (c:Ng) (w:World) (nv bv:Value) (ns bd:List Kn.Nv) (t:Nat) (f:Int × Int) (k:Int) (hk0:k ≠ 0) (h:NS c w nv bv ns bd t f):
  Calls Tryz.prog 61 #[.pointer (some ⟨c.g,0,none⟩),.int .i64 k] w fun e w'=>e= .returned (.tuple #[])∧NS c w' nv bv ns bd t (Kn.flt f k t)∧Kp [c.g] w w':=by
 have H:=hide h
 have hc4:=h.c4
 have hc5:=h.c5
 have f5:=h.fz 5
 have f6:=h.fz 6
 clear h
 by_cases h0:f.1=0
 ·have e1:Kn.flt f k t=(k,(t:Int)):=by unfold Kn.flt;rw [if_pos ⟨h0,hk0⟩]
  rw [e1]
  rw [h0] at hc5
  clear e1
  go_enter Tryz.func61,Tryz.ntmps61
  go_wp2_with fail
  refine (rFn_any k t _).mono ?_
  rintro e w1 ⟨rfl,hk1⟩
  have H1:=hide (H.out.keep hk1 (by simp))
  have K1:=hide hk1
  have g5:=H1.out.fz 5
  have g6:=H1.out.fz 6
  have d5:=H1.out.c5
  have d6:=H1.out.c6
  clear hk1
  go_wp2
  go_end0
  exact ⟨rfl,H1.out.set5 k t,((K1.out.mono (by simp)).rb _ _).rb _ _⟩
 ·have e1:Kn.flt f k t=f:=by unfold Kn.flt;rw [if_neg (fun h=>h0 h.1)]
  rw [e1]
  have q:(f.1 == 0)=false:=by simpa using h0
  clear e1
  go_enter Tryz.func61,Tryz.ntmps61
  go_wp2
  go_end0
  exact ⟨rfl,H.out,Kp.refl _ _⟩
theorem NS.few {c:Ng} {w:World} {nv bv:Value} {ns bd:List Kn.Nv} {t:Nat} {f:Int × Int} (h:NS c w nv bv ns bd t f):ns.length≤1000000:=by have:=h.ln;have:=h.lb;omega
def Kn.mty (ns:List Kn.Nv) (nm:List UInt8) (b:UInt8):List UInt8:=if Kn.mst ns nm b=0 then Kn.typ ns nm else []
set_option maxRecDepth 100000 in
set_option maxHeartbeats 1000000 in
theorem nmMust_any (c:Ng) (w:World) (nv bv:Value) (ns bd:List Kn.Nv) (t:Nat) (f:Int × Int) (nm:List UInt8) (b:UInt8) (h:NS c w nv bv ns bd t f):
  Calls Tryz.prog 62 #[.pointer (some ⟨c.g,0,none⟩),.string (bs nm),.string (bs [b])] w fun e w'=>e= .returned (.string (bs (Kn.mty ns nm b)))∧NS c w' nv bv ns bd t (Kn.flt f (Kn.mst ns nm b) t)∧Kp [c.g] w w':=by
 have H:=hide h
 have HT:=hide (nmTyp_any c.g ns nm nv w h.few (vr_own h.on) h.c2)
 clear h
 by_cases h0:Kn.typ ns nm=[]
 ·have e1:Kn.mst ns nm b=10:=by unfold Kn.mst;rw [if_pos h0]
  have e2:Kn.mty ns nm b=[]:=by unfold Kn.mty;rw [e1];rfl
  rw [e1,e2]
  rw [h0] at HT
  clear e1 e2
  go_enter Tryz.func62,Tryz.ntmps62
  go_wp2_with fail
  refine HT.out.mono ?_
  rintro e w1 ⟨rfl,n,rfl⟩
  have e0:(bs []).toList=[]:=bs0
  have HW:=hide (nmWrong_any c _ nv bv ns bd t f 10 (by decide) (H.out.drewN n))
  go_wp2_with fail
  refine HW.out.mono ?_
  rintro e w2 ⟨rfl,h2,k2⟩
  have H2:=hide h2
  have K2:=hide k2
  clear h2 k2
  go_wp2
  go_ret
  exact ⟨rfl,H2.out,((Kp.refl _ _).drewN n).trans K2.out⟩
 ·obtain ⟨y,r,hy⟩: ∃ y r,Kn.typ ns nm=y::r:=List.exists_cons_of_ne_nil h0
  have e0:((bs (y::r)).toList == [])=false:=by rw [bsl];rfl
  have ez:((bs (y::r)).size:Int)=(r.length:Int)+1:=by rw [bsz];rfl
  have ex:((bs (y::r)).extract 0 1).toList=[y]:=by rw [bsx];simp
  have eb:(bs [b]).toList=[b]:=bsl _
  have z0:(0:Int)≤1:=by decide
  have z1:(1:Int)≤(r.length:Int)+1:=by omega
  rw [hy] at HT
  by_cases hb:y=b
  ·have e1:Kn.mst ns nm b=0:=by unfold Kn.mst;rw [if_neg h0,hy];simp [hb]
   have e2:Kn.mty ns nm b=y::r:=by unfold Kn.mty;rw [if_pos e1,hy]
   have e3:([y] == [b])=true:=by simpa using hb
   rw [e1,e2,Kn.flt_zero]
   clear e1 e2 hy h0 hb
   generalize bs (y::r)=s at *
   generalize bs [b]=sb at *
   go_enter Tryz.func62,Tryz.ntmps62
   go_wp2_with fail
   refine HT.out.mono ?_
   rintro e w1 ⟨rfl,n,rfl⟩
   go_wp2
   go_ret
   exact ⟨rfl,H.out.drewN _,(Kp.refl _ _).drewN _⟩
  ·have e1:Kn.mst ns nm b=11:=by unfold Kn.mst;rw [if_neg h0,hy,if_pos (by simpa using hb)]
   have e2:Kn.mty ns nm b=[]:=by unfold Kn.mty;rw [e1];rfl
   have e3:([y] == [b])=false:=by simpa using hb
   rw [e1,e2]
   clear e1 e2 hy h0 hb
   generalize bs (y::r)=s at *
   generalize bs [b]=sb at *
   go_enter Tryz.func62,Tryz.ntmps62
   go_wp2_with fail
   refine HT.out.mono ?_
   rintro e w1 ⟨rfl,n,rfl⟩
   have HW:=hide (fun m=>nmWrong_any c _ nv bv ns bd t f 11 (by decide) (H.out.drewN m))
   go_wp2_with fail
   refine (HW.out _).mono ?_
   rintro e w2 ⟨rfl,h2,k2⟩
   have H2:=hide h2
   have K2:=hide k2
   clear h2 k2
   go_wp2
   go_ret
   exact ⟨rfl,H2.out,((Kp.refl _ _).drewN _).trans K2.out⟩
theorem NS.alloc {c:Ng} {w:World} {nv bv:Value} {ns bd:List Kn.Nv} {t:Nat} {f:Int × Int} (h:NS c w nv bv ns bd t f) (o:Obj):NS c (w.alloc o) nv bv ns bd t f:=h.keep ((Kp.refl [] w).alloc o) (by simp)
def Kn.lnE:Nat→Sx.Tr→Prop
 |0,_=>True
 |n+1,d=>(Sx.eL d).length≤1000000∧ ∀ (i:Nat) x,(Sx.eL d)[i]? =some x→Kn.lnE n x
def NumT (c:Ng) (n:Nat):Prop:= ∀ (w:World) (P:Nat→Prop) (op z:Int) (nm:List UInt8) (L:List Sx.Tr) (a:Option Addr) (k:Nat) (nv bv:Value) (ns bd:List Kn.Nv) (t:Nat) (f:Int × Int),EL w P n L (.slice a L.length k)→ ¬ P c.g→Kn.lnE (n+1) (Sx.tE op nm z L)→NS c w nv bv ns bd t f→
 Calls Tryz.prog 64 #[.pointer (some ⟨c.g,0,none⟩),.agg #[.int .i64 op,.string (bs nm),.int .i64 z,.slice a L.length k]] w fun e w'=>e= .returned (.tuple #[])∧NS c w' nv bv ns bd t (Kn.flt f (Kn.num (n+1) ns (Sx.tE op nm z L)) t)∧Kp [c.g] w w'
theorem Kn.num_eq (n:Nat) (ns:List Kn.Nv) (op z:Int) (nm:List UInt8) (L:List Sx.Tr) (f:Int × Int) (t:Nat):
  Kn.flt f (Kn.num (n+1) ns (Sx.tE op nm z L)) t=Kn.flt (Kn.flt f (if op=2 then Kn.mst ns nm 105 else 0) t) (Rn.firstOf (Kn.num n ns) L) t:=by
 rw [Kn.flt_flt]
 show Kn.flt f (if (if op=2 then mst ns nm 105 else 0) ≠ 0 then mst ns nm 105 else Rn.firstOf (num n ns) L) t=_
 by_cases h:op=2
 ·rw [if_pos h]
 ·rw [if_neg h,if_neg (by simp),if_neg (by simp)]
theorem Kn.flt_first (g:Sx.Tr→Int) (f:Int × Int) (x:Sx.Tr) (r:List Sx.Tr) (t:Nat):Kn.flt f (Rn.firstOf g (x::r)) t=Kn.flt (Kn.flt f (g x) t) (Rn.firstOf g r) t:=by
 rw [Kn.flt_flt]
 rfl
set_option maxRecDepth 100000 in
set_option maxHeartbeats 1000000 in
theorem number_step (c:Ng) (n:Nat) (ih:NumT c n):NumT c (n+1):=by
 intro w P op z nm L a k nv bv ns bd t f h hP hle hns
 have hl:L.length≤1000000:=hle.1
 have HLn:=hide hle.2
 have HS:=hide h
 have IH:=hide ih
 have H:=hide hns
 have HE:=hide (Kn.num_eq (n+1) ns op z nm L f t)
 have hg:=hns.lt
 rw [HE.out]
 clear h ih hns HE hle
 by_cases o2:op=2
 ·rw [if_pos o2]
  subst o2
  have HM:=hide (fun w' h=>nmMust_any c w' nv bv ns bd t f nm 105 h)
  generalize Kn.flt f (Kn.mst ns nm 105) t=f0 at HM ⊢
  go_enter Tryz.func64,Tryz.ntmps64
  go_wp2_with fail
  refine (HM.out _ (H.out.alloc _)).mono ?_
  rintro e w1 ⟨rfl,h1,k1⟩
  have K1:=hide (((Kp.refl [c.g] w).alloc _).trans k1)
  have p1:w1.cell? ⟨w.heap.size,3,none⟩=some (.slice a L.length k):=k1.some (by simp [go_sem]) (by simp;omega)
  have H1:=hide h1
  clear h1 k1
  go_wp2
  go_loopw [4] (fun iv wr=> ∃ (i:Nat) (fk:Int × Int),i≤L.length∧iv= .int .i64 i∧Hid (NS c wr nv bv ns bd t fk)∧Hid (Kn.flt f0 (Rn.firstOf (Kn.num (n+1) ns) L) t=Kn.flt fk (Rn.firstOf (Kn.num (n+1) ns) (L.drop i)) t)∧Hid (Kp [c.g] w wr)∧wr.cell? ⟨w.heap.size,3,none⟩=some (.slice a L.length k)) (fun iv _=>L.length - (intOf iv).toNat)
  case atStart=>exact ⟨0,f0,Nat.zero_le _,rfl,H1,rfl,K1,p1⟩
  case round=>
   obtain ⟨i,fk,hi,rfl,HN,HF,HK,hp⟩:=hrel
   by_cases hlt:i<L.length
   ·have d1:decide ((i:Int)<(L.length:Int))=true:=by simp;omega
    obtain ⟨b,off,op1,nm1,z1,L1,aL,cL,rfl,-,hd,m0,m1,m2,m3,hL⟩:=(HS.out.keep HK.out (by simpa using hP)).nth i hlt
    have HC:=hide (fun hll=>IH.out _ P op1 z1 nm1 L1 aL cL nv bv ns bd t fk hL hP hll HN.out)
    have HLL:=hide (HLn.out i _ hd)
    have HDR:=hide (drop_nth hd)
    have hk0:(0:Int)≤(i:Int):=by omega
    have hk1:(i:Int)<(L.length:Int):=by omega
    clear hL hd
    go_wp2_with fail
    refine (HC.out HLL.out).mono ?_
    rintro e w2 ⟨rfl,h2,k2⟩
    have c8:w2.cell? ⟨w.heap.size,3,none⟩=some (.slice (some ⟨b,off,none⟩) L.length k):=k2.some hp (by simp;omega)
    have H2:=hide h2
    have K2:=hide (HK.out.trans k2)
    clear h2 k2
    go_wp2
    go_roundw
    case rel=>exact ⟨i+1,_,by omega,by go_num,H2,hide (by rw [HF.out,HDR.out,Kn.flt_first]),K2,c8⟩
    case measure=>simp [intOf];omega
   ·obtain rfl:i=L.length:=by omega
    have d1:decide ((L.length:Int)<(L.length:Int))=false:=by simp
    go_wp2
    go_end0
    refine ⟨rfl,?_,HK.out⟩
    rw [HF.out,List.drop_length]
    show NS _ _ _ _ _ _ _ (Kn.flt fk 0 t)
    rw [Kn.flt_zero]
    exact HN.out
 ·rw [if_neg o2,Kn.flt_zero]
  have q2:(op == 2)=false:=by simpa using o2
  generalize f=f0 at *
  go_enter Tryz.func64,Tryz.ntmps64
  go_wp2
  go_loopw [4] (fun iv wr=> ∃ (i:Nat) (fk:Int × Int),i≤L.length∧iv= .int .i64 i∧Hid (NS c wr nv bv ns bd t fk)∧Hid (Kn.flt f0 (Rn.firstOf (Kn.num (n+1) ns) L) t=Kn.flt fk (Rn.firstOf (Kn.num (n+1) ns) (L.drop i)) t)∧Hid (Kp [c.g] w wr)∧wr.cell? ⟨w.heap.size,3,none⟩=some (.slice a L.length k)) (fun iv _=>L.length - (intOf iv).toNat)
  case atStart=>exact ⟨0,f0,Nat.zero_le _,rfl,hide (H.out.alloc _),rfl,hide ((Kp.refl _ _).alloc _),by simp [go_sem]⟩
  case round=>
   obtain ⟨i,fk,hi,rfl,HN,HF,HK,hp⟩:=hrel
   by_cases hlt:i<L.length
   ·have d1:decide ((i:Int)<(L.length:Int))=true:=by simp;omega
    obtain ⟨b,off,op1,nm1,z1,L1,aL,cL,rfl,-,hd,m0,m1,m2,m3,hL⟩:=(HS.out.keep HK.out (by simpa using hP)).nth i hlt
    have HC:=hide (fun hll=>IH.out _ P op1 z1 nm1 L1 aL cL nv bv ns bd t fk hL hP hll HN.out)
    have HLL:=hide (HLn.out i _ hd)
    have HDR:=hide (drop_nth hd)
    have hk0:(0:Int)≤(i:Int):=by omega
    have hk1:(i:Int)<(L.length:Int):=by omega
    clear hL hd
    go_wp2_with fail
    refine (HC.out HLL.out).mono ?_
    rintro e w2 ⟨rfl,h2,k2⟩
    have c8:w2.cell? ⟨w.heap.size,3,none⟩=some (.slice (some ⟨b,off,none⟩) L.length k):=k2.some hp (by simp;omega)
    have H2:=hide h2
    have K2:=hide (HK.out.trans k2)
    clear h2 k2
    go_wp2
    go_roundw
    case rel=>exact ⟨i+1,_,by omega,by go_num,H2,hide (by rw [HF.out,HDR.out,Kn.flt_first]),K2,c8⟩
    case measure=>simp [intOf];omega
   ·obtain rfl:i=L.length:=by omega
    have d1:decide ((L.length:Int)<(L.length:Int))=false:=by simp
    go_wp2
    go_end0
    refine ⟨rfl,?_,HK.out⟩
    rw [HF.out,List.drop_length]
    show NS _ _ _ _ _ _ _ (Kn.flt fk 0 t)
    rw [Kn.flt_zero]
    exact HN.out
theorem number_any (c:Ng) (n:Nat):NumT c n:=by
 induction n with
 |zero=>intro w P op z nm L a k nv bv ns bd t f h;cases h
 |succ n ih=>exact number_step c n ih
set_option maxRecDepth 100000 in
set_option maxHeartbeats 1000000 in
theorem nmThing_any (c:Ng) (n:Nat) (w:World) (P:Nat→Prop) (op z:Int) (nm ty:List UInt8) (L:List Sx.Tr) (a:Option Addr) (k:Nat) (nv bv:Value) (ns bd:List Kn.Nv) (t:Nat) (f:Int × Int)
  (h:EL w P n L (.slice a L.length k)) (hP: ¬ P c.g) (hl:Kn.lnE (n+1) (Sx.tE op nm z L)) (hns:NS c w nv bv ns bd t f):
  Calls Tryz.prog 63 #[.pointer (some ⟨c.g,0,none⟩),.agg #[.int .i64 op,.string (bs nm),.int .i64 z,.slice a L.length k],.string (bs ty)] w fun e w'=>e= .returned (.tuple #[])∧NS c w' nv bv ns bd t (Kn.flt f (Kn.thg (n+1) ns (Sx.tE op nm z L) ty) t)∧Kp [c.g] w w':=by
 have HS:=hide h
 have H:=hide hns
 have HL:=hide hl
 have hg:=hns.lt
 clear h hns hl
 by_cases ht:ty=[105]
 ·have e1:Kn.thg (n+1) ns (Sx.tE op nm z L) ty=Kn.num (n+1) ns (Sx.tE op nm z L):=by unfold Kn.thg;rw [if_pos ht]
  rw [e1]
  have e2:(bs ty).toList=[105]:=by rw [bsl,ht]
  have HC:=hide (fun w' h1 h2=>number_any c n w' P op z nm L a k nv bv ns bd t f h1 hP HL.out h2)
  generalize bs ty=s at *
  clear e1 ht
  go_enter Tryz.func63,Tryz.ntmps63
  go_wp2_with fail
  refine (HC.out _ (HS.out.keep ((Kp.refl [] w).alloc _) (by simp)) (H.out.alloc _)).mono ?_
  rintro e w1 ⟨rfl,h1,k1⟩
  have H1:=hide h1
  have K1:=hide (((Kp.refl [c.g] w).alloc _).trans k1)
  clear h1 k1
  go_wp2
  refine bodyPost_ret (v:= .tuple #[]) (by simp [results,Tryz.results63,go_sem]) rfl ?_
  exact ⟨rfl,H1.out,K1.out⟩
 ·have HG:Hid (Kn.thg (n+1) ns (Sx.tE op nm z L) ty=if op ≠ 2 then 11 else if Kn.typ ns nm=[] then 10 else if Kn.typ ns nm ≠ ty then 11 else 0):=by
   unfold Kn.thg;rw [if_neg ht];exact rfl
  rw [HG.out]
  have e2:((bs ty).toList == [105])=false:=by rw [bsl];simpa using ht
  clear HG
  by_cases o2:op=2
  ·rw [if_neg (by simpa using o2)]
   subst o2
   have HT:=hide (fun w' (h:NS c w' nv bv ns bd t f)=>nmTyp_any c.g ns nm nv w' h.few (vr_own h.on) h.c2)
   by_cases h0:Kn.typ ns nm=[]
   ·rw [if_pos h0]
    rw [h0] at HT
    have e0:(bs []).toList=[]:=bs0
    have HW:=hide (fun w' h=>nmWrong_any c w' nv bv ns bd t f 10 (by decide) h)
    go_enter Tryz.func63,Tryz.ntmps63
    go_wp2_with fail
    refine (HT.out _ (H.out.alloc _)).mono ?_
    rintro e w1 ⟨rfl,m,rfl⟩
    go_wp2_with fail
    refine (HW.out _ ((H.out.alloc _).drewN m)).mono ?_
    rintro e w2 ⟨rfl,h2,k2⟩
    have H2:=hide h2
    have K2:=hide ((((Kp.refl [c.g] w).alloc _).drewN m).trans k2)
    clear h2 k2
    go_wp2
    go_end0
    exact ⟨rfl,H2.out,K2.out⟩
   ·rw [if_neg h0]
    have e0:((bs (Kn.typ ns nm)).toList == [])=false:=by rw [bsl];simpa using h0
    have e3:(bs (Kn.typ ns nm)).toList=Kn.typ ns nm:=bsl _
    have e4:(bs ty).toList=ty:=bsl _
    by_cases h1:Kn.typ ns nm=ty
    ·rw [if_neg (by simpa using h1),Kn.flt_zero]
     have q:((bs (Kn.typ ns nm)).toList == (bs ty).toList)=true:=by rw [e3,e4];simpa using h1
     clear h0 h1 e3 e4
     generalize bs (Kn.typ ns nm)=s at *
     generalize bs ty=s' at *
     go_enter Tryz.func63,Tryz.ntmps63
     go_wp2_with fail
     refine (HT.out _ (H.out.alloc _)).mono ?_
     rintro e w1 ⟨rfl,m,rfl⟩
     go_wp2_with fail
     refine (HT.out _ ((H.out.alloc _).drewN m)).mono ?_
     rintro e w2 ⟨rfl,m2,rfl⟩
     go_wp2
     go_end0
     exact ⟨rfl,(H.out.alloc _).drewN _,((Kp.refl [c.g] w).alloc _).drewN _⟩
    ·rw [if_pos (by simpa using h1)]
     have q:((bs (Kn.typ ns nm)).toList == (bs ty).toList)=false:=by rw [e3,e4];simpa using h1
     have HW:=hide (fun w' h=>nmWrong_any c w' nv bv ns bd t f 11 (by decide) h)
     clear h0 h1 e3 e4
     generalize bs (Kn.typ ns nm)=s at *
     generalize bs ty=s' at *
     go_enter Tryz.func63,Tryz.ntmps63
     go_wp2_with fail
     refine (HT.out _ (H.out.alloc _)).mono ?_
     rintro e w1 ⟨rfl,m,rfl⟩
     go_wp2_with fail
     refine (HT.out _ ((H.out.alloc _).drewN m)).mono ?_
     rintro e w2 ⟨rfl,m2,rfl⟩
     go_wp2_with fail
     refine (HW.out _ ((H.out.alloc _).drewN _)).mono ?_
     rintro e w3 ⟨rfl,h3,k3⟩
     have H3:=hide h3
     have K3:=hide ((((Kp.refl [c.g] w).alloc _).drewN _).trans k3)
     clear h3 k3
     go_wp2
     go_end0
     exact ⟨rfl,H3.out,K3.out⟩
  ·rw [if_pos o2]
   have q2:(op == 2)=false:=by simpa using o2
   have HW:=hide (fun w' h=>nmWrong_any c w' nv bv ns bd t f 11 (by decide) h)
   generalize bs ty=s at *
   go_enter Tryz.func63,Tryz.ntmps63
   go_wp2_with fail
   refine (HW.out _ (H.out.alloc _)).mono ?_
   rintro e w2 ⟨rfl,h2,k2⟩
   have H2:=hide h2
   have K2:=hide (((Kp.refl [c.g] w).alloc _).trans k2)
   clear h2 k2
   go_wp2
   go_end0
   exact ⟨rfl,H2.out,K2.out⟩
def Kn.abi (l:List Sx.Tr) (nm:List UInt8):Int:=match l.findIdx? (fun g=>Sx.gN g == nm) with
 |some k=>k
 |none=> -1
theorem Kn.abi_at {l:List Sx.Tr} {nm:List UInt8} {i k:Nat} {g:Sx.Tr} (hk:k<i) (hg:l[k]? =some g) (he:Sx.gN g=nm) (hb: ∀ (j:Nat) x,j<k→l[j]? =some x→Sx.gN x ≠ nm):Kn.abi (l.take i) nm=k:=by
 have:(l.take i).findIdx? (fun g=>Sx.gN g == nm)=some k:=by
  rw [List.findIdx?_eq_some_iff_getElem]
  obtain ⟨h1,h2⟩:=List.getElem?_eq_some_iff.1 hg
  refine ⟨by simp;omega,by simp [h2,he],fun j hj=> ?_⟩
  have hjl:j<l.length:=by omega
  have:=hb j l[j] hj (List.getElem?_eq_getElem hjl)
  simpa using this
 unfold Kn.abi
 rw [this]
theorem Kn.abi_none {l:List Sx.Tr} {nm:List UInt8} {i:Nat} (hb: ∀ (j:Nat) x,j<i→l[j]? =some x→Sx.gN x ≠ nm):Kn.abi (l.take i) nm= -1:=by
 have:(l.take i).findIdx? (fun g=>Sx.gN g == nm)=none:=by
  rw [List.findIdx?_eq_none_iff]
  intro x hx
  obtain ⟨j,hj⟩:=List.mem_iff_getElem?.1 hx
  rw [List.getElem?_take] at hj
  split at hj
  ·rename_i hlt
   simpa using hb j x hlt hj
  ·cases hj
 unfold Kn.abi
 rw [this]
set_option maxRecDepth 100000 in
set_option maxHeartbeats 1000000 in
theorem nmAbove_any (c:Ng) (n:Nat) (w:World) (P:Nat→Prop) (nm:List UInt8) (nv bv:Value) (ns bd:List Kn.Nv) (t:Nat) (f:Int × Int)
  (h:Sl (RG w P n) w P c.l (.slice c.sa c.l.length c.sc)) (hi:c.i≤c.l.length) (hlen:c.l.length≤1000000) (hns:NS c w nv bv ns bd t f):
  Calls Tryz.prog 23 #[.pointer (some ⟨c.g,0,none⟩),.string (bs nm)] w fun e w'=>e= .returned (.int .i64 (Kn.abi (c.l.take c.i) nm))∧ ∃ n,w'=w.drewN n:=by
 have HS:=hide h
 have c0:=hns.c0
 have c1:=hns.c1
 clear h hns
 obtain ⟨g,l,sa,sc,i⟩:=c
 dsimp only at *
 go_enter Tryz.func23,Tryz.ntmps23
 go_wp2
 go_loopw [5] (fun iv wr=> ∃ k:Nat,k≤i∧iv= .int .i64 k∧(∃ n,wr=w.drewN n)∧Hid (∀ (j:Nat) x,j<k→l[j]? =some x→Sx.gN x ≠ nm)) (fun iv _=>i - (intOf iv).toNat)
 case atStart=>exact ⟨0,Nat.zero_le _,rfl,⟨0,rfl⟩,hide (fun j x hj=>by omega)⟩
 case round=>
  obtain ⟨k,hk,rfl,⟨m,rfl⟩,HN⟩:=hrel
  by_cases hlt:k<i
  ·have d1:decide ((k:Int)<(i:Int))=true:=by simp;omega
   obtain ⟨b,off,nm1,at',ps,body,uP,uB,rfl,-,hd,m0,m1,m2,m3,hPs,hB⟩:=GL.nth HS.out k (by omega)
   have hk0:(0:Int)≤(k:Int):=by omega
   have hk1:(k:Int)<(l.length:Int):=by omega
   clear hPs hB
   have HD:=hide hd
   clear hd
   by_cases he:nm1=nm
   ·have hb:((bs nm1).toList == (bs nm).toList)=true:=by rw [he];simp
    have HV:=hide (Kn.abi_at hlt HD.out he HN.out)
    go_wp2
    go_ret
    exact ⟨by rw [HV.out];rfl,_,rfl⟩
   ·have hb:=bs_ne he
    go_wp2
    go_roundw
    case rel=>
     refine ⟨k+1,by omega,by go_num,⟨_,rfl⟩,hide (fun j y hj hy=> ?_)⟩
     by_cases hjk:j=k
     ·subst hjk;rw [HD.out] at hy;cases hy;exact he
     ·exact HN.out j y (by omega) hy
    case measure=>simp [intOf];omega
  ·obtain rfl:k=i:=by omega
   have d1:decide ((k:Int)<(k:Int))=false:=by simp
   have HV:=hide (Kn.abi_none HN.out)
   go_wp2
   go_ret
   exact ⟨by rw [HV.out];rfl,_,rfl⟩
theorem binding_any (d:Int) (w:World):Calls Tryz.prog 60 #[.int .i64 d] w fun e w'=>e= .returned (.bool (Kn.binding d))∧w'=w:=by
 unfold Kn.binding
 by_cases h1:d=1
 ·subst h1
  go_enter Tryz.func60,Tryz.ntmps60
  go_wp2
  go_ret
  exact ⟨rfl,rfl⟩
 have q1:(d == 1)=false:=by simpa using h1
 by_cases h4:d=4
 ·subst h4
  go_enter Tryz.func60,Tryz.ntmps60
  go_wp2
  go_ret
  exact ⟨rfl,rfl⟩
 have q4:(d == 4)=false:=by simpa using h4
 by_cases h5:d=5
 ·subst h5
  go_enter Tryz.func60,Tryz.ntmps60
  go_wp2
  go_ret
  exact ⟨rfl,rfl⟩
 have q5:(d == 5)=false:=by simpa using h5
 by_cases h11:d=11
 ·subst h11
  go_enter Tryz.func60,Tryz.ntmps60
  go_wp2
  go_ret
  exact ⟨rfl,rfl⟩
 have q11:(d == 11)=false:=by simpa using h11
 rw [q1,q4,q5,q11]
 simp only [Bool.false_or]
 go_enter Tryz.func60,Tryz.ntmps60
 go_wp2
 go_ret
 exact ⟨rfl,rfl⟩
end Go.Proofs.YthcapfojofahkaaGreatDoor
namespace Go.Proofs.YthcapfojofahkaaGreatDoor
open Go.RowKit Go.Maps Go.ChangeMaps
theorem Tryz.zeroInt (w:World):(zeroValue 3).run Tryz.prog w= .ok (.int .i64 0) w:=by kernel_rfl
namespace Kn
def ix:List Nv→List UInt8→Option Nat
 |[],_=>none
 |v::r,nm=>if v.1=nm then some 0 else (ix r nm).map (· +1)
theorem ix_isIn (bd:List Nv) (nm:List UInt8):(ix bd nm).isSome=isIn bd nm:=by
 induction bd with
 |nil=>rfl
 |cons v r ih=>
  unfold ix isIn
  rw [List.any_cons]
  by_cases h:v.1=nm
  ·rw [if_pos h];simp [h]
  ·rw [if_neg h,Option.isSome_map,ih]
   simp [h,isIn]
theorem ix_some {bd:List Nv} {nm:List UInt8} {k:Nat} (h:ix bd nm=some k): ∃ v,bd[k]? =some v∧v.1=nm:=by
 induction bd generalizing k with
 |nil=>cases h
 |cons v r ih=>
  unfold ix at h
  split at h
  ·rename_i e;cases h;exact ⟨v,rfl,e⟩
  ·cases hr:ix r nm with
   |none=>rw [hr] at h;cases h
   |some j=>
    rw [hr] at h
    simp only [Option.map_some,Option.some.injEq] at h
    subst h
    exact ih hr
theorem isIn_iff {bd:List Nv} {nm:List UInt8}:isIn bd nm=true ↔ ∃ v,v ∈ bd∧v.1=nm:=by
 unfold isIn
 rw [List.any_eq_true]
 exact ⟨fun ⟨v,h1,h2⟩=>⟨v,h1,by simpa using h2⟩,fun ⟨v,h1,h2⟩=>⟨v,h1,by simpa using h2⟩⟩
theorem ix_snoc {bd:List Nv} (v:Nv) (h:isIn bd v.1=false) (nm:List UInt8):ix (bd++[v]) nm=if nm=v.1 then some bd.length else ix bd nm:=by
 induction bd with
 |nil=>
  show (if v.1=nm then some 0 else none)=_
  by_cases e:nm=v.1
  ·rw [if_pos e,if_pos e.symm];rfl
  ·rw [if_neg e,if_neg (fun h=>e h.symm)];rfl
 |cons u r ih=>
  have hu:u.1 ≠ v.1∧isIn r v.1=false:=by
   unfold isIn at h
   rw [List.any_cons,Bool.or_eq_false_iff] at h
   exact ⟨by simpa using h.1,h.2⟩
  show (if u.1=nm then some 0 else (ix (r++[v]) nm).map (· +1))=_
  rw [ih hu.2]
  show _=if nm=v.1 then _ else (if u.1=nm then some 0 else (ix r nm).map (· +1))
  by_cases e:nm=v.1
  ·rw [if_pos e,if_pos e,if_neg (fun h=>hu.1 (h.trans e))];simp
  ·rw [if_neg e,if_neg e]
def Nd:List Nv→Prop
 |[]=>True
 |v::r=>isIn r v.1=false∧Nd r
theorem Nd.same {bd:List Nv} (h:Nd bd) {u v:Nv} (hu:u ∈ bd) (hv:v ∈ bd) (e:u.1=v.1):u=v:=by
 induction bd with
 |nil=>cases hu
 |cons x r ih=>
  have key: ∀ y,y ∈ r→y.1 ≠ x.1:=fun y hy he=>by
   have:=h.1
   rw [isIn_iff.2 ⟨y,hy,he⟩] at this
   cases this
  rcases List.mem_cons.1 hu with h1|h1
  ·rcases List.mem_cons.1 hv with h2|h2
   ·rw [h1,h2]
   ·rw [h1] at e;exact absurd e.symm (key v h2)
  ·rcases List.mem_cons.1 hv with h2|h2
   ·rw [h2] at e;exact absurd e (key u h1)
   ·exact ih h.2 h1 h2
theorem Nd.snoc {bd:List Nv} (h:Nd bd) {v:Nv} (hv:isIn bd v.1=false):Nd (bd++[v]):=by
 induction bd with
 |nil=>exact ⟨rfl,trivial⟩
 |cons x r ih=>
  have hx:x.1 ≠ v.1∧isIn r v.1=false:=by
   unfold isIn at hv
   rw [List.any_cons,Bool.or_eq_false_iff] at hv
   exact ⟨by simpa using hv.1,hv.2⟩
  refine ⟨?_,ih h.2 hx.2⟩
  have h1:=h.1
  unfold isIn at h1 ⊢
  show ((r++[v]).any fun v=>v.1 == x.1)=false
  rw [List.any_append,h1]
  simpa using fun e=>hx.1 e.symm
theorem typ_mem {ns:List Nv} {nm:List UInt8} (h:isIn ns nm=true): ∃ v,v ∈ ns∧v.1=nm∧typ ns nm=v.2:=by
 induction ns with
 |nil=>cases h
 |cons x r ih=>
  unfold typ
  by_cases e:x.1=nm
  ·rw [if_pos e];exact ⟨x,List.mem_cons_self,e,rfl⟩
  ·rw [if_neg e]
   have:isIn r nm=true:=by
    unfold isIn at h ⊢
    rw [List.any_cons] at h
    simpa [e] using h
   obtain ⟨v,h1,h2,h3⟩:=ih this
   exact ⟨v,List.mem_cons_of_mem _ h1,h2,h3⟩
theorem typ_not {ns:List Nv} {nm:List UInt8} (h:isIn ns nm=false):typ ns nm=[]:=by
 induction ns with
 |nil=>rfl
 |cons x r ih=>
  unfold isIn at h
  rw [List.any_cons,Bool.or_eq_false_iff] at h
  unfold typ
  rw [if_neg (by simpa using h.1)]
  exact ih h.2
def fb (bd:List Nv) (nm:List UInt8):Option Value:=(ix bd nm).map fun k=> .int .i64 k
def fkn (ns bd:List Nv) (nm:List UInt8):Option Value:=if isIn ns nm then fb bd nm else none
structure Sb (ns bd:List Nv):Prop where
 nd:Nd bd
 sub: ∀ v,v ∈ ns→v ∈ bd
theorem Sb.at {ns bd:List Nv} (h:Sb ns bd) {nm:List UInt8} (hn:isIn ns nm=true): ∃ k,fkn ns bd nm=some (.int .i64 (k:Nat))∧bd[k]? =some (nm,typ ns nm):=by
 obtain ⟨v,h1,h2,h3⟩:=typ_mem hn
 have hb:isIn bd nm=true:=isIn_iff.2 ⟨v,h.sub v h1,h2⟩
 rw [←ix_isIn] at hb
 obtain ⟨k,hk⟩:=Option.isSome_iff_exists.1 hb
 obtain ⟨u,hu,hu1⟩:=ix_some hk
 have:u=v:=h.nd.same (List.mem_of_getElem? hu) (h.sub v h1) (by rw [hu1,h2])
 subst this
 refine ⟨k,by unfold fkn fb;rw [hn,hk];rfl,?_⟩
 rw [hu,h3,←h2]
end Kn
structure Kg where
 g:Nat
 mb:Nat
 mo:Nat
 ma:Nat
 na:Nat
 fa:List UInt8→Option Value
structure KS (c:Kg) (w:World) (vv:Value) (bd:List Kn.Nv) (fk:List UInt8→Option Value) (t:Nat):Prop where
 lt:c.g<w.heap.size
 c0:w.cell? ⟨c.g,0,none⟩=some vv
 c1:w.cell? ⟨c.g,1,none⟩=some (.map (some c.mb))
 c2:w.cell? ⟨c.g,2,none⟩=some (.map (some c.mo))
 c3:w.cell? ⟨c.g,3,none⟩=some (.map (some c.ma))
 c4:w.cell? ⟨c.g,4,none⟩=some (.int .i64 t)
 fz: ∀ k,w.frozen? ⟨c.g,k,none⟩=false
 ob:w.ownsRow (c.g+1) 39 2 vv bd.length (vcells bd)
 mb:MV w c.mb bd.length (Kn.fb bd)
 mo:MV w c.mo bd.length fk
 ma:MV w c.ma c.na c.fa
 ne:c.mb ≠ c.mo
 na:c.ma ≠ c.mb∧c.ma ≠ c.mo
 gm:c.g<c.mb∧c.g<c.mo
 lb:bd.length≤1000
 lat:t≤100000
 sz: ∀ v,v ∈ bd→v.1.length≤1000000∧v.2.length≤1000000
theorem KS.keep {c:Kg} {w w':World} {S:List Nat} {vv:Value} {bd:List Kn.Nv} {fk:List UInt8→Option Value} {t:Nat} (h:KS c w vv bd fk t) (hk:Kp S w w') (hS: ∀ b,b ∈ S→w.heap.size≤b):KS c w' vv bd fk t:=
 have hno: ∀ b,b<w.heap.size→b ∉ S:=fun b hb hm=>by have:=hS _ hm;omega
 have hg:=hno _ h.lt
 ⟨Nat.lt_of_lt_of_le h.lt hk.size,hk.some h.c0 hg,hk.some h.c1 hg,hk.some h.c2 hg,hk.some h.c3 hg,hk.some h.c4 hg,fun k=>(hk.frozen (p:=⟨c.g,k,none⟩) h.lt hg).trans (h.fz k),own_keepv h.ob (fun b hb=>hk.block b (h.ob.lt b hb).2 (hno _ (h.ob.lt b hb).2)),h.mb.of_block (hk.block _ h.mb.lt (hno _ h.mb.lt)),h.mo.of_block (hk.block _ h.mo.lt (hno _ h.mo.lt)),h.ma.of_block (hk.block _ h.ma.lt (hno _ h.ma.lt)),h.ne,h.na,h.gm,h.lb,h.lat,h.sz⟩
theorem KS.kp {c:Kg} {w w':World} {vv:Value} {bd:List Kn.Nv} {fk:List UInt8→Option Value} {t:Nat} (h:KS c w vv bd fk t) (hk:Kp [] w w'):KS c w' vv bd fk t:=h.keep hk (by simp)
set_option maxRecDepth 100000 in
set_option maxHeartbeats 1000000 in
theorem kTypeOf_any (c:Kg) (w:World) (vv:Value) (bd ns:List Kn.Nv) (t:Nat) (nm:List UInt8) (h:KS c w vv bd (Kn.fkn ns bd) t) (hs:Kn.Sb ns bd) (hl:nm.length≤1000000):
  Calls Tryz.prog 118 #[.pointer (some ⟨c.g,0,none⟩),.string (bs nm)] w fun e w'=>e= .returned (.string (bs (Kn.typ ns nm)))∧Kp [] w w':=by
 have c2:=h.c2
 have c0:=h.c0
 have HL:=h.mo.look nm hl Tryz.underlying58 (Tryz.zeroInt w)
 cases hi:Kn.isIn ns nm with
 |false=>
  have e1:Kn.fkn ns bd nm=none:=by unfold Kn.fkn;rw [hi];rfl
  rw [e1] at HL
  rw [Kn.typ_not hi]
  clear h hs
  go_enter Tryz.func118,Tryz.ntmps118
  go_wp2
  go_ret
  exact ⟨rfl,Kp.refl _ _⟩
 |true=>
  obtain ⟨k,e1,e2⟩:=hs.at hi
  rw [e1] at HL
  obtain ⟨a,cap,rfl,hc⟩:=vr_own h.ob
  obtain ⟨b,o,rfl,hd⟩:=hc (fun e=>by rw [e] at e2;cases e2)
  obtain ⟨x1,x2⟩:=hd k _ e2
  have hk:k<bd.length:=(List.getElem?_eq_some_iff.1 e2).1
  have hk0:(0:Int)≤(k:Int):=by omega
  have hk1:(k:Int)<(bd.length:Int):=by omega
  clear h hs hc hd e1 e2
  go_enter Tryz.func118,Tryz.ntmps118
  go_wp2
  go_ret
  exact ⟨rfl,Kp.refl _ _⟩
end Go.Proofs.YthcapfojofahkaaGreatDoor
