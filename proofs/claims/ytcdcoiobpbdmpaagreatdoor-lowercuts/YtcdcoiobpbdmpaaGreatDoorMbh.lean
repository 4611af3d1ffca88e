import Derived.Test.YtcdcoiobpbdmpaaGreatDoorMbg
import Derived.Test.YtcdcoiobpbdmpaaGreatDoorMae
import Derived.BigRegion
import Derived.Deep.RegionLaw
namespace Go.Proofs.YtcdcoiobpbdmpaaGreatDoor
open Go.RowKit Go.Maps Go.ChangeMaps
structure Kf (c:Kg) (vv:Value) (w:World) (vv':Value) (w':World):Prop where
 os:w'.os=w.os
 tape:w'.tape=w.tape
 output:w'.output=w.output
 size:w.heap.size≤w'.heap.size
 block: ∀ b,b<w.heap.size→b ≠ c.g→b ≠ c.mb→b ≠ c.mo→vv.ownBlock ≠ some b→w'.heap[b]? =w.heap[b]?
 nb: ∀ b,vv'.ownBlock=some b→vv.ownBlock=some b∨w.heap.size≤b
theorem Kf.refl (c:Kg) (vv:Value) (w:World):Kf c vv w vv w:=⟨rfl,rfl,rfl,Nat.le_refl _,fun _ _ _ _ _ _=>rfl,fun _ h=> .inl h⟩
theorem Kf.trans {c:Kg} {v1 v2 v3:Value} {w1 w2 w3:World} (h:Kf c v1 w1 v2 w2) (k:Kf c v2 w2 v3 w3):Kf c v1 w1 v3 w3:=
 ⟨k.os.trans h.os,k.tape.trans h.tape,k.output.trans h.output,Nat.le_trans h.size k.size,fun b hb h1 h2 h3 h4=>(k.block b (Nat.lt_of_lt_of_le hb h.size) h1 h2 h3 (fun e=>(h.nb b e).elim h4 (fun e=>by omega))).trans (h.block b hb h1 h2 h3 h4),fun b e=>(k.nb b e).elim (fun e=>h.nb b e) (fun e=> .inr (Nat.le_trans h.size e))⟩
theorem Kf.of_kp {c:Kg} {vv:Value} {w w':World} (h:Kp [] w w'):Kf c vv w vv w':=
 ⟨h.os,h.tape,h.output,h.size,fun b hb _ _ _ _=>h.block b hb (by simp),fun _ h=> .inl h⟩
structure Mo (c:Kg) (w w':World):Prop where
 os:w'.os=w.os
 tape:w'.tape=w.tape
 output:w'.output=w.output
 size:w'.heap.size=w.heap.size
 block: ∀ b,b ≠ c.mb→b ≠ c.mo→w'.heap[b]? =w.heap[b]?
theorem Mo.set (c:Kg) (w:World) (b:Nat) (o:Obj) (hb:b=c.mb∨b=c.mo):Mo c w (setBlock w b o):=
 ⟨rfl,rfl,rfl,setBlock_size _ _ _,fun k h1 h2=>setBlock_other _ _ _ _ (fun e=>by subst e;exact hb.elim h1 h2)⟩
theorem Mo.trans {c:Kg} {w1 w2 w3:World} (h:Mo c w1 w2) (k:Mo c w2 w3):Mo c w1 w3:=
 ⟨k.os.trans h.os,k.tape.trans h.tape,k.output.trans h.output,k.size.trans h.size,fun b h1 h2=>(k.block b h1 h2).trans (h.block b h1 h2)⟩
theorem Mo.cell {c:Kg} {w w':World} (h:Mo c w w') {b k:Nat} {v:Value} (h1:b ≠ c.mb) (h2:b ≠ c.mo) (hc:w.cell? ⟨b,k,none⟩=some v):w'.cell? ⟨b,k,none⟩=some v:=
 (World.cell?_of_block (w:=w) (a:=⟨b,k,none⟩) (h.block b h1 h2)).trans hc
theorem Kn.fb_snoc {bd:List Kn.Nv} (x:Kn.Nv) (h:Kn.isIn bd x.1=false):upd (Kn.fb bd) x.1 (.int .i64 bd.length)=Kn.fb (bd++[x]):=by
 funext nm
 unfold upd Kn.fb
 rw [Kn.ix_snoc x h]
 by_cases e:nm=x.1
 ·rw [if_pos e,if_pos e];rfl
 ·rw [if_neg e,if_neg e]
theorem Kn.fkn_snoc {ns bd:List Kn.Nv} (x:Kn.Nv) (h:Kn.isIn bd x.1=false):upd (Kn.fkn ns bd) x.1 (.int .i64 bd.length)=Kn.fkn (ns++[x]) (bd++[x]):=by
 rw [show Kn.fkn (ns++[x]) (bd++[x])=fun nm=>if Kn.isIn (ns++[x]) nm then Kn.fb (bd++[x]) nm else none from rfl,←Kn.fb_snoc x h]
 funext nm
 unfold upd Kn.fkn
 rw [Kn.isIn_app,Kn.isIn_one]
 by_cases e:nm=x.1
 ·rw [if_pos e,if_pos e,if_pos (by simp [e])]
 ·have:decide (x.1=nm)=false:=by simpa using fun h=>e h.symm
  rw [if_neg e,if_neg e,this,Bool.or_false]
theorem MV.not_row {w:World} {b m B e z n:Nat} {f:List UInt8→Option Value} {v:Value} {xs:List Value} (h:MV w b m f) (ho:w.ownsRow B e z v n xs):v.ownBlock ≠ some b:=by
 intro hv
 obtain ⟨D,⟨es,cl,h1,_⟩,_⟩:=h
 rcases ho.2 with ⟨rfl,_⟩|⟨g,cap,cur,rfl,_,hg,_⟩
 ·cases hv
 ·cases hv
  rw [h1] at hg
  cases hg
structure Pk (c:Kg) (bd ns:List Kn.Nv) (x:Kn.Nv) (w w':World):Prop where
 mo:Mo c w w'
 mb:MV w' c.mb (bd.length+1) (Kn.fb (bd++[x]))
 mk':MV w' c.mo (bd.length+1) (Kn.fkn (ns++[x]) (bd++[x]))
theorem with_world {P G:World→Prop} {W:World} (h:P W) (f: ∀ W,P W→G W):G W:=f W h
theorem KS.put2 {c:Kg} {w:World} {vv:Value} {bd ns:List Kn.Nv} {t:Nat} (h:KS c w vv bd (Kn.fkn ns bd) t) (x:Kn.Nv) (hx:Kn.isIn bd x.1=false) (hl:x.1.length≤1000000):
  ∃ (v1 v2 v3:Value) (s1 s2 s3:Nat) (W2 W3 W4 W5 X3 X4 X5:World),(Instr.mapEntry 79 (.map (some c.mb)) (.string (bs x.1))).run Tryz.prog w= .ok (.tuple #[v1,.int .i64 s1]) W2∧(Instr.mapEntry 79 (.map (some c.mo)) (.string (bs x.1))).run Tryz.prog W2= .ok (.tuple #[v2,.int .i64 s2]) W3∧
    (Instr.entryStore 79 (.map (some c.mb)) (.int .i64 s1) (.int .i64 bd.length)).run Tryz.prog W3= .ok () W4∧(Instr.entryStore 79 (.map (some c.mo)) (.int .i64 s2) (.int .i64 bd.length)).run Tryz.prog W4= .ok () W5∧
    (Instr.entryStore 79 (.map (some c.mb)) (.int .i64 s1) (.int .i64 bd.length)).run Tryz.prog W2= .ok () X3∧(Instr.mapEntry 79 (.map (some c.mo)) (.string (bs x.1))).run Tryz.prog X3= .ok (.tuple #[v3,.int .i64 s3]) X4∧(Instr.entryStore 79 (.map (some c.mo)) (.int .i64 s3) (.int .i64 bd.length)).run Tryz.prog X4= .ok () X5∧
    Mo c w W2∧Mo c w W3∧Mo c w W4∧Mo c w X3∧Mo c w X4∧Pk c bd ns x w W5∧Pk c bd ns x w X5:=by
 have hb:=h.lb
 have hne:=h.ne
 have hne':c.mo ≠ c.mb:=fun e=>hne e.symm
 have hsz:c.mb<w.heap.size:=h.mb.lt
 have hso:c.mo<w.heap.size:=h.mo.lt
 have same: ∀ (W:World) (b:Nat) (o:Obj),b<W.heap.size→(setBlock W b o).heap[b]? =some o:=fun W b o hb=>by
  simp only [setBlock]
  rw [Array.getElem?_setIfInBounds_self_of_lt hb]
 obtain ⟨v1,s1,o1,r1,f1⟩:=h.mb.entry x.1 hl (by omega) Tryz.underlying79 Tryz.zeroInt
 have k1:=Mo.set c w c.mb o1 (.inl rfl)
 have e1:(setBlock w c.mb o1).heap[c.mb]? =some o1:=same _ _ _ hsz
 have hk2:MV (setBlock w c.mb o1) c.mo bd.length (Kn.fkn ns bd):=h.mo.of_block (setBlock_other _ _ _ _ hne')
 obtain ⟨v2,s2,o2,r2,f2⟩:=hk2.entry x.1 hl (by omega) Tryz.underlying79 Tryz.zeroInt
 have k2:=k1.trans (Mo.set c _ c.mo o2 (.inr rfl))
 obtain ⟨o3,r3,m3⟩:=f1 (.int .i64 bd.length) (setBlock (setBlock w c.mb o1) c.mo o2) (by rw [setBlock_other _ _ _ _ hne];exact e1)
 have k3:=k2.trans (Mo.set c _ c.mb o3 (.inl rfl))
 obtain ⟨o4,r4,m4⟩:=f2 (.int .i64 bd.length) (setBlock (setBlock (setBlock w c.mb o1) c.mo o2) c.mb o3) (by rw [setBlock_other _ _ _ _ hne',same _ _ _ (by rw [setBlock_size];exact hso)])
 have k4:=k3.trans (Mo.set c _ c.mo o4 (.inr rfl))
 obtain ⟨p3,t3,n3⟩:=f1 (.int .i64 bd.length) (setBlock w c.mb o1) e1
 have l3:=k1.trans (Mo.set c _ c.mb p3 (.inl rfl))
 have hk4:MV (setBlock (setBlock w c.mb o1) c.mb p3) c.mo bd.length (Kn.fkn ns bd):=h.mo.of_block (by rw [setBlock_other _ _ _ _ hne',setBlock_other _ _ _ _ hne'])
 obtain ⟨v3,s3,p4,t4,g4⟩:=hk4.entry x.1 hl (by omega) Tryz.underlying79 Tryz.zeroInt
 have l4:=l3.trans (Mo.set c _ c.mo p4 (.inr rfl))
 obtain ⟨p5,t5,n5⟩:=g4 (.int .i64 bd.length) (setBlock (setBlock (setBlock w c.mb o1) c.mb p3) c.mo p4) (same _ _ _ (by rw [setBlock_size,setBlock_size];exact hso))
 have l5:=l4.trans (Mo.set c _ c.mo p5 (.inr rfl))
 refine ⟨v1,v2,v3,s1,s2,s3,_,_,_,_,_,_,_,r1,r2,r3,r4,t3,t4,t5,k1,k2,k3,l3,l4,⟨k4,?_,?_⟩,⟨l5,?_,?_⟩⟩
 ·rw [←Kn.fb_snoc x hx]
  exact m3.of_block (setBlock_other _ _ _ _ hne)
 ·rw [←Kn.fkn_snoc x hx]
  exact m4
 ·rw [←Kn.fb_snoc x hx]
  exact n3.of_block (by rw [setBlock_other _ _ _ _ hne,setBlock_other _ _ _ _ hne])
 ·rw [←Kn.fkn_snoc x hx]
  exact n5
theorem step_call_ret {P:Program} {ops:Array Oper} {o:Oper} {a:Act} {w:World} {K:Act→World→Prop} {Q:Exit→Act→World→Prop} {E:Prop} (hgd:o.guard=none) (f:FuncId) (args:Array Value) (hrun:(execOp a.eval o).run P w= .ok (.enter f args) w)
  {v:Value} {R:World→Prop} (hC:Calls P f args w fun e w'=>e= .returned v∧R w') (hK: ∀ w',R w'→K (a.put o.dst v) w'):if Region.wanted o (yielded ops a.tmps)=true then Oper.wp P o a w K Q else E:=by
 have hw:Region.wanted o (yielded ops a.tmps)=true:=by simp [Region.wanted,hgd]
 rw [if_pos hw]
 unfold Oper.wp
 rw [hrun]
 show Calls P f args w _
 refine hC.mono ?_
 rintro e w' ⟨rfl,hr⟩
 exact hK w' hr
theorem VR.kpb {w w':World} {v:Value} {l:List Kn.Nv} (h:VR w v l) (hk: ∀ g o n cp k u,v= .slice (some ⟨g,o,none⟩) n cp→w.cell? ⟨g,k,none⟩=some u→w'.cell? ⟨g,k,none⟩=some u):VR w' v l:=by
 obtain ⟨a,c,h1,h2⟩:=h
 refine ⟨a,c,h1,fun hn=> ?_⟩
 obtain ⟨g,o,h3,h4⟩:=h2 hn
 subst h3
 exact ⟨g,o,rfl,fun k x hx=>⟨hk g o _ _ _ _ h1 (h4 k x hx).1,hk g o _ _ _ _ h1 (h4 k x hx).2⟩⟩
theorem KS.app {c:Kg} {w1 w2 w3 w4:World} {o:Obj} {vv nv:Value} {bd ns:List Kn.Nv} {t:Nat} {x:Kn.Nv} {gg:Nat} (h:KS c w1 vv bd (Kn.fkn ns bd) t) (hp:Pk c bd ns x w1 w2) (hk:Kp [] w2 w3) (hgrow:(w3.alloc o).grownBy w4 vv.ownBlock)
  (hown:w4.ownsRow (c.g+1) 98 2 nv (bd.length+1) (vcells bd++[.string (bs x.1),.string (bs x.2)])) (hv:nv.ownBlock=some gg) (hat:vv.ownBlock=some gg∨gg=(w3.alloc o).heap.size) (hl:bd.length<1000) (hx:x.1.length≤1000000∧x.2.length≤1000000):
  KS c (w4.setCell ⟨c.g,0,none⟩ nv) nv (bd++[x]) (Kn.fkn (ns++[x]) (bd++[x])) t∧Kf c vv w1 nv (w4.setCell ⟨c.g,0,none⟩ nv):=by
 have hgm:=h.gm
 have hlt:=h.lt
 have s2:w2.heap.size=w1.heap.size:=hp.mo.size
 have s3:=hk.size
 have s4:w3.heap.size+1≤w4.heap.size:=by have:=hgrow.size;simp at this;exact this
 have hbl: ∀ b,b<w1.heap.size→vv.ownBlock ≠ some b→w4.heap[b]? =w2.heap[b]? :=fun b hb hn=>
  ((hgrow.block b (by simp;omega) (fun e=>hn e.symm)).trans (Below.heap_alloc _ _ _ (by omega))).trans (hk.block b (by omega) (by simp))
 have ng:vv.ownBlock ≠ some c.g:=fun e=>by have:=(h.ob.lt _ e).1;omega
 have nmb:=h.mb.not_row h.ob
 have nmo:=h.mo.not_row h.ob
 have nma:=h.ma.not_row h.ob
 have bg:w4.heap[c.g]? =w1.heap[c.g]? :=(hbl c.g hlt ng).trans (hp.mo.block c.g (by omega) (by omega))
 have ec: ∀ k,w4.cell? ⟨c.g,k,none⟩=w1.cell? ⟨c.g,k,none⟩:=fun k=>World.cell?_of_block (w:=w1) bg
 have ef: ∀ k,w4.frozen? ⟨c.g,k,none⟩=w1.frozen? ⟨c.g,k,none⟩:=fun k=>World.frozen?_of_block (w:=w1) bg
 have d0:=(ec 0).trans h.c0
 have d1:=(ec 1).trans h.c1
 have d2:=(ec 2).trans h.c2
 have d3:=(ec 3).trans h.c3
 have d4:=(ec 4).trans h.c4
 have hset: ∀ b,b ≠ c.g→(w4.setCell ⟨c.g,0,none⟩ nv).heap[b]? =w4.heap[b]? :=fun b hb=>Below.heap_setCell _ _ _ _ (fun e=>hb e)
 have nag:c.ma ≠ c.g:=fun e=>h.ma.no_cell 0 vv (by rw [e];exact h.c0)
 refine ⟨⟨by simp;omega,by simp [go_sem,d0],by simp [go_sem,d1],by simp [go_sem,d2],by simp [go_sem,d3],by simp [go_sem,d4],?_,?_,?_,?_,?_,h.ne,h.na,h.gm,by simp;omega,h.lat,?_⟩,?_⟩
 ·intro k
  have:=(ef k).trans (h.fz k)
  simp [go_sem,this]
 ·rw [List.length_append,vcells_app]
  exact ownsRow_setCell_below hown (by show c.g<c.g+1;omega) _
 ·rw [List.length_append]
  exact hp.mb.of_block ((hset _ (by omega)).trans (hbl _ h.mb.lt nmb))
 ·rw [List.length_append]
  exact hp.mk'.of_block ((hset _ (by omega)).trans (hbl _ h.mo.lt nmo))
 ·exact h.ma.of_block ((hset _ nag).trans ((hbl _ h.ma.lt nma).trans (hp.mo.block _ h.na.1 h.na.2)))
 ·intro v hv'
  rcases List.mem_append.1 hv' with hv'|hv'
  ·exact h.sz v hv'
  ·simp at hv';subst hv';exact hx
 ·refine ⟨?_,?_,?_,by simp;omega,fun b hb h1 h2 h3 h4=>(hset b h1).trans ((hbl b hb h4).trans (hp.mo.block b h2 h3)),fun b e=> ?_⟩
  ·exact (((Kp.refl [c.g] w4).rb 0 nv).os).trans (hgrow.os.trans (hk.os.trans hp.mo.os))
  ·exact (((Kp.refl [c.g] w4).rb 0 nv).tape).trans (hgrow.tape.trans (hk.tape.trans hp.mo.tape))
  ·exact (((Kp.refl [c.g] w4).rb 0 nv).output).trans (hgrow.output.trans (hk.output.trans hp.mo.output))
  ·rw [hv] at e
   cases e
   exact hat.imp id (fun e=>by rw [e];simp;omega)
set_option maxRecDepth 100000 in
set_option maxHeartbeats 4000000 in
theorem kBind_any (c:Kg) (w:World) (vv:Value) (bd ns:List Kn.Nv) (t:Nat) (V:List Kn.Nv) (aV:Option Addr) (cV:Nat) (h:KS c w vv bd (Kn.fkn ns bd) t) (hV:VR w (.slice aV V.length cV) V)
  (hVb: ∀ g o,aV=some ⟨g,o,none⟩→g ≠ c.g∧g ≠ c.mb∧g ≠ c.mo∧vv.ownBlock ≠ some g∧g<w.heap.size) (hl:bd.length+V.length≤1000) (hz: ∀ v,v ∈ V→v.1.length≤1000000∧v.2.length≤1000000) (htw:Kn.twiceP bd V=false):
  Calls Tryz.prog 72 #[.pointer (some ⟨c.g,0,none⟩),.slice aV V.length cV] w fun e w'=>e= .returned (.tuple #[])∧ ∃ vv',KS c w' vv' (bd++V) (Kn.fkn (ns++V) (bd++V)) t∧Kf c vv w vv' w':=by
 obtain ⟨i0,hi0,hz0,hz1,hz2⟩:=info_parts Tryz.infoVar
 have H:=hide h
 have HV:=hide hV
 have HZ:=hide hz
 have HTW:=hide htw
 have HVB:=hide hVb
 clear h hV hz htw hVb
 go_enter Tryz.func72,Tryz.ntmps72
 go_wp2
 go_loopw [8] (fun iv wr=> ∃ (i:Nat) (vr:Value),i≤V.length∧iv= .int .i64 i∧Hid (KS c wr vr (bd++V.take i) (Kn.fkn (ns++V.take i) (bd++V.take i)) t)∧Hid (Kf c vv w vr wr)∧Hid (Kn.twiceP (bd++V.take i) (V.drop i)=false)) (fun iv _=>V.length - (intOf iv).toNat)
 case atStart=>exact ⟨0,vv,Nat.zero_le _,rfl,hide (by simpa using H.out),hide (Kf.refl _ _ _),hide (by simpa using HTW.out)⟩
 case round=>
  obtain ⟨i,vr,hil,rfl,HS,HF,HT⟩:=hrel
  by_cases hlt:i<V.length
  ·have d1:decide ((i:Int)<(V.length:Int))=true:=by simp;omega
   obtain ⟨x,hx⟩: ∃ x,V[i]? =some x:=⟨_,List.getElem?_eq_getElem hlt⟩
   have HTK:Hid (V.take (i+1)=V.take i++[x]):=hide (by rw [List.take_add_one,hx];rfl)
   have htt:=HT.out
   rw [drop_nth hx] at htt
   have htt':(Kn.isIn (bd++V.take i) x.1 || Kn.twiceP (bd++V.take i++[x]) (V.drop (i+1)))=false:=htt
   rw [Bool.or_eq_false_iff] at htt'
   obtain ⟨hin,ht2⟩:=htt'
   have HT2:Hid (Kn.twiceP (bd++V.take (i+1)) (V.drop (i+1))=false):=hide (by rw [HTK.out,←List.append_assoc];exact ht2)
   obtain ⟨b,o,hav,hcl⟩: ∃ b o,aV=some ⟨b,o,none⟩∧ ∀ (k:Nat) y,V[k]? =some y→w.cell? ⟨b,o+k * 2,none⟩=some (.string (bs y.1))∧w.cell? ⟨b,o+k * 2+1,none⟩=some (.string (bs y.2)):=by
    obtain ⟨a',cap',e1,hVc⟩:=HV.out
    injection e1 with ea _ _
    obtain ⟨b,o,h3,h4⟩:=hVc (fun e=>by rw [e] at hx;cases hx)
    exact ⟨b,o,by rw [ea,h3],h4⟩
   obtain ⟨n1,n2,n3,n4,n5⟩:=HVB.out b o hav
   subst hav
   obtain ⟨y0,y1⟩:=hcl i x hx
   have kb:=HF.out.block b n5 n1 n2 n3 n4
   have z0:=(World.cell?_of_block (w:=w) (a:=⟨b,o+i * 2,none⟩) kb).trans y0
   have z1:=(World.cell?_of_block (w:=w) (a:=⟨b,o+i * 2+1,none⟩) kb).trans y1
   obtain ⟨hx1,hx2⟩:=HZ.out x (List.mem_of_getElem? hx)
   have hk0:(0:Int)≤(i:Int):=by omega
   have hk1:(i:Int)<(V.length:Int):=by omega
   have hBD:(bd++V.take i).length≤999:=by simp;omega
   clear hcl y0 y1 kb htt ht2 HT HV
   generalize hbd:bd++V.take i=BD at *
   generalize hns:ns++V.take i=NS' at *
   have KA:Hid (Kp [] wr ((wr.alloc (.cells #[.string (bs x.1),.string (bs x.2)] 98)).drew)):=hide (((Kp.refl _ _).alloc _).drewN 1)
   have HS1:=HS.out.kp KA.out
   obtain ⟨v1,v2,v3,s1,s2,s3,W2,W3,W4,W5,X3,X4,X5,r1,r2,r3,r4,r5,r6,r7,k2,k3,k4,l3,l4,k5,l5⟩:=HS1.put2 x hin hx1
   obtain ⟨an,cn,rfl,-⟩:=vr_own HS1.ob
   have gm:=HS.out.gm
   have lb:=HS.out.mb.lt
   have lo:=HS.out.mo.lt
   have nb1:c.g ≠ c.mb:=by omega
   have nb2:c.g ≠ c.mo:=by omega
   have nb3:wr.heap.size ≠ c.mb:=by omega
   have nb4:wr.heap.size ≠ c.mo:=by omega
   have t0:=HS1.c0
   have t1:=HS1.c1
   have t2:=HS1.c2
   have t3:((wr.alloc (.cells #[.string (bs x.1),.string (bs x.2)] 98)).drew).cell? ⟨wr.heap.size,0,none⟩=some (.string (bs x.1)):=by simp [go_sem]
   have t4:Hid (((wr.alloc (.cells #[.string (bs x.1),.string (bs x.2)] 98)).drew).cell? ⟨wr.heap.size,1,none⟩=some (.string (bs x.2))):=hide (by simp [go_sem])
   have a0:=k2.cell nb1 nb2 t0
   have a1:=k2.cell nb1 nb2 t1
   have a2:=k2.cell nb1 nb2 t2
   have a3:=k2.cell nb3 nb4 t3
   have b0:=k3.cell nb1 nb2 t0
   have b1:=k3.cell nb1 nb2 t1
   have b2:=k3.cell nb1 nb2 t2
   have b3:=k3.cell nb3 nb4 t3
   have c0:=k4.cell nb1 nb2 t0
   have c1:=k4.cell nb1 nb2 t1
   have c2:=k4.cell nb1 nb2 t2
   have c3:=k4.cell nb3 nb4 t3
   have e0:=k5.mo.cell nb1 nb2 t0
   have e1:=k5.mo.cell nb1 nb2 t1
   have e2:=k5.mo.cell nb1 nb2 t2
   have e3:=k5.mo.cell nb3 nb4 t3
   have f0:=l3.cell nb1 nb2 t0
   have f1:=l3.cell nb1 nb2 t1
   have f2:=l3.cell nb1 nb2 t2
   have f3:=l3.cell nb3 nb4 t3
   have g0:=l4.cell nb1 nb2 t0
   have g1:=l4.cell nb1 nb2 t1
   have g2:=l4.cell nb1 nb2 t2
   have g3:=l4.cell nb3 nb4 t3
   have h0:=l5.mo.cell nb1 nb2 t0
   have h1:=l5.mo.cell nb1 nb2 t1
   have h2:=l5.mo.cell nb1 nb2 t2
   have h3:=l5.mo.cell nb3 nb4 t3
   have K5:=hide k5
   have L5:=hide l5
   have HH1:=hide HS1
   clear k2 k3 k4 k5 l3 l4 l5 HS1
   go_wp2
   go_region_held3 (fun w'=>w'.cell? ⟨c.g,0,none⟩=some (.slice an BD.length cn)∧w'.cell? ⟨c.g,1,none⟩=some (.map (some c.mb))∧w'.cell? ⟨c.g,2,none⟩=some (.map (some c.mo))∧w'.cell? ⟨wr.heap.size,0,none⟩=some (.string (bs x.1))) ((first|exact ⟨by assumption,by assumption,by assumption,by assumption⟩|go_keep)) (fail)
   all_goals
    first
     |refine with_world (P:=Pk c BD NS' x _) K5.out (G:=fun W=>Exit.then _ _ Exit.normal _ W) ?_
     |refine with_world (P:=Pk c BD NS' x _) L5.out (G:=fun W=>Exit.then _ _ Exit.normal _ W) ?_
    clear a0 a1 a2 a3 b0 b1 b2 b3 c0 c1 c2 c3 e0 e1 e2 e3 f0 f1 f2 f3 g0 g1 g2 g3 h0 h1 h2 h3 r1 r2 r3 r4 r5 r6 r7 K5 L5
    intro WW hPk
    have w0:=hPk.mo.cell nb1 nb2 t0
    have w3:=hPk.mo.cell nb3 nb4 t3
    have w4:=hPk.mo.cell nb3 nb4 t4.out
    have fw0:WW.frozen? ⟨c.g,0,none⟩=false:=(World.frozen?_of_block (a:=⟨c.g,0,none⟩) (hPk.mo.block c.g nb1 nb2)).trans (HH1.out.fz 0)
    have OB:Hid (WW.ownsRow (c.g+1) 98 2 (.slice an BD.length cn) BD.length (vcells BD)):=hide (own_keepv HH1.out.ob (fun b hb=>hPk.mo.block b (fun e=>by subst e;exact HH1.out.mb.not_row HH1.out.ob hb) (fun e=>by subst e;exact HH1.out.mo.not_row HH1.out.ob hb)))
    have HPK:=hide hPk
    have HBL:Hid (∀ b,(Value.slice an BD.length cn).ownBlock=some b→c.g+1≤b∧b<wr.heap.size):=hide (fun b hb=>⟨(HH1.out.ob.lt b hb).1,(HS.out.ob.lt b hb).2⟩)
    have hgs:c.g<WW.heap.size:=by rw [hPk.mo.size];exact HH1.out.lt
    have kc:Hid (Kp [] WW WW.drew):=hide ((Kp.refl _ _).drewN 1)
    have zx1:(bs x.1).size≤281474976710656:=by rw [bsz];omega
    have zx2:(bs x.2).size≤281474976710656:=by rw [bsz];omega
    have HCl:=hide (fun s w hs=>clone_any s w hs)
    clear hPk t0 t1 t2 t3 t4
    go_wp2
    go_region_law ((first
      |(refine step_append_lies _ rfl _ _ 35 rfl (c.g+1) 98 i0 (.agg #[.string ⟨#[]⟩,.string ⟨#[]⟩]) 2 32 Tryz.underlying35 hi0 hz0 hz1 hz2 rfl (by decide) (.slice an BD.length cn) BD.length (vcells BD) (by rfl) (by exact (own_keepv OB.out (fun b hb=>kc.out.block b (OB.out.lt b hb).2 (by simp))).alloc _) ⟨wq.heap.size,0,none⟩ 1 1 [.string (bs x.1),.string (bs x.2)] (by rfl) rfl (vcells_new _ _ _ _) (by intro u hu;simp at hu;rcases hu with rfl|rfl<;> rfl) (by decide) (by unfold maxLen;omega) (by omega) (by have:=kc.out.size;simp;omega) _ rfl ?_;intro gg cap2 w6 hown hgrow hat hlt6;have hbl:=HBL.out;have hkc:=kc.out.size;have u0:=hgrow.cell (((Kp.refl [] _).alloc _).some (kc.out.some w0 (by simp)) (by simp)) (fun e=>by have h9:=(hbl _ e.symm).1;exact absurd h9 (Nat.not_succ_le_self _));have u3:=hgrow.cell (((Kp.refl [] _).alloc _).some (kc.out.some w3 (by simp)) (by simp)) (fun e=>by have h9:=(hbl _ e.symm).2;exact absurd h9 (Nat.lt_irrefl _));have u4:=hgrow.cell (((Kp.refl [] _).alloc _).some (kc.out.some w4 (by simp)) (by simp)) (fun e=>by have h9:=(hbl _ e.symm).2;exact absurd h9 (Nat.lt_irrefl _));have fu0:w6.frozen? ⟨c.g,0,none⟩=false:=(hgrow.frozen_far ⟨c.g,0,none⟩ (by simp;omega) (fun e=>by have h9:=(hbl _ e.symm).1;exact absurd h9 (Nat.not_succ_le_self _))).trans ((((Kp.refl [] _).alloc _).frozen (p:=⟨c.g,0,none⟩) (by show c.g<_;omega) (by simp)).trans ((kc.out.frozen (p:=⟨c.g,0,none⟩) hgs (by simp)).trans fw0));have HOW:=hide hown;have HGR:=hide hgrow;have HAT:=hide hat;clear hown hgrow hat hbl hkc)
      |(refine step_call_ret rfl 26 #[.string (bs x.1)] ?_ (HCl.out _ _ zx1) ?_;(focus (go_simp;done));intro wq hbq;have kd:=hide (kc.out.trans (Kp.of_below (S:=[]) hbq));clear kc;have kc:=kd;clear kd hbq;have j0:=kc.out.some w0 (by simp);have j3:=kc.out.some w3 (by simp);have j4:=kc.out.some w4 (by simp);have ja0:(wq.alloc (.cells #[.string (bs x.1),.string (bs x.2)] 98)).cell? ⟨c.g,0,none⟩=some (.slice an BD.length cn):=((Kp.refl [] _).alloc _).some j0 (by simp))
      |(refine step_call_ret rfl 26 #[.string (bs x.2)] ?_ (HCl.out _ _ zx2) ?_;(focus (go_simp;done));intro wq hbq;have kd:=hide (kc.out.trans (Kp.of_below (S:=[]) hbq));clear kc;have kc:=kd;clear kd hbq;have j0:=kc.out.some w0 (by simp);have j3:=kc.out.some w3 (by simp);have j4:=kc.out.some w4 (by simp);have ja0:(wq.alloc (.cells #[.string (bs x.1),.string (bs x.2)] 98)).cell? ⟨c.g,0,none⟩=some (.slice an BD.length cn):=((Kp.refl [] _).alloc _).some j0 (by simp))))
    all_goals
     obtain ⟨hs7,hf7⟩:=KS.app (x:=x) (gg:=gg) HH1.out HPK.out kc.out HGR.out HOW.out rfl (HAT.out.imp id (fun e=>by first|exact e|(rw [e];simp))) (by omega) ⟨hx1,hx2⟩
     have S7:Hid (KS c (w6.setCell ⟨c.g,0,none⟩ (.slice (some ⟨gg,0,none⟩) (BD.length+1) cap2)) (.slice (some ⟨gg,0,none⟩) (BD.length+1) cap2) (bd++V.take (i+1)) (Kn.fkn (ns++V.take (i+1)) (bd++V.take (i+1))) t):=hide (by rw [HTK.out,←List.append_assoc,←List.append_assoc,hbd,hns];exact hs7)
     have F7:=hide (HF.out.trans ((Kf.of_kp (c:=c) (vv:= .slice an BD.length cn) KA.out).trans hf7))
     clear hs7 hf7 hbd hns
     go_wp2
     go_roundw
     case rel=>exact ⟨i+1,_,by omega,by go_num,S7,F7,HT2⟩
     case measure=>simp [intOf];omega
  ·obtain rfl:i=V.length:=by omega
   have d1:decide ((V.length:Int)<(V.length:Int))=false:=by simp
   go_wp2
   go_end0
   have:=HS.out
   rw [List.take_length] at this
   exact ⟨rfl,vr,this,HF.out⟩
end Go.Proofs.YtcdcoiobpbdmpaaGreatDoor
